"""Nolocktree: ordered trees read without locks."""
