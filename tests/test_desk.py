"""The desk: points 120 to 123, and the interface of nolocktree/desk.py."""

import random
import unittest

from nolocktree.desk import Desk
from nolocktree.errors import (
    Ended, Going, NoDoer, NoLevel, NoLine, NoMost, NoNumber, NoPlace, NoSpan, NoWeaving, TooMany, Waits)
from nolocktree.finds import Find
from nolocktree.joins import Join, Sink
from nolocktree.lines import told_levels
from nolocktree.puts import Put
from nolocktree.shapes import levels_of, pairs_of
from nolocktree.stretches import Parts, Whole
from nolocktree.takes import Take
from nolocktree.trees import Tree
from nolocktree.weavings import weaving_at, weavings
from tests.things import Checks, no_numbers, refusal, scene_of, told_scene

# A line of each form, each of which may be asked in the scene of asked_desk().
LINES = (
    "tree 2", "find 5", "put 5 6", "take 5", "join 5 0", "sink", "parts 1 5", "parts 1 -", "whole 1 5", "whole 1 -",
    "turn 3", "run 3", "rest", "now", "turns", "weavings", "going", "ready", "where 0", "waits 0", "answer 0", "row 0",
    "weaving 0", "number 3 3 3 4 4", "top", "places", "pairs", "levels", "node 0")


def tell(desk, *lines):
    """What the desk answers to these lines, one behind the other."""
    return [desk.tell(line) for line in lines]


def asked_desk():
    """A desk whose scene has a tree of two leaves, three ended calls, and two that go on."""
    desk = Desk()
    tell(desk, "tree 2", "put 10 1", "put 20 2", "put 30 3", "rest", "find 30", "sink")
    tell(desk, "turn 3", "turn 3", "turn 4")
    return desk


class FirstTests(unittest.TestCase):
    def test_a_new_desk(self):
        desk = Desk()
        self.assertEqual(
            tell(desk, "now", "turns", "weavings", "going", "ready", "weaving 0", "top", "places", "pairs", "levels",
                 "node 0"),
            ["0", "0", "1", "none", "none", "none", "0", "0", "none", "0", "0 0 - here - - keys goods"])

    def test_its_tree_has_most_three(self):
        desk = Desk()
        tell(desk, "put 1 1", "put 2 2", "put 3 3", "rest")
        self.assertEqual(tell(desk, "levels", "put 4 4", "rest", "levels"), ["0", "3", "28", "2 / 0 1"])

    def test_every_answer_is_a_text(self):
        for line in LINES:
            self.assertIs(type(asked_desk().tell(line)), str)


class DoTests(unittest.TestCase):
    def test_another_tree(self):
        desk = asked_desk()
        for most in (2, 3, 4, 5):
            self.assertEqual(desk.tell(f"tree {most}"), "ok")
            self.assertEqual(tell(desk, "now", "going", "places", "pairs", "find 1"), ["0", "none", "0", "none", "0"])
            for key in range(most + 1):
                self.assertEqual(desk.tell("places"), "0")
                tell(desk, f"put {key} 0", "rest")
            self.assertEqual(desk.tell("places"), "0 1 2")

    def test_calls_begin_and_are_answered_by_their_numbers(self):
        desk = Desk()
        lines = ("find 1", "put -5 999999999", "take -999999999", "join 5 0", "sink", "parts 0 5", "parts 0 -",
                 "whole -3 -2", "whole 0 -", "join 0 60")
        self.assertEqual(tell(desk, *lines), [str(number) for number in range(10)])
        self.assertEqual(tell(desk, "now", "going"), ["0", "0 1 2 3 4 5 6 7 8 9"])

    def test_turns_are_answered_by_where_the_doer_stood(self):
        desk = Desk()
        desk.tell("put 1 2")
        self.assertEqual(tell(desk, *["turn 0"] * 6), ["top -", "look 0", "read 0", "hold 0", "write 0", "free 0"])
        self.assertEqual(tell(desk, "where 0", "now"), ["ended -", "6"])

    def test_run_is_answered_by_now(self):
        desk = Desk()
        tell(desk, "find 1", "find 2")
        self.assertEqual(tell(desk, "run 0", "run 1 0 1", "where 0", "where 1"), ["1", "4", "read 0", "read 0"])
        self.assertEqual(tell(desk, "run 0 1", "now", "going"), ["6", "6", "none"])

    def test_rest_gives_each_turn_to_the_first_ready_one(self):
        desk = Desk()
        tell(desk, "find 1", "put 1 5", "find 1")
        self.assertEqual(tell(desk, "rest", "row 0", "row 1", "row 2"), ["12", "0 3 3", "0 9 9", "0 12 12"])
        self.assertEqual(tell(desk, "answer 0", "answer 2", "rest", "now"), ["-", "5", "12", "12"])

    def test_rest_passes_over_one_that_waits(self):
        desk = Desk()
        tell(desk, "find 1", "put 1 5")
        tell(desk, "run 0 1 1 1 1")
        self.assertEqual(tell(desk, "waits 0", "ready", "going"), ["0", "1", "0 1"])
        # When the leaf is freed, the first one is ready again.
        self.assertEqual(tell(desk, "rest", "row 0", "row 1", "answer 0"), ["9", "0 9 9", "0 7 7", "5"])


class AskTests(unittest.TestCase):
    def test_numbers_and_lists(self):
        desk = asked_desk()
        self.assertEqual(tell(desk, "now", "going", "ready", "top", "places"), ["25", "3 4", "3 4", "2", "0 1 2"])
        self.assertEqual(desk.tell("turns"), str(2 * (3 + 4 * (1 + 2)) * (2 * 4 * 3 + 13)))

    def test_where_and_waits(self):
        desk = asked_desk()
        self.assertEqual(tell(desk, "where 0", "where 3", "where 4"), ["ended -", "read 2", "look 2"])
        self.assertEqual(tell(desk, "waits 0", "waits 3", "waits 4"), ["-", "-", "-"])
        tell(desk, "put 40 4", "turn 5", "turn 5", "turn 5", "turn 5", "turn 5", "turn 5", "take 30", "run 6 6 6")
        self.assertEqual(tell(desk, "where 5", "where 6", "waits 6"), ["write 1", "look 1", "1"])

    def test_answers_of_each_kind(self):
        desk = Desk()
        tell(desk, "find 1", "put 1 5", "put 1 0", "find 1", "take 1", "take 1", "join 1 0", "sink", "whole 0 -",
             "parts 0 -")
        desk.tell("rest")
        self.assertEqual(tell(desk, *[f"answer {number}" for number in range(10)]),
                         ["-", "-", "5", "0", "0", "-", "no", "no", "none", "38 0 - none"])

    def test_answers_of_joins_and_sinks_that_were_done(self):
        desk = asked_desk()
        tell(desk, "rest", "take 10", "take 20", "join 10 0", "sink", "rest")
        self.assertEqual(tell(desk, "answer 4", "answer 7", "answer 8", "levels", "pairs"),
                         ["no", "yes", "yes", "0", "30:3"])

    def test_answers_of_stretches(self):
        desk = asked_desk()
        tell(desk, "rest", "whole 10 -", "whole 11 30", "parts 10 -", "parts 20 31", "whole 31 99", "parts 31 99",
             "rest")
        now = int(desk.tell("row 5").split(" ")[0])
        self.assertEqual(tell(desk, "answer 5", "answer 6", "answer 9"), ["10:1 20:2 30:3", "20:2", "none"])
        self.assertEqual(desk.tell("row 5"), f"{now} {now + 7} {now + 9}")
        self.assertEqual(desk.tell("answer 7"), f"{now + 20} 10 30 10:1 20:2 / {now + 22} 30 - 30:3")
        self.assertEqual(desk.tell("answer 8"), f"{now + 27} 20 30 20:2 / {now + 29} 30 31 30:3")
        self.assertEqual(desk.tell("answer 10"), f"{now + 40} 31 99 none")
        self.assertEqual(desk.tell("row 7"), f"{now} - {now + 22}")

    def test_rows(self):
        desk = asked_desk()
        self.assertEqual(tell(desk, "row 0", "row 1", "row 2"), ["0 6 6", "0 12 12", "0 19 22"])
        tell(desk, "rest", "sink", "rest")
        self.assertEqual(desk.tell("row 5"), "30 33 33")

    def test_negative_keys_and_goods(self):
        desk = Desk()
        tell(desk, "put -7 -70", "put -8 0", "rest", "find -7", "whole -9 -", "parts -8 -7", "rest")
        self.assertEqual(tell(desk, "pairs", "answer 2", "answer 3", "answer 4"),
                         ["-8:0 -7:-70", "-70", "-8:0 -7:-70", "22 -8 -7 -8:0"])

    def test_weavings(self):
        desk = Desk()
        self.assertEqual(tell(desk, "weavings", "weaving 0"), ["1", "none"])
        tell(desk, "find 1", "find 2")
        self.assertEqual(tell(desk, "weavings", "weaving 0", "weaving 19"), ["20", "0 0 0 1 1 1", "1 1 1 0 0 0"])
        self.assertEqual(tell(desk, "number 0 0 0 1 1 1", "number 1 1 1 0 0 0", "number 0 0 1 0 1 1"), ["0", "19", "1"])
        tell(desk, "rest")
        self.assertEqual(tell(desk, "weavings", "weaving 0"), ["1", "none"])

    def test_a_great_count(self):
        desk = Desk()
        tell(desk, "tree 2", "put 1 1", "put 2 2", "rest", "put 3 3", "put 4 4", "put 5 5")
        calls = [Put(1, 1), Put(2, 2)]
        scene = scene_of(Tree(2), *calls)
        for number in (0, 1):
            while number in scene.going():
                scene.turn(number)
        for call in (Put(3, 3), Put(4, 4), Put(5, 5)):
            scene.begin(call)
        self.assertGreater(weavings(scene), 10 ** 12)
        self.assertEqual(desk.tell("weavings"), str(weavings(scene)))
        self.assertEqual(desk.tell("weaving 999999999"), " ".join(str(one) for one in weaving_at(scene, 999999999)))

    def test_the_tree(self):
        desk = asked_desk()
        self.assertEqual(tell(desk, "top", "places", "pairs", "levels"), ["2", "0 1 2", "10:1 20:2 30:3", "2 / 0 1"])
        self.assertEqual(tell(desk, "node 0", "node 1", "node 2"),
                         ["0 3 - here 30 1 keys 10 20 goods 1 2", "0 0 - here - - keys 30 goods 3",
                          "1 0 - here - - keys 30 goods 0 1"])

    def test_nodes_that_are_held_or_gone(self):
        desk = asked_desk()
        tell(desk, "rest", "take 20", "rest", "find 30", "turn 6", "join 0 0", *["turn 7"] * 6)
        self.assertEqual(desk.tell("where 7"), "write 0")
        self.assertEqual(tell(desk, "node 0", "node 1", "node 2"),
                         ["0 4 7 here 30 1 keys 10 goods 1", "0 0 7 here - - keys 30 goods 3",
                          "1 0 7 here - - keys 30 goods 0 1"])
        tell(desk, *["turn 7"] * 5)
        self.assertEqual(tell(desk, "node 0", "node 1", "node 2", "places", "levels"),
                         ["0 5 - here - - keys 10 30 goods 1 3", "0 1 - gone - - keys 30 goods 3",
                          "1 1 - here - - keys goods 0", "0 2", "2 / 0"])


    def test_levels_of_which_one_is_empty(self):
        # No scene comes to such a tree; how it would be told is told all the same.
        self.assertEqual(told_levels([[3, 4], [], []]), "3 4 / none / none")


class MirrorTests(unittest.TestCase):
    """A desk beside a scene: what the one answers the other one tells."""

    def call(self, draw):
        """A line that begins a call, and the call."""
        key, other = draw.randrange(-20, 20), draw.randrange(1, 9)
        return draw.choice((
            (f"find {key}", Find(key)), (f"put {key} {other}", Put(key, other)),
            (f"put {key} {other}", Put(key, other)),
            (f"take {key}", Take(key)), (f"join {key} 0", Join(key, 0)), (f"join {key} 1", Join(key, 1)),
            ("sink", Sink()),
            (f"parts {key} {key + other}", Parts(key, key + other)), (f"parts {key} -", Parts(key, None)),
            (f"whole {key} {key + other}", Whole(key, key + other)), (f"whole {key} -", Whole(key, None))))

    def test_drawn_lines(self):
        for seed in range(15):
            draw = random.Random(seed)
            desk, scene = Desk(), scene_of(Tree(2))
            desk.tell("tree 2")
            for turn in range(250):
                ready = scene.ready()
                if scene.now() < 400 and draw.random() < 0.15 and len(scene.history()) + len(scene.going()) < 60:
                    line, call = self.call(draw)
                    self.assertEqual(desk.tell(line), str(scene.begin(call)))
                elif ready:
                    number = draw.choice(ready)
                    word, place = scene.turn(number)
                    self.assertEqual(desk.tell(f"turn {number}"), f"{word} {'-' if place is None else place}")
                self.assertEqual(told_scene(desk.scene), told_scene(scene))
            self.check_tree(desk, scene)

    def check_tree(self, desk, scene):
        """That the desk tells the tree of the scene."""
        tree = scene.tree()
        self.assertEqual(desk.tell("now"), str(scene.now()))
        self.assertEqual(desk.tell("turns"), str(scene.turns()))
        self.assertEqual(desk.tell("pairs"), " ".join(f"{key}:{good}" for key, good in pairs_of(tree)) or "none")
        self.assertEqual(desk.tell("levels"),
                         " / ".join(" ".join(str(place) for place in places) for places in levels_of(tree)))
        self.assertEqual(desk.tell("going"), " ".join(str(number) for number in scene.going()) or "none")


class LineTests(Checks, unittest.TestCase):
    def check_no_line(self, thing):
        """That the thing is refused as no line, and changes nothing."""
        before = told_scene(self.desk.scene)
        self.check_refused(NoLine, "found", thing, self.desk.tell, thing)
        self.assertEqual(told_scene(self.desk.scene), before)

    def setUp(self):
        self.desk = asked_desk()

    def test_what_is_no_text(self):
        for thing in no_numbers() + [0, 7, ["now"], ("now",), {"now": 1}, Desk()]:
            if not isinstance(thing, str):
                self.check_no_line(thing)

    def test_what_has_no_such_word(self):
        for thing in ("", " ", "x", "Now", "NOW", "nows", "0", "-", "wholes", "key", "end", "finds 1", "gone", "free 0",
                      "leaf 0", "make 0", "hold 0", "look 0", "write 0", "go 0", "check 0", "history", "ended 0"):
            self.check_no_line(thing)

    def test_blanks_and_line_feeds(self):
        for line in LINES:
            for thing in (" " + line, line + " ", line + "\n", "\n" + line, "  " + line, line.upper()):
                self.check_no_line(thing)
            if " " in line:
                for thing in (line.replace(" ", "  "), line.replace(" ", "\n"), line.replace(" ", ""),
                              line.replace(" ", ",")):
                    self.check_no_line(thing)

    def test_a_word_too_many_or_too_few(self):
        for line in LINES:
            word = line.split(" ")[0]
            if word not in ("run", "number"):
                self.check_no_line(line + " 1")
                self.check_no_line(line + " -")
            if " " in line:
                self.check_no_line(word)
                self.check_no_line(word + " ")
        for thing in ("put 1", "put 1 2 3", "join 1", "parts 1", "whole 1", "parts 1 2 3", "tree", "tree 2 2"):
            self.check_no_line(thing)

    def test_keys_and_goods(self):
        for word in ("x", "", "-", "01", "-01", "00", "-0", "+1", "1.", "1000000000", "-1000000000", "0" * 9, "1x",
                     "--1", "None", "1-", "-x", "1_0", "9" * 30, "9" * 31):
            for line in ("find {}", "put {} 1", "put 1 {}", "take {}", "join {} 0", "parts {} 5", "parts {} -",
                         "whole {} 5"):
                self.check_no_line(line.format(word))
            if word != "-":
                for line in ("parts 1 {}", "whole 1 {}"):
                    self.check_no_line(line.format(word))
        for word in ("0", "7", "-7", "999999999", "-999999999", "100000000"):
            for line in ("find {}", "put {} 1", "put 1 {}", "take {}", "join {} 0", "parts {} -", "whole {} -"):
                self.assertTrue(self.desk.tell(line.format(word)).isdigit())

    def test_whole_numbers_from_nought_on(self):
        for word in ("x", "", "-", "-1", "01", "00", "-0", "+1", "1000000000", "0000000000", "1.", "9" * 31):
            for line in ("tree {}", "join 1 {}", "turn {}", "run {}", "run 3 {}", "run {} 3", "where {}", "waits {}",
                         "answer {}", "row {}", "weaving {}", "number {}", "number 3 {}", "node {}"):
                self.check_no_line(line.format(word))

    def test_nine_figures_and_ten(self):
        for line in ("turn {}", "where {}", "waits {}", "answer {}", "row {}"):
            error = refusal(self.desk.tell, line.format("9" * 9))
            self.assertIs(type(error), NoDoer)
            self.assertEqual(error.found, 999999999)
            self.check_no_line(line.format("9" * 10))

    def test_long_lines(self):
        self.check_no_line("x" * 4000)
        self.check_no_line("find " + "9" * 3995)
        self.check_no_line("run " + " ".join(["0"] * 1000) + " x")
        desk = Desk()
        tell(desk, *["find 1"] * 60)
        self.assertEqual(desk.tell("run " + " ".join([str(number) for number in range(60)] * 3)), "180")


class RefusedTests(Checks, unittest.TestCase):
    """Lines that are refused as the points refuse what they ask."""

    def setUp(self):
        self.desk = asked_desk()

    def check_told(self, kind, fields, line):
        """That the line is refused so, and changes nothing."""
        before = told_scene(self.desk.scene)
        error = refusal(self.desk.tell, line)
        self.assertIs(type(error), kind)
        self.assertEqual(vars(error), fields)
        self.assertEqual(told_scene(self.desk.scene), before)

    def test_trees(self):
        for most in (0, 1, 6, 999999999):
            self.check_told(NoMost, {"found": most}, f"tree {most}")

    def test_calls(self):
        for level in (61, 999999999):
            self.check_told(NoLevel, {"found": level}, f"join 1 {level}")
        for word in ("parts", "whole"):
            for low, high in ((5, 5), (5, 4), (0, -1), (999999999, -999999999)):
                self.check_told(NoSpan, {"low": low, "high": high}, f"{word} {low} {high}")

    def test_the_sixty_first_call(self):
        for number in range(5, 60):
            self.assertEqual(self.desk.tell("find 1"), str(number))
        for line in ("find 1", "put 1 2", "take 1", "join 1 0", "sink", "parts 1 -", "whole 1 2"):
            self.check_told(TooMany, {"count": 61}, line)
        self.check_told(NoSpan, {"low": 2, "high": 1}, "whole 2 1")

    def test_turns(self):
        self.check_told(NoDoer, {"found": 5}, "turn 5")
        self.check_told(Ended, {"doer": 0}, "turn 0")
        tell(self.desk, "put 1 1", *["turn 5"] * 6, "take 10", "turn 6", "turn 6", "turn 6")
        self.check_told(Waits, {"doer": 6, "place": 0}, "turn 6")

    def test_runs(self):
        self.check_told(NoWeaving, {"found": 0}, "run 9")
        self.check_told(NoWeaving, {"found": 1}, "run 3 0")
        self.check_told(NoWeaving, {"found": 4}, "run 3 4 3 3 3 3")

    def test_questions(self):
        for line in ("where 5", "waits 5", "answer 5", "row 5"):
            self.check_told(NoDoer, {"found": 5}, line)
        for line in ("answer 3", "row 3"):
            self.check_told(Going, {"doer": 3}, line)
        for place in (3, 999999999):
            self.check_told(NoPlace, {"found": place}, f"node {place}")

    def test_weavings(self):
        many = int(self.desk.tell("weavings"))
        self.assertEqual(len(self.desk.tell(f"weaving {many - 1}").split(" ")), 5)
        self.check_told(NoNumber, {"found": many}, f"weaving {many}")
        self.check_told(NoWeaving, {"found": 0}, "number 0")
        self.check_told(NoWeaving, {"found": 1}, "number 3")
        self.check_told(NoWeaving, {"found": 5}, "number 3 3 3 4 4 4")
        tell(self.desk, "find 1", "find 2")
        for line in ("weavings", "weaving 0", "weaving 999999999", "number 0"):
            self.check_told(TooMany, {"count": 4}, line)

    def test_too_many_places(self):
        tell(self.desk, "rest", *[f"put {key} 0" for key in range(40, 52)], "rest")
        many = len(self.desk.tell("places").split(" "))
        self.assertGreater(many, 8)
        for line in ("weavings", "weaving 0", "number 0"):
            self.check_told(TooMany, {"count": many}, line)

    def test_a_number_where_all_have_ended(self):
        desk = Desk()
        self.assertIs(type(refusal(desk.tell, "number")), NoLine)
        self.assertEqual(refusal(desk.tell, "number 0").found, 0)


class OwnTests(unittest.TestCase):
    def test_two_desks_have_nothing_in_common(self):
        first, second = Desk(), Desk()
        tell(first, "put 1 2", "rest")
        self.assertEqual(tell(second, "now", "pairs", "going", "find 1"), ["0", "none", "none", "0"])
        self.assertEqual(tell(first, "pairs", "find 1"), ["1:2", "1"])

    def test_questions_change_nothing(self):
        desk = asked_desk()
        before = told_scene(desk.scene)
        lines = [line for line in LINES if line.split(" ")[0] not in (
            "tree", "find", "put", "take", "join", "sink", "parts", "whole", "turn", "run", "rest")]
        told = tell(desk, *lines)
        self.assertEqual(told_scene(desk.scene), before)
        self.assertEqual(tell(desk, *lines), told)

    def test_desks_asked_alike_answer_alike(self):
        lines = ["put 1 1", "put 2 2", "put 3 3", "put 4 4", "run 0 1 2 3 3 2 1 0", "whole 0 -", "rest", "answer 4",
                 "levels"]
        self.assertEqual(tell(Desk(), *lines), tell(Desk(), *lines))


if __name__ == "__main__":
    unittest.main()
