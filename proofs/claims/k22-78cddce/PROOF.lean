import PyProof.Rows.All
import Wide.All
import OpenK.AllK
import Wide.FinOn
import Lean
import PyProof.EqAt
import PyProof.EqKinds
import PyProof.TupleCall
import PyProof.ExcInit
import PyProof.ExcClass3
import PyProof.ExcBaseAll.ValueError
import PyProof.ExcAttrAll.ValueError
import PyProof.ReprRoads
import PyProof.ReprReads
import PyProof.ExcRepr
import PyProof.RaisesMany
import PyProof.StationsW
import PyProof.RulesTry
import PyProof.RulesAs
import PyProof.Draws
import PyProof.EnumMake
import PyProof.EnumFor
import PyProof.ReprLen
import PyProof.ConsumeWalk
import PyProof.WalksMore
import PyProof.ListRange
import PyProof.Rows.SetFrom
import PyProof.SetRoads
import PyProof.FactsAll.subtypes_4
import PyProof.CollectStr
import PyProof.DictWalks
import PyProof.Rows.SortWalk
import PyProof.ZipIter
import PyProof.DictList
import PyProof.DictUpdate
import PyProof.MeetsSeq2
import PyProof.AttrMissHeap
import PyProof.TupleIter
import PyProof.FactsAll.zip
import KE.KDictOf
import KE.KEqDict
import PyProof.NsDelKeeps
import PyProof.DictItems
import PyProof.DictItemsLoops
import PyProof.DictValues
import KE.KPairComp
import KE.KItemsList
import PyProof.WalkInts
import PyProof.SeqI3
import PyProof.MinMaxWalk
import PySem.Challenge.RW_nolocktree_k22_whole_as_soon_as_nobody_l
set_option Elab.async false
set_option linter.all false
set_option maxRecDepth 100000
namespace L2
open PySem PySem.Spec PyProof.Rows
abbrev Key := Sum Int Str
def keyIs : Key → Value → Bool
  | .inl k, v => Value.isInt k v
  | .inr x, v => Value.isStrOf x v
def keyH (w : World) : Key → Int
  | .inl k => hashInt k
  | .inr x => hashStr w x
theorem keyIs_shape : ∀ {k : Key} {v : Value}, keyIs k v = true → (∃ i t, k = Sum.inl i ∧ v = Value.int i t) ∨ (∃ x t, k = Sum.inr x ∧ v = Value.str x t)
  | .inl i, v, h => by
    obtain ⟨t, e⟩ := Value.isInt_shape (k := i) (v := v) h
    exact .inl ⟨i, t, rfl, e⟩
  | .inr x, v, h => by
    obtain ⟨t, e⟩ := Value.isStrOf_shape (x := x) (v := v) h
    exact .inr ⟨x, t, rfl, e⟩
theorem keyIs_int (i : Int) (t : Tok) : keyIs (.inl i) (.int i t) = true := by simp [keyIs, Value.isInt]
theorem keyIs_str (x : Str) (t : Tok) : keyIs (.inr x) (.str x t) = true := by simp [keyIs, Value.isStrOf]
theorem key_ll (a b : Int) : decide ((Sum.inl a : Key) = Sum.inl b) = (a == b) := by
  by_cases e : a = b
  · subst e; simp
  · have h : ¬ (Sum.inl a : Key) = Sum.inl b := fun q => e (Sum.inl.inj q)
    rw [decide_eq_false h]
    exact (beq_eq_false_iff_ne.mpr e).symm
theorem key_rr (a b : Str) : decide ((Sum.inr a : Key) = Sum.inr b) = decide (a = b) := by
  by_cases e : a = b
  · subst e; simp
  · have h : ¬ (Sum.inr a : Key) = Sum.inr b := fun q => e (Sum.inr.inj q)
    rw [decide_eq_false h, decide_eq_false e]
theorem key_lr (a : Int) (b : Str) : decide ((Sum.inl a : Key) = Sum.inr b) = false := decide_eq_false (fun q => nomatch q)
theorem key_rl (a : Str) (b : Int) : decide ((Sum.inr a : Key) = Sum.inl b) = false := decide_eq_false (fun q => nomatch q)
def mixKind (prog : Program) (w : World) : PySem.KeyKind prog w Key where
  is := keyIs
  hash := keyH w
  inj := fun v a b ha hb => by
    rcases keyIs_shape ha with ⟨i, t, rfl, rfl⟩ | ⟨x, t, rfl, rfl⟩
    · rcases keyIs_shape hb with ⟨j, u, rfl, e⟩ | ⟨y, u, rfl, e⟩
      · injection e with e1 _; rw [e1]
      · exact nomatch e
    · rcases keyIs_shape hb with ⟨j, u, rfl, e⟩ | ⟨y, u, rfl, e⟩
      · exact nomatch e
      · injection e with e1 _; rw [e1]
  byValue := fun k v h => by
    rcases keyIs_shape h with ⟨i, t, rfl, rfl⟩ | ⟨x, t, rfl, rfl⟩ <;> rfl
  pyHash := fun hv h => by
    rcases keyIs_shape hv with ⟨i, t, rfl, rfl⟩ | ⟨x, t, rfl, rfl⟩
    · exact wpAny_pyHash_int h
    · exact wpAny_pyHash_str h
  eqBool := fun hu hv h => by
    rcases keyIs_shape hu with ⟨i, t, rfl, rfl⟩ | ⟨x, t, rfl, rfl⟩
    · rcases keyIs_shape hv with ⟨j, u, rfl, rfl⟩ | ⟨y, u, rfl, rfl⟩
      · rw [key_ll] at h; exact wpAny_eqBool_int h
      · rw [key_lr] at h; exact SeqAt.EqAt.int_str i t y u _ _ _ _ h
    · rcases keyIs_shape hv with ⟨j, u, rfl, rfl⟩ | ⟨y, u, rfl, rfl⟩
      · rw [key_rl] at h; exact SeqAt.EqAt.str_int x t j u _ _ _ _ h
      · rw [key_rr] at h; exact wpAny_eqBool_str h
  «strs» := fun k x t v h => by
    rcases keyIs_shape h with ⟨i, u, rfl, e⟩ | ⟨y, u, rfl, e⟩
    · exact nomatch e
    · injection e with e1 _
      subst e1
      cases v <;> rfl
theorem mixKind_is (prog : Program) (w : World) (k : Key) (v : Value) : (mixKind prog w).is k v = keyIs k v := rfl
theorem mixKind_int (prog : Program) (w : World) (i : Int) (t : Tok) : (mixKind prog w).is (.inl i) (.int i t) = true := keyIs_int i t
theorem mixKind_str (prog : Program) (w : World) (x : Str) (t : Tok) : (mixKind prog w).is (.inr x) (.str x t) = true := keyIs_str x t
end L2
namespace L2
open PySem PySem.Spec PyProof.Rows
inductive V where
  | non | bl (b : Bool) | int (i : Int) | str (x : Str) | byt (b : Array UInt8) | flt (b : UInt64) | ref (a : Addr) | ty (n : String)
  deriving DecidableEq
def RelV : V → Value → Prop
  | .non, u => u = Value.none
  | .bl b, u => u = Value.bool b
  | .int i, u => ∃ t, u = Value.int i t
  | .str x, u => ∃ t, u = Value.str x t
  | .byt b, u => ∃ t, u = Value.bytes b t
  | .flt b, u => ∃ t, u = Value.float b t
  | .ref a, u => u = Value.ref a
  | .ty n, u => u = Value.type n
abbrev Vals : List V → List Value → Prop := Paired RelV
theorem Vals.length {xs : List V} {us : List Value} (r : Vals xs us) : xs.length = us.length := Paired.length r
theorem Vals.get : ∀ {xs : List V} {us : List Value} {i : Nat} {x : V}, Vals xs us → xs[i]? = some x → ∃ u, us[i]? = some u ∧ RelV x u
  | _, _, _, _, .nil, e => by simp at e
  | _, _, 0, _, .cons r _, e => by simp at e; subst e; exact ⟨_, rfl, r⟩
  | _, _, i + 1, x, .cons _ t, e => by
    obtain ⟨u, h1, h2⟩ := Vals.get (i := i) (x := x) t (by simpa using e)
    exact ⟨u, by simpa using h1, h2⟩
theorem Vals.set {x : V} {u : Value} (r : RelV x u) : ∀ {xs : List V} {us : List Value} (i : Nat), Vals xs us → Vals (xs.set i x) (us.set i u)
  | _, _, _, .nil => .nil
  | _, _, 0, .cons _ t => .cons r t
  | _, _, i + 1, .cons q t => .cons q (Vals.set r i t)
theorem Vals.append : ∀ {xs ys : List V} {us ws : List Value}, Vals xs us → Vals ys ws → Vals (xs ++ ys) (us ++ ws)
  | _, _, _, _, .nil, s => s
  | _, _, _, _, .cons r t, s => .cons r (Vals.append t s)
theorem Vals.take : ∀ {xs : List V} {us : List Value} (n : Nat), Vals xs us → Vals (xs.take n) (us.take n)
  | _, _, 0, _ => .nil
  | _, _, _ + 1, .nil => .nil
  | _, _, n + 1, .cons r t => .cons r (Vals.take n t)
theorem Vals.drop : ∀ {xs : List V} {us : List Value} (n : Nat), Vals xs us → Vals (xs.drop n) (us.drop n)
  | _, _, 0, r => r
  | _, _, _ + 1, .nil => .nil
  | _, _, n + 1, .cons _ t => Vals.drop n t
def RelO : Option V → Option Value → Prop
  | some v, some u => RelV v u
  | none, none => True
  | _, _ => False
def KV {κ : Type} : List (κ × V) → List (κ × Value) → Prop := Paired fun (p : κ × V) (q : κ × Value) => p.1 = q.1 ∧ RelV p.2 q.2
def kV : Key → V
  | .inl i => .int i
  | .inr x => .str x
inductive HO where
  /-- a list -/
  | lst (xs : List V)
  /-- a tuple (never changes) -/
  | tup (xs : List V)
  /-- a dict whose keys are ints and texts; one whose keys are tuples of ints and texts (the empty one is both) -/
  | dK (kvs : List (Key × V)) | dT (kvs : List (List Key × V))
  /-- a set of ints: its members, its size -/
  | set (S : Int → Bool) (n : Nat)
  /-- an instance of the class at C, its dict at dx, its attributes -/
  | ins (C dx : Addr) (fs : List (Str × V))
  /-- the dict of the instance at x -/
  | own (x : Addr)
  /-- the dict of an exception -/
  | xd (fs : List (Str × V))
  /-- a bound method, f of x -/
  | met (f x : Addr)
  /-- a range object lo, lo + 1, .. below hi -/
  | rng (lo hi : Int)
  /-- a thing that is known to the object (the script; a dict while a loop walks it): read, never written while it is so -/
  | frz (o : Obj) (u : HO)
  /-- a code object's table -/
  | tbl (ps : Array Value)
  /-- any other thing, by what is true of its one object (a def of one's own: SetO a S n := HO.ext fun h => ..) -/
  | ext (φ : Heap → Prop)
abbrev Hp := Addr → Option HO
def upd (H : Hp) (a : Addr) (o : HO) : Hp := fun b => if b = a then some o else H b
theorem upd_same {H : Hp} {a : Addr} {o : HO} : upd H a o a = some o := by unfold upd; rw [if_pos rfl]
theorem upd_ne {H : Hp} {a b : Addr} {o : HO} (h : b ≠ a) : upd H a o b = H b := by unfold upd; rw [if_neg h]
theorem ne_of {H : Hp} {a b : Addr} {o u : HO} (h : H a = some o) (h' : H b = some u) (d : o ≠ u) : a ≠ b := by
  intro e; subst e; rw [h] at h'; exact d (Option.some.inj h')
theorem ne_of_none {H : Hp} {a b : Addr} {o : HO} (h : H a = some o) (h' : H b = none) : a ≠ b := by
  intro e; subst e; rw [h] at h'; cases h'
theorem tup_nodict {h : Heap} {xs : Array Value} : ∀ o, (h.push { cls := .type "tuple", data := .seq xs }).get? h.objs.size = some o → o.dict = none := fun o e => by
  rw [Heap.get?_push_size _ rfl] at e
  cases e
  rfl
section
variable (P : Program) (w : World)
def ObjOk (H : Hp) (h : Heap) (a : Addr) : HO → Prop
  | .lst xs => xs.length ≤ sizeLine ∧ ∃ (its : List Value) (n : Nat), Vals xs its ∧ h.get? a = some { cls := .type "list", data := .seq its.toArray n }
  | .tup xs => xs.length ≤ sizeLine ∧ ∃ its : List Value, Vals xs its ∧ IsTup h a its.toArray ∧ ∀ o, h.get? a = some o → o.dict = none
  | .dK kvs => kvs.length ≤ sizeLine ∧ (a == sysModules) = false ∧ ∃ vs, KV kvs vs ∧ h.DictOf (mixKind P w) a vs
  | .dT kvs => kvs.length ≤ sizeLine ∧ (a == sysModules) = false ∧ ∃ xs : List (List Key × Addr × Value),
      Paired (fun (p : List Key × V) (q : List Key × Addr × Value) => p.1 = q.1 ∧ H q.2.1 = some (.tup (p.1.map kV)) ∧ RelV p.2 q.2.2) kvs xs ∧
      ∃ o es ep, h.get? a = some o ∧ o.ExactDict ∧ o.data = .dict es ep ∧ es.toList = xs.map (entryOfKey (tupleKind (mixKind P w))) ∧ (xs.map (·.1)).Nodup
  | .set S n => h.SetOf (intKind P w) a S n
  | .ins C dx fs => H dx = some (.own a) ∧ fs.length ≤ 1000 ∧ dx ≠ a ∧ h.get? a = some (PySem.W.instObj C dx) ∧
      ∃ mA, h.Ns1 dx mA ∧ (∀ f, RelO (fs.lookup f) (mA f)) ∧ PySem.Within mA (fs.map (·.1))
  | .own _ => ∃ o, h.get? a = some o
  | .xd fs => ∃ mA, h.Ns1 a mA ∧ ∀ f, RelO (fs.lookup f) (mA f)
  | .rng lo hi => ∃ t u v, h.get? a = some { cls := .type "range", data := .fields #[.int lo t, .int hi u, .int 1 v] }
  | .frz o u => h.get? a = some o ∧ ObjOk H h a u
  | .tbl ps => h.get? a = some { cls := .none, data := .fields ps }
  | .met f x => h.get? a = some (PySem.W.methodObj (.ref f) (.ref x))
  | .ext φ => φ h ∧ (∃ o, h.get? a = some o) ∧ ∀ h1 h2 : Heap, φ h1 → (∀ o, h1.get? a = some o → h2.get? a = some o) → φ h2
def HOk (H : Hp) (h : Heap) : Prop := ∀ a o, H a = some o → ObjOk P w H h a o
end
section
variable {P : Program} {w : World} {H H' : Hp} {h h' : Heap} {a : Addr} {o : HO}
theorem ObjOk.lt (x : ObjOk P w H h a o) : a < h.objs.size := by
  cases o with
  | lst xs => obtain ⟨_, _, _, _, e⟩ := x; exact Heap.lt_size e
  | tup xs => obtain ⟨_, _, _, p, _⟩ := x; exact p.lt
  | dK kvs => obtain ⟨_, _, _, _, o, _, _, e, _⟩ := x; exact Heap.lt_size e
  | dT kvs => obtain ⟨_, _, _, _, o, _, _, e, _⟩ := x; exact Heap.lt_size e
  | set S n => obtain ⟨o, _, _, _, e, _⟩ := x; exact Heap.lt_size e
  | ins C dx fs => obtain ⟨_, _, _, e, _⟩ := x; exact Heap.lt_size e
  | own y => obtain ⟨_, e⟩ := x; exact Heap.lt_size e
  | xd fs => obtain ⟨_, ⟨_, _, _, e, _⟩, _⟩ := x; exact Heap.lt_size e
  | rng lo hi => obtain ⟨_, _, _, e⟩ := x; exact Heap.lt_size e
  | frz ob u => obtain ⟨e, _⟩ := x; exact Heap.lt_size e
  | tbl ps => exact Heap.lt_size (show h.get? a = some _ from x)
  | met f y => exact Heap.lt_size (show h.get? a = some _ from x)
  | ext φ => obtain ⟨_, ⟨_, e⟩, _⟩ := x; exact Heap.lt_size e
theorem Paired.mapP {α β : Type} {F G : α → β → Prop} : ∀ {l₁ : List α} {l₂ : List β}, Paired F l₁ l₂ → (∀ a b, F a b → G a b) → Paired G l₁ l₂
  | _, _, .nil, _ => .nil
  | _, _, .cons r t, f => .cons (f _ _ r) (Paired.mapP t f)
theorem ObjOk.stay (x : ObjOk P w H h a o) (k : ∀ b u, (b = a ∨ H b = some (.own a)) → h.get? b = some u → h'.get? b = some u)
    (ho : ∀ b, H b = some (.own a) → H' b = some (.own a)) (ht : ∀ b xs, H b = some (.tup xs) → H' b = some (.tup xs)) : ObjOk P w H' h' a o := by
  induction o with
  | lst xs => obtain ⟨z, its, n, r, e⟩ := x; exact ⟨z, its, n, r, k _ _ (.inl rfl) e⟩
  | tup xs =>
    obtain ⟨z, its, r, ⟨ob, e, c⟩, dn⟩ := x
    have e2 := k _ _ (.inl rfl) e
    exact ⟨z, its, r, ⟨ob, e2, c⟩, fun o q => by rw [e2] at q; cases q; exact dn _ e⟩
  | dK kvs => obtain ⟨z, y, vs, r, ob, es, ep, e, c⟩ := x; exact ⟨z, y, vs, r, ob, es, ep, k _ _ (.inl rfl) e, c⟩
  | dT kvs =>
    obtain ⟨z, y, xs, r, ob, es, ep, e, c⟩ := x
    exact ⟨z, y, xs, Paired.mapP r fun p q z => ⟨z.1, ht _ _ z.2.1, z.2.2⟩, ob, es, ep, k _ _ (.inl rfl) e, c⟩
  | set S n => obtain ⟨ob, es, ep, t, e, c⟩ := x; exact ⟨ob, es, ep, t, k _ _ (.inl rfl) e, c⟩
  | ins C dx fs =>
    obtain ⟨d, z, ne, e, mA, ⟨od, es, ep, e2, c⟩, r⟩ := x
    exact ⟨ho _ d, z, ne, k _ _ (.inl rfl) e, mA, ⟨od, es, ep, k _ _ (.inr d) e2, c⟩, r⟩
  | own y => obtain ⟨ob, e⟩ := x; exact ⟨ob, k _ _ (.inl rfl) e⟩
  | xd fs => obtain ⟨mA, ⟨od, es, ep, e, c⟩, r⟩ := x; exact ⟨mA, ⟨od, es, ep, k _ _ (.inl rfl) e, c⟩, r⟩
  | rng lo hi => obtain ⟨t, u, v, e⟩ := x; exact ⟨t, u, v, k _ _ (.inl rfl) e⟩
  | frz ob u ih => obtain ⟨e, q⟩ := x; exact ⟨k _ _ (.inl rfl) e, ih q⟩
  | tbl ps =>
    have e : h.get? a = some { cls := .none, data := .fields ps } := x
    show h'.get? a = some { cls := .none, data := .fields ps }
    exact k a _ (.inl rfl) e
  | met f y =>
    have e : h.get? a = some (PySem.W.methodObj (.ref f) (.ref y)) := x
    show h'.get? a = some (PySem.W.methodObj (.ref f) (.ref y))
    exact k a _ (.inl rfl) e
  | ext φ => obtain ⟨p, ⟨o, e⟩, st⟩ := x; exact ⟨st _ _ p fun o q => k _ _ (.inl rfl) q, ⟨o, k _ _ (.inl rfl) e⟩, st⟩
theorem HOk.lt (x : HOk P w H h) (e : H a = some o) : a < h.objs.size := (x a o e).lt
theorem HOk.fresh (x : HOk P w H h) (e : h.objs.size ≤ a) : H a = none := by
  cases q : H a with
  | none => rfl
  | some u => exact absurd (Nat.lt_of_lt_of_le (x.lt q) e) (Nat.lt_irrefl _)
theorem HOk.kept (x : HOk P w H h) (k : ∀ b u, h.get? b = some u → h'.get? b = some u) : HOk P w H h' := fun a o e =>
  (x a o e).stay (fun b u _ q => k b u q) (fun _ q => q) fun _ _ q => q
theorem HOk.laid (x : HOk P w H h) (k : ∀ b u, h.get? b = some u → h'.get? b = some u) (hp : h.objs.size ≤ a) (new : ObjOk P w (upd H a o) h' a o) : HOk P w (upd H a o) h' := fun b u e => by
  have hn := x.fresh hp
  by_cases hb : b = a
  · subst hb; rw [upd_same] at e; cases e; exact new
  · rw [upd_ne hb] at e
    exact (x b u e).stay (fun c v _ q => k c v q) (fun c q => by rw [upd_ne (ne_of_none q hn)]; exact q) fun c xs q => by rw [upd_ne (ne_of_none q hn)]; exact q
end
def Rd (H : Hp) (a : Addr) (u : HO) : Prop := H a = some u ∨ ∃ o, H a = some (.frz o u)
theorem Rd.ok {P : Program} {w : World} {H : Hp} {h : Heap} {a : Addr} {u : HO} (r : Rd H a u) (x : HOk P w H h) : ObjOk P w H h a u := by
  rcases r with r | ⟨o, r⟩
  · exact x a u r
  · obtain ⟨_, q⟩ := x a _ r
    exact q
def Mut : Option HO → Prop
  | some (.lst _) => True
  | some (.dK _) => True
  | some (.dT _) => True
  | some (.set _ _) => True
  | some (.ins _ _ _) => True
  | some (.ext _) => True
  | _ => False
section
variable {P : Program} {w : World} {H : Hp} {h h' : Heap} {x e : Addr} {o' : HO}
theorem HOk.write (ok : HOk P w H h) (mu : Mut (H x)) (he : e = x ∨ H e = some (.own x)) (k : ∀ b u, b ≠ e → h.get? b = some u → h'.get? b = some u) (heo : ∃ u, h'.get? e = some u)
    (new : ObjOk P w (upd H x o') h' x o') : HOk P w (upd H x o') h' := fun b u q => by
  have nown : ∀ c y, H c = some (.own y) → c ≠ x := fun c y r z => by subst z; rw [r] at mu; exact mu
  have ntup : ∀ c xs, H c = some (.tup xs) → c ≠ x := fun c xs r z => by subst z; rw [r] at mu; exact mu
  by_cases hb : b = x
  · subst hb; rw [upd_same] at q; cases q; exact new
  · rw [upd_ne hb] at q
    by_cases hbe : b = e
    · have q' : H b = some (.own x) := by
        rcases he with z | z
        · exact absurd (hbe.trans z) hb
        · rw [hbe]; exact z
      rw [q] at q'; cases q'
      obtain ⟨v, hv⟩ := heo
      exact ⟨v, by rw [hbe]; exact hv⟩
    · refine (ok b u q).stay (fun c v hc r => k c v ?_ r) (fun c r => by rw [upd_ne (nown c b r)]; exact r) fun c xs r => by rw [upd_ne (ntup c xs r)]; exact r
      rcases hc with rfl | hc
      · exact hbe
      · rintro rfl
        rcases he with z | z
        · exact nown c b hc z
        · rw [hc] at z; cases z; exact hb rfl
end
structure Un (fs ex : List Addr) (H H' : Hp) (h h' : Heap) : Prop where
  keep : ∀ b o, h.get? b = some o → H b = none → b ∉ fs → b ∉ ex → h'.get? b = some o
  slot : ∀ b o, h.get? b = some o → H b = none → b ∈ fs → b ∉ ex → ∃ sl, h'.get? b = some { o with slots := sl }
  free : ∀ b o, h.get? b = some o → H b = none → b ∉ ex → H' b = none
  there : ∀ b o, h.get? b = some o → b ∉ ex → ∃ o', h'.get? b = some o'
  tups : ∀ b xs, H b = some (.tup xs) → H' b = some (.tup xs)
  frzs : ∀ b o u, H b = some (.frz o u) → H' b = some (.frz o u)
  tbls : ∀ b ps, H b = some (.tbl ps) → ∃ more, H' b = some (.tbl (ps ++ more))
section
variable {fs fs' ex ex' : List Addr} {H H1 H2 : Hp} {h h1 h2 h' : Heap} {a x e : Addr} {o : HO}
theorem Un.any (u : Un fs ex H H1 h h1) {b : Addr} {ob : Obj} (q : h.get? b = some ob) (n : H b = none) (hx : b ∉ ex) : ∃ sl, h1.get? b = some { ob with slots := sl } := by
  by_cases hb : b ∈ fs
  · exact u.slot b ob q n hb hx
  · exact ⟨ob.slots, u.keep b ob q n hb hx⟩
theorem Un.kept (k : ∀ b u, h.get? b = some u → h'.get? b = some u) : Un fs ex H H h h' :=
  ⟨fun b ob q _ _ _ => k b ob q, fun b ob q _ _ _ => ⟨ob.slots, k b ob q⟩, fun _ _ _ n _ => n, fun b ob q _ => ⟨ob, k b ob q⟩, fun _ _ q => q, fun _ _ _ q => q, fun _ ps q => ⟨#[], by rw [q]; simp⟩⟩
theorem Un.refl : Un fs ex H H h h := Un.kept fun _ _ q => q
theorem Un.laid (k : ∀ b u, h.get? b = some u → h'.get? b = some u) (hp : h.objs.size ≤ a) (hn : H a = none) : Un fs ex H (upd H a o) h h' where
  keep := fun b u q _ _ _ => k b u q
  slot := fun b u q _ _ _ => ⟨u.slots, k b u q⟩
  free := fun b u q n _ => by rw [upd_ne (Nat.ne_of_lt (Nat.lt_of_lt_of_le (Heap.lt_size q) hp))]; exact n
  there := fun b u q _ => ⟨u, k b u q⟩
  tups := fun b xs q => by rw [upd_ne (ne_of_none q hn)]; exact q
  frzs := fun b u xs q => by rw [upd_ne (ne_of_none q hn)]; exact q
  tbls := fun b ps q => ⟨#[], by rw [upd_ne (ne_of_none q hn), q]; simp⟩
theorem Un.write (mu : Mut (H x)) (he : e = x ∨ H e = some (.own x)) (k : ∀ b u, b ≠ e → h.get? b = some u → h'.get? b = some u) (heo : ∃ u, h'.get? e = some u) : Un fs ex H (upd H x o) h h' := by
  have hx : ∀ b, H b = none → b ≠ x := fun b n z => by subst z; rw [n] at mu; exact mu
  have hb : ∀ b, H b = none → b ≠ e := fun b n z => by
    subst z
    rcases he with r | r
    · exact hx b n r
    · rw [n] at r; cases r
  have hm : ∀ b u, H b = some u → ¬ Mut (some u) → b ≠ x := fun b u q nm z => by subst z; rw [q] at mu; exact nm mu
  refine ⟨fun b u q n _ _ => k b u (hb b n) q, fun b u q n _ _ => ⟨u.slots, k b u (hb b n) q⟩, fun b u q n _ => by rw [upd_ne (hx b n)]; exact n, fun b u q _ => ?_,
    fun b xs q => by rw [upd_ne (hm b _ q fun z => z)]; exact q, fun b u xs q => by rw [upd_ne (hm b _ q fun z => z)]; exact q, fun b ps q => ⟨#[], by rw [upd_ne (hm b _ q fun z => z), q]; simp⟩⟩
  by_cases hbe : b = e
  · subst hbe; exact heo
  · exact ⟨u, k b u hbe q⟩
end
def trk (h : Heap) (H : Hp) : List Addr := (List.range h.objs.size).filter fun a => (H a).isSome
def hidT (h : Heap) (H : Hp) : Heap := PySem.W.hideAll h (trk h H)
theorem hidT_size (h : Heap) (H : Hp) : (hidT h H).objs.size = h.objs.size := PySem.W.hideAll_size _ _
theorem hidT_get {h : Heap} {H : Hp} {b : Addr} {o : Obj} (e : h.get? b = some o) (n : H b = none) : (hidT h H).get? b = some o :=
  PySem.W.hideAll_get _ e fun hm => by
    have q : (H b).isSome = true := (List.mem_filter.mp hm).2
    rw [n] at q; simp at q
theorem of_hidT {h : Heap} {H : Hp} {b : Addr} {o : Obj} (e : (hidT h H).get? b = some o) : h.get? b = some o ∧ H b = none := by
  have e' : h.get? b = some o := PySem.W.of_hideAll (trk h H) e
  refine ⟨e', ?_⟩
  cases q : H b with
  | none => rfl
  | some x =>
    have hm : b ∈ trk h H := List.mem_filter.mpr ⟨List.mem_range.mpr (Heap.lt_size e'), by simp [q]⟩
    have z : (hidT h H).get? b = none := PySem.W.hideAll_none (trk h H) hm
    rw [z] at e; cases e
end L2
namespace L2
open PySem PySem.Spec PyProof.Rows
structure Mod (K : PySem.W.Frag) (mg : Str → Option Value) (base : Heap) : Prop where
  kin : K.In base
  glob : base.Ns mainGlobals mg
  blt : ∃ mb, base.Ns builtinsNs mb ∧ ∀ x : Str, x ≠ "__name__" → mb x = bootBuiltins x
  nolimit : base.NoLimit
structure Cx where
  prog : Program
  w : World
  K : PySem.W.Frag
  mg : Str → Option Value
  base : Heap
  A : Around
  N : List Str
  s₀ : Shared
  H₀ : Hp
  env : Env
  outer : List Env
  stack : List Env
  ex : List Addr
  fn : Str → Bool
  calm : Bool
  pn : List (Addr × Obj)
  xe : Value → Shared → Prop
def frs (l : List Env) : List Addr := l.filterMap (·.frame)
abbrev Cx.fs (X : Cx) : List Addr := frs X.outer
def Vis (sc : Scope) (x : Str) : Prop := sc.names.lookup x = some .local ∨ sc.names.lookup x = some .cell ∨ sc.names.lookup x = some .free
def Loc (sc : Scope) (x : Str) : Prop := sc.names.lookup x = some .local ∨ sc.names.lookup x = some .cell
def Look (env : Env) (h : Heap) (m : Str → Option Value) (x : Str) (u : Value) : Prop :=
  (env.kindOf x = some .local ∧ m x = some u) ∨ ((env.kindOf x = some .cell ∨ env.kindOf x = some .free) ∧ ∃ c, env.cells.lookup x = some c ∧ h.IsCell c (some u))
structure Cx.Ok (X : Cx) : Prop where
  mod : Mod X.K X.mg X.base
  kind : X.env.scope.kind = .function
  glob : X.env.globals = mainGlobals
  blt : X.env.builtins = builtinsNs
  above : X.s₀.heap.objs.size ≤ X.env.locals
  inj : ∀ x y c, X.env.cells.lookup x = some c → X.env.cells.lookup y = some c → x = y
  has : ∀ x, (X.env.kindOf x = some .cell ∨ X.env.kindOf x = some .free) → ∃ c, X.env.cells.lookup x = some c
  cab : ∀ x c, X.fn x = true → X.env.cells.lookup x = some c → X.s₀.heap.objs.size ≤ c
  hd : X.calm = true → X.A.handled = none
  frames : X.A.frames = some X.stack
  stk : X.stack = X.outer ∨ (X.stack = X.env :: X.outer ∧ X.env.frame = some X.env.locals)
  exf : ∀ b ∈ X.ex, b ≠ X.env.locals ∧ ∀ x c, X.env.cells.lookup x = some c → c ≠ b
  bs : ∀ b o, X.base.get? b = some o → X.s₀.heap.get? b = some o ∧ X.H₀ b = none
  bsz : X.base.objs.size ≤ X.s₀.heap.objs.size
  noex : ∀ b o, X.base.get? b = some o → b ∉ X.ex
  exfs : ∀ b ∈ X.ex, b ∉ X.fs
  funs : X.s₀.heap.FunFrames X.base X.outer
  frf : ∀ b ∈ X.fs, X.H₀ b = none
structure Inv (X : Cx) (pins : List (Addr × Obj)) (σ : List (Option V)) (H : Hp) (s : Shared) : Prop where
  ok : X.Ok
  os : s.os = X.s₀.os
  bare : AllBare s.gens
  base : Un X.fs X.ex X.H₀ H X.s₀.heap s.heap
  loc : ∃ m, s.heap.Ns X.env.locals m ∧ ∀ (i : Nat) (x : Str) (v : V), X.N[i]? = some x → σ[i]? = some (some v) → Vis X.env.scope x → ∃ u, RelV v u ∧ Look X.env s.heap m x u
  cell : ∀ x c, X.env.cells.lookup x = some c → ∃ v, s.heap.IsCell c v
  free : H X.env.locals = none
  freeC : ∀ x c, X.env.cells.lookup x = some c → H c = none
  pin : ∀ p ∈ X.pn ++ pins, s.heap.get? p.1 = some p.2 ∧ H p.1 = none ∧ p.1 ≠ X.env.locals ∧ p.1 ∉ X.fs ∧ ∀ v, p.2.data ≠ .cell v
  hok : HOk X.prog X.w H s.heap
  len : σ.length = X.N.length
section
variable {X : Cx} {pins : List (Addr × Obj)} {σ : List (Option V)} {H H' : Hp} {s : Shared} {h' : Heap}
theorem Cx.Ok.nofr (ok : X.Ok) {b : Addr} {o : Obj} (e : X.base.get? b = some o) : b ∉ X.fs := fun hb => by
  have := (ok.funs.mem hb).1
  rw [e] at this; cases this
theorem Inv.bs (I : Inv X pins σ H s) : ∀ b o, X.base.get? b = some o → s.heap.get? b = some o ∧ H b = none := fun b o e =>
  ⟨I.base.keep b o (I.ok.bs b o e).1 (I.ok.bs b o e).2 (I.ok.nofr e) (I.ok.noex b o e), I.base.free b o (I.ok.bs b o e).1 (I.ok.bs b o e).2 (I.ok.noex b o e)⟩
theorem Inv.bk (I : Inv X pins σ H s) : ∀ b o, X.base.get? b = some o → s.heap.get? b = some o := fun b o e => (I.bs b o e).1
theorem Inv.mod (I : Inv X pins σ H s) : Mod X.K X.mg X.base := I.ok.mod
theorem Inv.kIn (I : Inv X pins σ H s) : X.K.In s.heap := I.ok.mod.kin.keeps I.bk
theorem Inv.lt (I : Inv X pins σ H s) : X.env.locals < s.heap.objs.size := let ⟨_, hn, _⟩ := I.loc; hn.lt
theorem Inv.sz (I : Inv X pins σ H s) : X.s₀.heap.objs.size ≤ s.heap.objs.size := Nat.le_trans I.ok.above (Nat.le_of_lt I.lt)
theorem Inv.nofs (I : Inv X pins σ H s) {a : Addr} (h : s.heap.objs.size ≤ a) : a ∉ X.fs := fun hb => by
  obtain ⟨_, o, ho, _⟩ := I.ok.funs.mem hb
  exact absurd (Nat.lt_of_lt_of_le (Heap.lt_size ho) (Nat.le_trans I.sz h)) (Nat.lt_irrefl _)
theorem Inv.cne (I : Inv X pins σ H s) : ∀ x c, X.env.cells.lookup x = some c → c ≠ X.env.locals := fun x c e z => by
  obtain ⟨v, o, ho, hd⟩ := I.cell x c e
  obtain ⟨m, ⟨o', es, ep, ho', hd', _⟩, _⟩ := I.loc
  rw [z, ho'] at ho; cases ho; rw [hd'] at hd; cases hd
theorem Inv.funs (I : Inv X pins σ H s) : s.heap.FunFrames X.base X.outer := by
  have all : ∀ (l : List Env), (∀ b ∈ frs l, b ∈ X.fs) → X.s₀.heap.FunFrames X.base l → s.heap.FunFrames X.base l := by
    intro l
    induction l with
    | nil => intro _ _; trivial
    | cons env r ih =>
      intro hs hl
      obtain ⟨hk, ⟨L, o, hf, hn, ho, hd⟩, hr⟩ := hl
      have hL : L ∈ X.fs := hs L (by unfold frs; rw [List.filterMap_cons, hf]; exact List.mem_cons_self)
      obtain ⟨sl, e⟩ := I.base.slot L o ho (I.ok.frf L hL) hL fun z => I.ok.exfs L z hL
      exact ⟨hk, ⟨L, _, hf, hn, e, hd⟩, ih (fun b hb => hs b (by unfold frs; rw [List.filterMap_cons, hf]; exact List.mem_cons_of_mem _ hb)) hr⟩
  exact all X.outer (fun _ hb => hb) I.ok.funs
theorem Inv.stack (I : Inv X pins σ H s) : s.heap.FunFrames X.base X.stack := by
  rcases I.ok.stk with e | ⟨e, hf⟩
  · rw [e]; exact I.funs
  · rw [e]
    obtain ⟨m, hn, _⟩ := I.loc
    refine .cons (by rw [I.ok.kind]; decide) hf hn ?_ I.funs
    exact Heap.get?_none_of_le (Nat.le_trans I.ok.bsz I.ok.above)
theorem Inv.stkSub (I : Inv X pins σ H s) : ∀ b ∈ frs X.stack, b ∈ X.env.locals :: X.fs := fun b hb => by
  rcases I.ok.stk with e | ⟨e, hf⟩
  · rw [e] at hb; exact List.mem_cons_of_mem _ hb
  · rw [e] at hb
    unfold frs at hb
    rw [List.filterMap_cons, hf] at hb
    exact hb
theorem Inv.stkFree (I : Inv X pins σ H s) : ∀ b ∈ frs X.stack, H b = none := fun b hb => by
  rcases List.mem_cons.mp (I.stkSub b hb) with e | hb
  · rw [e]; exact I.free
  · obtain ⟨_, o, ho, _⟩ := I.ok.funs.mem hb
    exact I.base.free b o ho (I.ok.frf b hb) fun z => I.ok.exfs b z hb
theorem Inv.step {g' : Array GenState} {t' : Nat} {d' : Drawn} {ch : List Addr} (I : Inv X pins σ H s)
    (hch : ∀ b ∈ ch, (b ∈ X.ex ∨ X.s₀.heap.objs.size ≤ b) ∧ b ≠ X.env.locals ∧ (∀ x c, X.env.cells.lookup x = some c → c ≠ b) ∧ ∀ p ∈ X.pn ++ pins, p.1 ≠ b)
    (keep : ∀ b o, b ≠ X.env.locals → b ∉ X.fs → b ∉ ch → s.heap.get? b = some o → H b = none → h'.get? b = some o)
    (slot : ∀ b o, b ≠ X.env.locals → b ∈ X.fs → b ∉ ch → s.heap.get? b = some o → H b = none → ∃ sl, h'.get? b = some { o with slots := sl }) (free : ∀ b o, b ∉ ch → s.heap.get? b = some o → H b = none → H' b = none)
    (there : ∀ b o, b ∉ ch → s.heap.get? b = some o → ∃ o', h'.get? b = some o')
    (tups : ∀ b xs, H b = some (.tup xs) → H' b = some (.tup xs)) (frzs : ∀ b o u, H b = some (.frz o u) → H' b = some (.frz o u)) (tbls : ∀ b ps, H b = some (.tbl ps) → ∃ more, H' b = some (.tbl (ps ++ more)))
    (ns : ∀ m, s.heap.Ns X.env.locals m → h'.Ns X.env.locals m) (hok : HOk X.prog X.w H' h') (hg : AllBare g') :
    Inv X pins σ H' { s with heap := h', gens := g', drawn := d', toks := t' } := by
  have neL : ∀ b o, X.s₀.heap.get? b = some o → b ≠ X.env.locals := fun b o e => Nat.ne_of_lt (Nat.lt_of_lt_of_le (Heap.lt_size e) I.ok.above)
  have neC : ∀ b o, X.s₀.heap.get? b = some o → b ∉ X.ex → b ∉ ch := fun b o e hx hb => by
    rcases (hch b hb).1 with z | z
    · exact hx z
    · exact absurd (Nat.lt_of_lt_of_le (Heap.lt_size e) z) (Nat.lt_irrefl _)
  have cellK : ∀ x c, X.env.cells.lookup x = some c → ∀ v, s.heap.IsCell c v → h'.IsCell c v := fun x c e v ⟨o, ho, hd⟩ => by
    have nch : c ∉ ch := fun z => (hch c z).2.2.1 x c e rfl
    by_cases hc : c ∈ X.fs
    · obtain ⟨sl, q⟩ := slot c o (I.cne x c e) hc nch ho (I.freeC x c e)
      exact ⟨_, q, hd⟩
    · exact ⟨o, keep c o (I.cne x c e) hc nch ho (I.freeC x c e), hd⟩
  refine ⟨I.ok, I.os, hg, ⟨fun b o e n hb hx => ?_, fun b o e n hb hx => ?_, fun b o e n hx => ?_, fun b o e hx => ?_, fun b xs e => tups b xs (I.base.tups b xs e), fun b o xs e => frzs b o xs (I.base.frzs b o xs e), fun b ps e => ?_⟩, ?_, fun x c e => ?_, ?_, fun x c e => ?_, fun p hp => ?_, hok, I.len⟩
  · exact keep b o (neL b o e) hb (neC b o e hx) (I.base.keep b o e n hb hx) (I.base.free b o e n hx)
  · obtain ⟨sl, e1⟩ := I.base.slot b o e n hb hx
    obtain ⟨sl', e2⟩ := slot b _ (neL b o e) hb (neC b o e hx) e1 (I.base.free b o e n hx)
    exact ⟨sl', e2⟩
  · obtain ⟨o', e1⟩ := I.base.there b o e hx
    exact free b o' (neC b o e hx) e1 (I.base.free b o e n hx)
  · obtain ⟨o', e1⟩ := I.base.there b o e hx
    exact there b o' (neC b o e hx) e1
  · obtain ⟨m1, e1⟩ := I.base.tbls b ps e
    obtain ⟨m2, e2⟩ := tbls b _ e1
    exact ⟨m1 ++ m2, by rw [e2, Array.append_assoc]⟩
  · obtain ⟨m, hn, hl⟩ := I.loc
    refine ⟨m, ns m hn, fun i x v e1 e2 e3 => ?_⟩
    obtain ⟨u, r, l⟩ := hl i x v e1 e2 e3
    refine ⟨u, r, ?_⟩
    rcases l with l | ⟨k, c, e, z⟩
    · exact .inl l
    · exact .inr ⟨k, c, e, cellK x c e _ z⟩
  · obtain ⟨v, z⟩ := I.cell x c e
    exact ⟨v, cellK x c e v z⟩
  · obtain ⟨m, ⟨o, _, _, ho, _⟩, _⟩ := I.loc
    exact free _ o (fun z => (hch _ z).2.1 rfl) ho I.free
  · obtain ⟨v, o, ho, hd⟩ := I.cell x c e
    exact free c o (fun z => (hch c z).2.2.1 x c e rfl) ho (I.freeC x c e)
  · obtain ⟨e, n, ne, nf, d⟩ := I.pin p hp
    have nch : p.1 ∉ ch := fun z => (hch p.1 z).2.2.2 p hp rfl
    exact ⟨keep p.1 p.2 ne nf nch e n, free p.1 p.2 nch e n, ne, nf, d⟩
theorem Inv.un {t' : Nat} (I : Inv X pins σ H s) (u : Un X.fs [] H H' s.heap h') (hok : HOk X.prog X.w H' h') : Inv X pins σ H' { s with heap := h', toks := t' } := by
  obtain ⟨m, ⟨o, es, ep, ho, r⟩, _⟩ := id I.loc
  obtain ⟨sl, hL⟩ := u.any ho I.free (by simp)
  exact I.step (g' := s.gens) (d' := s.drawn) (ch := []) (fun _ z => nomatch z) (fun b o _ hb _ e n => u.keep b o e n hb (by simp)) (fun b o _ hb _ e n => u.slot b o e n hb (by simp)) (fun b o _ e n => u.free b o e n (by simp)) (fun b o _ e => u.there b o e (by simp)) u.tups u.frzs u.tbls (fun m' hm => by
    obtain ⟨o', es', ep', ho', r'⟩ := hm
    rw [ho] at ho'; cases ho'
    exact ⟨_, es', ep', hL, r'⟩) hok I.bare
theorem Inv.call {g' : Array GenState} {t' : Nat} {d' : Drawn} {ch : List Addr} (I : Inv X pins σ H s) (u : Un (frs X.stack) ch H H' s.heap h') (hok : HOk X.prog X.w H' h') (hg : AllBare g')
    (hch : ∀ b ∈ ch, (b ∈ X.ex ∨ X.s₀.heap.objs.size ≤ b) ∧ b ≠ X.env.locals ∧ (∀ x c, X.env.cells.lookup x = some c → c ≠ b) ∧ ∀ p ∈ X.pn ++ pins, p.1 ≠ b) :
    Inv X pins σ H' { s with heap := h', gens := g', drawn := d', toks := t' } := by
  obtain ⟨m, ⟨o, es, ep, ho, r⟩, _⟩ := id I.loc
  obtain ⟨sl, hL⟩ := u.any ho I.free fun z => (hch _ z).2.1 rfl
  exact I.step (ch := ch) hch (fun b o hL hb hc e n => u.keep b o e n (fun z => (List.mem_cons.mp (I.stkSub b z)).elim hL hb) hc) (fun b o _ _ hc e n => u.any e n hc) (fun b o hc e n => u.free b o e n hc) (fun b o hc e => u.there b o e hc) u.tups u.frzs u.tbls (fun m' hm => by
    obtain ⟨o', es', ep', ho', r'⟩ := hm
    rw [ho] at ho'; cases ho'
    exact ⟨_, es', ep', hL, r'⟩) hok hg
theorem Inv.turned {t' : Nat} {it : Addr} (I : Inv X pins σ H s) (k : ∀ b o, b ≠ it → s.heap.get? b = some o → h'.get? b = some o) (hn : H it = none) (hL : it ≠ X.env.locals)
    (h1 : it ∈ X.ex ∨ X.s₀.heap.objs.size ≤ it) (h2 : ∀ x c, X.env.cells.lookup x = some c → c ≠ it) (h3 : ∀ p ∈ X.pn ++ pins, p.1 ≠ it) : Inv X pins σ H { s with heap := h', toks := t' } := by
  have nit : ∀ b u, H b = some u → b ≠ it := fun b u e z => by rw [z, hn] at e; cases e
  refine I.step (g' := s.gens) (d' := s.drawn) (ch := [it]) (fun b hb => ?_) (fun b o _ _ hc e _ => k b o (fun z => hc (by simp [z])) e) (fun b o _ _ hc e _ => ⟨o.slots, k b o (fun z => hc (by simp [z])) e⟩) (fun _ _ _ _ n => n)
    (fun b o hc e => ⟨o, k b o (fun z => hc (by simp [z])) e⟩) (fun _ _ e => e) (fun _ _ _ e => e) (fun b ps e => ⟨#[], by rw [e]; simp⟩) (fun m hm => ?_) (fun b u e => ?_) I.bare
  · have e : b = it := by simpa using hb
    subst e
    exact ⟨h1, hL, h2, h3⟩
  · obtain ⟨o, es, ep, ho, r⟩ := hm
    exact ⟨o, es, ep, k _ o (Ne.symm hL) ho, r⟩
  · refine (I.hok b u e).stay (fun c v hc q => k c v ?_ q) (fun _ q => q) fun _ _ q => q
    rcases hc with z | z
    · rw [z]; exact nit b u e
    · exact nit c _ z
theorem Inv.tok (I : Inv X pins σ H s) (t : Nat) : Inv X pins σ H { s with toks := t } := I.un (h' := s.heap) (t' := t) Un.refl I.hok
theorem Inv.kept {t' : Nat} (I : Inv X pins σ H s) (k : ∀ b u, s.heap.get? b = some u → h'.get? b = some u) : Inv X pins σ H { s with heap := h', toks := t' } := I.un (Un.kept k) (I.hok.kept k)
theorem Inv.laid {a : Addr} {o : HO} {t' : Nat} (I : Inv X pins σ H s) (k : ∀ b u, s.heap.get? b = some u → h'.get? b = some u) (hp : s.heap.objs.size ≤ a) (new : ObjOk X.prog X.w (upd H a o) h' a o) :
    Inv X pins σ (upd H a o) { s with heap := h', toks := t' } := I.un (Un.laid k hp (I.hok.fresh hp)) (I.hok.laid k hp new)
theorem Inv.write {x e : Addr} {o : HO} {t' : Nat} (I : Inv X pins σ H s) (mu : Mut (H x)) (he : e = x ∨ H e = some (.own x)) (k : ∀ b u, b ≠ e → s.heap.get? b = some u → h'.get? b = some u) (heo : ∃ u, h'.get? e = some u)
    (new : ObjOk X.prog X.w (upd H x o) h' x o) : Inv X pins σ (upd H x o) { s with heap := h', toks := t' } := I.un (Un.write mu he k heo) (I.hok.write mu he k heo new)
theorem Inv.pins_of {pins' : List (Addr × Obj)} (I : Inv X pins σ H s) (h : ∀ p ∈ pins', s.heap.get? p.1 = some p.2 ∧ H p.1 = none ∧ p.1 ≠ X.env.locals ∧ p.1 ∉ X.fs ∧ ∀ v, p.2.data ≠ .cell v) : Inv X pins' σ H s :=
  ⟨I.ok, I.os, I.bare, I.base, I.loc, I.cell, I.free, I.freeC, fun p hp => (List.mem_append.mp hp).elim (fun z => I.pin p (List.mem_append_left _ z)) (h p), I.hok, I.len⟩
theorem nodup_ix {N : List Str} (hN : N.Nodup) {i j : Nat} {x : Str} (a : N[i]? = some x) (b : N[j]? = some x) : i = j := by
  obtain ⟨h1, e1⟩ := List.getElem?_eq_some_iff.mp a
  obtain ⟨h2, e2⟩ := List.getElem?_eq_some_iff.mp b
  exact (List.getElem_inj hN).mp (e1.trans e2.symm)
theorem store_ok2 {M : Model} {A : Around} {E : Value → Shared → Prop} {i : Nat} {x : Str} {v : V} {u : Value} {Q : Unit → Shared → Prop} (I : Inv X pins σ H s) (hN : X.N.Nodup) (hi : X.N[i]? = some x) (hx : Loc X.env.scope x) (r : RelV v u)
    (h : ∀ s', Inv X pins (σ.set i (some v)) H s' → (∃ a, Heap.SameBut a s.heap s'.heap ∧ (a = X.env.locals ∨ X.env.cells.lookup x = some a)) → Q () s') (hf : X.fn x = true ∨ X.env.scope.names.lookup x = some .local := by first | exact .inl rfl | exact .inr rfl | assumption) : wpAny M A (storeName X.env x u) Q E s := by
  obtain ⟨m, hn, hl⟩ := id I.loc
  have hcls : (X.env.scope.kind == .class || (X.env.scope.kind == .module && X.env.locals != X.env.globals)) = false := by rw [I.ok.kind]; rfl
  have hiσ : i < σ.length := by rw [I.len]; exact (List.getElem?_eq_some_iff.mp hi).1
  have cne := I.cne
  have tracked : ∀ {a : Addr} {h' : Heap}, (∃ o, s.heap.get? a = some o ∧ H a = none) → Heap.SameBut a s.heap h' → HOk X.prog X.w H h' := fun {a h'} ha hs b ob e => by
    obtain ⟨_, _, hfree⟩ := ha
    refine (I.hok b ob e).stay (fun c w' hc q => (hs.2 c ?_).trans q) (fun _ q => q) fun _ _ q => q
    rintro rfl
    rcases hc with rfl | hc
    · rw [hfree] at e; cases e
    · rw [hfree] at hc; cases hc
  rcases hx with hk | hk
  · refine wpAny_storeName_local hk hn (fun h' hn' hs => ?_) hcls
    obtain ⟨oL, _, _, hoL, _⟩ := id hn
    refine h _ ⟨I.ok, I.os, I.bare, ⟨fun b o e n hb hx => ?_, fun b o e n hb hx => ?_, I.base.free, fun b o e hx => ?_, I.base.tups, I.base.frzs, I.base.tbls⟩, ⟨_, hn', fun j y v' e1 e2 e3 => ?_⟩, fun y c e => ?_, I.free, I.freeC, fun p hp => ?_, tracked ⟨oL, hoL, I.free⟩ hs, by simpa using I.len⟩ ⟨_, hs, .inl rfl⟩
    · exact (hs.2 b (Nat.ne_of_lt (Nat.lt_of_lt_of_le (Heap.lt_size e) I.ok.above))).trans (I.base.keep b o e n hb hx)
    · obtain ⟨sl, e1⟩ := I.base.slot b o e n hb hx
      exact ⟨sl, (hs.2 b (Nat.ne_of_lt (Nat.lt_of_lt_of_le (Heap.lt_size e) I.ok.above))).trans e1⟩
    · obtain ⟨o', e1⟩ := I.base.there b o e hx
      exact ⟨o', (hs.2 b (Nat.ne_of_lt (Nat.lt_of_lt_of_le (Heap.lt_size e) I.ok.above))).trans e1⟩
    · by_cases hj : j = i
      · subst hj
        rw [hi] at e1; cases e1
        rw [List.getElem?_set_self hiσ] at e2
        cases e2
        exact ⟨u, r, .inl ⟨hk, by simp⟩⟩
      · rw [List.getElem?_set_ne (Ne.symm hj)] at e2
        obtain ⟨u', r', q⟩ := hl j y v' e1 e2 e3
        refine ⟨u', r', ?_⟩
        rcases q with ⟨k, e⟩ | ⟨k, c, e, z⟩
        · refine .inl ⟨k, ?_⟩
          have : y ≠ x := fun e => hj (nodup_ix hN e1 (e ▸ hi))
          simp [this, e]
        · exact .inr ⟨k, c, e, z.sameBut hs (cne y c e)⟩
    · obtain ⟨w', z⟩ := I.cell y c e
      exact ⟨w', z.sameBut hs (cne y c e)⟩
    · obtain ⟨e, n, ne, nf, d⟩ := I.pin p hp
      exact ⟨(hs.2 p.1 ne).trans e, n, ne, nf, d⟩
  · have hfn : X.fn x = true := by
      rcases hf with z | z
      · exact z
      · rw [z] at hk; cases hk
    obtain ⟨c, hc⟩ := I.ok.has x (.inl hk)
    obtain ⟨w', z⟩ := I.cell x c hc
    refine wpAny_storeName_cell I.ok.kind hk hc z (fun h' hc' hs => ?_)
    obtain ⟨oc, hoc, hocd⟩ := id z
    refine h { s with heap := h' } ⟨I.ok, I.os, I.bare, ⟨fun b o e n hb hx => ?_, fun b o e n hb hx => ?_, I.base.free, fun b o e hx => ?_, I.base.tups, I.base.frzs, I.base.tbls⟩, ⟨m, hn.sameBut hs (Ne.symm (cne x c hc)), fun j y v' e1 e2 e3 => ?_⟩, fun y c' e => ?_, I.free, I.freeC, fun p hp => ?_, tracked ⟨oc, hoc, I.freeC x c hc⟩ hs, by simpa using I.len⟩ ⟨c, hs, .inr hc⟩
    · exact (hs.2 b (Nat.ne_of_lt (Nat.lt_of_lt_of_le (Heap.lt_size e) (I.ok.cab x c hfn hc)))).trans (I.base.keep b o e n hb hx)
    · obtain ⟨sl, e1⟩ := I.base.slot b o e n hb hx
      exact ⟨sl, (hs.2 b (Nat.ne_of_lt (Nat.lt_of_lt_of_le (Heap.lt_size e) (I.ok.cab x c hfn hc)))).trans e1⟩
    · obtain ⟨o', e1⟩ := I.base.there b o e hx
      exact ⟨o', (hs.2 b (Nat.ne_of_lt (Nat.lt_of_lt_of_le (Heap.lt_size e) (I.ok.cab x c hfn hc)))).trans e1⟩
    · by_cases hj : j = i
      · subst hj
        rw [hi] at e1; cases e1
        rw [List.getElem?_set_self hiσ] at e2
        cases e2
        exact ⟨u, r, .inr ⟨.inl hk, c, hc, hc'⟩⟩
      · rw [List.getElem?_set_ne (Ne.symm hj)] at e2
        obtain ⟨u', r', q⟩ := hl j y v' e1 e2 e3
        refine ⟨u', r', ?_⟩
        rcases q with q | ⟨k, c', e, z'⟩
        · exact .inl q
        · refine .inr ⟨k, c', e, z'.sameBut hs ?_⟩
          rintro rfl
          exact hj (nodup_ix hN e1 (I.ok.inj _ _ _ e hc ▸ hi))
    · by_cases hcc : c' = c
      · subst hcc; exact ⟨_, hc'⟩
      · obtain ⟨w2, z2⟩ := I.cell y c' e
        exact ⟨w2, z2.sameBut hs hcc⟩
    · obtain ⟨e, n, ne, nf, d⟩ := I.pin p hp
      refine ⟨(hs.2 p.1 ?_).trans e, n, ne, nf, d⟩
      intro q
      rw [q, hoc] at e
      have q' : oc = p.2 := Option.some.inj e
      exact d w' (by rw [← q']; exact hocd)
theorem store_ok {M : Model} {A : Around} {E : Value → Shared → Prop} {i : Nat} {x : Str} {v : V} {u : Value} {Q : Unit → Shared → Prop} (I : Inv X pins σ H s) (hN : X.N.Nodup) (hi : X.N[i]? = some x) (hx : Loc X.env.scope x) (r : RelV v u)
    (h : ∀ s', Inv X pins (σ.set i (some v)) H s' → Q () s') (hf : X.fn x = true ∨ X.env.scope.names.lookup x = some .local := by first | exact .inl rfl | exact .inr rfl | assumption) : wpAny M A (storeName X.env x u) Q E s :=
  store_ok2 I hN hi hx r (fun s' I' _ => h s' I') hf
theorem Inv.call' {s' : Shared} {ch : List Addr} (I : Inv X pins σ H s) (ho : s'.os = s.os) (u : Un (frs X.stack) ch H H' s.heap s'.heap) (hok : HOk X.prog X.w H' s'.heap) (hg : AllBare s'.gens)
    (hch : ∀ b ∈ ch, (b ∈ X.ex ∨ X.s₀.heap.objs.size ≤ b) ∧ b ≠ X.env.locals ∧ (∀ x c, X.env.cells.lookup x = some c → c ≠ b) ∧ ∀ p ∈ X.pn ++ pins, p.1 ≠ b) : Inv X pins σ H' s' := by
  obtain ⟨h', g', d', t', o'⟩ := s'
  have e : o' = s.os := ho
  subst e
  exact I.call (g' := g') (t' := t') (d' := d') u hok hg hch
end
abbrev XK := Value → Option Addr → Hp → Prop
abbrev St := List (Option V)
abbrev VK := V → Hp → Prop
abbrev TE := St → Hp → VK → Prop
abbrev TT := St → Hp → (Bool → Hp → Prop) → Prop
abbrev TA := St → Hp → (List V → Hp → Prop) → Prop
structure Ends where
  nx : St → Hp → Prop
  rt : VK
  bk : St → Hp → Prop := fun _ _ => False
  ct : St → Hp → Prop := fun _ _ => False
abbrev TS := Ends → St → Hp → Prop
def EP (X : Cx) (pins : List (Addr × Obj)) (σ : St) (Q : VK) (u : Value) (s' : Shared) : Prop := ∃ v H', Inv X pins σ H' s' ∧ RelV v u ∧ Q v H'
def TP (X : Cx) (pins : List (Addr × Obj)) (σ : St) (Q : Bool → Hp → Prop) (b : Bool) (s' : Shared) : Prop := ∃ H', Inv X pins σ H' s' ∧ Q b H'
def AP (X : Cx) (pins : List (Addr × Obj)) (σ : St) (Q : List V → Hp → Prop) (us : List Value) (s' : Shared) : Prop := ∃ vs H', Inv X pins σ H' s' ∧ Vals vs us ∧ Q vs H'
def SP (X : Cx) (pins : List (Addr × Obj)) (D : Ends) (f : Flow) (s' : Shared) : Prop :=
  match f with
  | .next => ∃ σ' H', Inv X pins σ' H' s' ∧ D.nx σ' H'
  | .brk => ∃ σ' H', Inv X pins σ' H' s' ∧ D.bk σ' H'
  | .cont => ∃ σ' H', Inv X pins σ' H' s' ∧ D.ct σ' H'
  | .ret u => ∃ v σ' H', Inv X pins σ' H' s' ∧ RelV v u ∧ D.rt v H'
def PE (X : Cx) (e : Expr) (t : TE) : Prop :=
  ∀ (pins : List (Addr × Obj)) (s : Shared) (σ : St) (H : Hp) (Q : VK), Inv X pins σ H s → t σ H Q → wpAny (model X.prog X.w) X.A (eval e X.env) (EP X pins σ Q) X.xe s
def PT (X : Cx) (e : Expr) (t : TT) : Prop :=
  ∀ (pins : List (Addr × Obj)) (s : Shared) (σ : St) (H : Hp) (Q : Bool → Hp → Prop), Inv X pins σ H s → t σ H Q → wpAny (model X.prog X.w) X.A (isTrue e X.env (eval e X.env)) (TP X pins σ Q) X.xe s
def PW (X : Cx) (e : Expr) (t : TT) : Prop :=
  ∀ (whole : Sem Value) (pins : List (Addr × Obj)) (s : Shared) (σ : St) (H : Hp) (Q : Bool → Hp → Prop), Inv X pins σ H s → t σ H Q → wpAny (model X.prog X.w) X.A (isTrue e X.env whole) (TP X pins σ Q) X.xe s
theorem PW.pt {X : Cx} {e : Expr} {t : TT} (h : PW X e t) : PT X e t := h _
def PA (X : Cx) (es : List Expr) (t : TA) : Prop :=
  ∀ (pos : Pos) (pins : List (Addr × Obj)) (s : Shared) (σ : St) (H : Hp) (Q : List V → Hp → Prop), Inv X pins σ H s → t σ H Q → wpAny (model X.prog X.w) X.A (spliced (backTo pos (starEach es X.env))) (AP X pins σ Q) X.xe s
def PS (X : Cx) (st : Stmt) (t : TS) : Prop :=
  ∀ (pins : List (Addr × Obj)) (s : Shared) (σ : St) (H : Hp) (D : Ends), Inv X pins σ H s → t D σ H → wpAny (model X.prog X.w) X.A (exec st X.env) (SP X pins D) X.xe s
def PSs (X : Cx) (st : List Stmt) (t : TS) : Prop :=
  ∀ (pins : List (Addr × Obj)) (s : Shared) (σ : St) (H : Hp) (D : Ends), Inv X pins σ H s → t D σ H → wpAny (model X.prog X.w) X.A (execs st X.env) (SP X pins D) X.xe s
theorem thn {α : Type} {t : Sem α} {Q Q' : α → Shared → Prop} {M : Model} {A : Around} {E : Value → Shared → Prop} {s : Shared} (h : wpAny M A t Q E s) (hQ : ∀ a s, Q a s → Q' a s) : wpAny M A t Q' E s := wpAny_mono h hQ fun _ _ x => x
end L2
namespace L2
open PySem PySem.Spec PyProof.Rows
section
variable {X : Cx}
def tVar (i : Nat) : TE := fun σ H Q => ∃ v, σ[i]? = some (some v) ∧ Q v H
def tC (v : V) : TE := fun _ H Q => Q v H
theorem pe_var {i : Nat} {x : Str} {pos : Pos} (hN : X.N[i]? = some x) (hv : Vis X.env.scope x) (hd : (x == ("__debug__" : Str)) = false := by decide) (hcd : (x == ("__classdict__" : Str)) = false := by decide) : PE X (.Name x pos) (tVar i) := by
  intro pins s σ H Q I h
  obtain ⟨v, e, h⟩ := h
  obtain ⟨m, hn, hl⟩ := I.loc
  obtain ⟨u, r, l⟩ := hl i x v hN e hv
  have fin : EP X pins σ Q u s := ⟨v, H, I, r, h⟩
  rcases l with ⟨hk, hm⟩ | ⟨hk, c, hc, hcell⟩
  · exact wpAny_Name (wpAny_loadName_local I.ok.kind hk hn hm fin) hd
  · rcases hk with hk | hk
    · exact wpAny_Name (wpAny_loadName_cell I.ok.kind hk hc hcell fin) hd
    · exact wpAny_Name (wpAny_loadName_free I.ok.kind hk hc hcell fin hcd) hd
theorem pe_int {i j pos} : PE X (.Constant (.int i) j pos) (tC (.int i)) := fun _ _ _ H _ I h => wpAny_Constant_int ⟨.int i, H, I.tok _, ⟨_, rfl⟩, h⟩
theorem pe_bl {b j pos} : PE X (.Constant (.bool b) j pos) (tC (.bl b)) := fun _ _ _ H _ I h => Constant_bool ⟨.bl b, H, I, rfl, h⟩
theorem pe_non {j pos} : PE X (.Constant .none j pos) (tC .non) := fun _ _ _ H _ I h => Constant_none ⟨.non, H, I, rfl, h⟩
theorem pe_str {x j pos} : PE X (.Constant (.str x) j pos) (tC (.str x)) := fun _ _ _ H _ I h => Calls.Constant_str ⟨.str x, H, I.tok _, ⟨_, rfl⟩, h⟩
def Gl (X : Cx) (x : Str) : Prop := X.env.kindOf x = some .globalImplicit
theorem ld_glob {E : Value → Shared → Prop} {pins : List (Addr × Obj)} {s : Shared} {σ : St} {H : Hp} {x : Str} {u : Value} {pos : Pos} {Q : Value → Shared → Prop} (I : Inv X pins σ H s) (hg : Gl X x) (hm : X.mg x = some u) (h : Q u s)
    (hd : (x == ("__debug__" : Str)) = false := by decide) : wpAny (model X.prog X.w) X.A (eval (.Name x pos) X.env) Q E s :=
  Calls.Name_function_global I.ok.kind hg (Calls.loadGlobal_global (by rw [I.ok.glob]; exact I.mod.glob.keeps I.bk) hm h) hd
theorem ld_blt {E : Value → Shared → Prop} {pins : List (Addr × Obj)} {s : Shared} {σ : St} {H : Hp} {x : Str} {u : Value} {pos : Pos} {Q : Value → Shared → Prop} (I : Inv X pins σ H s) (hg : Gl X x) (hm : X.mg x = none) (hv : bootBuiltins x = some u) (h : Q u s)
    (hn : x ≠ "__name__" := by decide) (hd : (x == ("__debug__" : Str)) = false := by decide) : wpAny (model X.prog X.w) X.A (eval (.Name x pos) X.env) Q E s := by
  obtain ⟨mb, h1, h2⟩ := I.mod.blt
  exact Calls.Name_function_global I.ok.kind hg (Calls.loadGlobal_builtin (by rw [I.ok.glob]; exact I.mod.glob.keeps I.bk) hm (by rw [I.ok.blt]; exact h1.keeps I.bk) ((h2 x hn).trans hv) h) hd
theorem pe_glob {x : Str} {v : V} {u : Value} {pos : Pos} (hg : Gl X x) (hm : X.mg x = some u) (r : RelV v u) (hd : (x == ("__debug__" : Str)) = false := by decide) : PE X (.Name x pos) (tC v) :=
  fun _ _ _ H _ I h => ld_glob I hg hm ⟨v, H, I, r, h⟩ hd
theorem pe_bltn {x : Str} {v : V} {u : Value} {pos : Pos} (hg : Gl X x) (hm : X.mg x = none) (hv : bootBuiltins x = some u) (r : RelV v u) (hn : x ≠ "__name__" := by decide) (hd : (x == ("__debug__" : Str)) = false := by decide) : PE X (.Name x pos) (tC v) :=
  fun _ _ _ H _ I h => ld_blt I hg hm hv ⟨v, H, I, r, h⟩ hn hd
variable {a b : Expr} {ta tb : TE} {pos : Pos}
def tB (t : TE) : TT := fun σ H Q => t σ H fun x H1 => ∃ c, x = .bl c ∧ Q c H1
theorem pt_val {e : Expr} {t : TE} (h : PE X e t) (he : ∀ whole, isTrue e X.env whole = (do let v ← whole; standAt e.pos; holding [v] (truthy v)) := by intro _; rfl) : PT X e (tB t) := by
  intro pins s σ H Q I hw
  refine isTrue_plain (thn (h pins s σ H _ I hw) fun v s1 ⟨x, H1, I1, r1, q1⟩ => ?_) (he _)
  obtain ⟨d, rfl, q⟩ := q1
  cases r1
  exact wpAny_truthy_bool ⟨H1, I1, q⟩
variable {tA tB' : TT} {rest : List Expr}
def tAnd (t u : TT) : TT := fun σ H Q => t σ H fun c H1 => if c = true then u σ H1 Q else Q false H1
def tOr (t u : TT) : TT := fun σ H Q => t σ H fun c H1 => if c = true then Q true H1 else u σ H1 Q
def tNot (t : TT) : TT := fun σ H Q => t σ H fun c H1 => Q (!c) H1
theorem pw_and1 (ha : PT X a tA) : PW X (.BoolOp .And [a] pos) tA := by
  intro wh pins s σ H Q I h
  refine isTrue_and (thn (ha pins s σ H Q I h) fun c s1 e => ?_)
  cases c with
  | true => exact isTrue_and_nil e
  | false => exact e
theorem pw_or1 (ha : PT X a tA) : PW X (.BoolOp .Or [a] pos) tA := by
  intro wh pins s σ H Q I h
  refine isTrue_or (thn (ha pins s σ H Q I h) fun c s1 e => ?_)
  cases c with
  | false => exact isTrue_or_nil e
  | true => exact e
theorem pw_and (ha : PT X a tA) (hb : PW X (.BoolOp .And (b :: rest) pos) tB') : PW X (.BoolOp .And (a :: b :: rest) pos) (tAnd tA tB') := by
  intro wh pins s σ H Q I h
  refine isTrue_and (thn (ha pins s σ H _ I h) fun c s1 ⟨H1, I1, q1⟩ => ?_)
  cases c with
  | true => exact hb wh pins s1 σ H1 Q I1 q1
  | false => exact ⟨H1, I1, q1⟩
theorem pw_or (ha : PT X a tA) (hb : PW X (.BoolOp .Or (b :: rest) pos) tB') : PW X (.BoolOp .Or (a :: b :: rest) pos) (tOr tA tB') := by
  intro wh pins s σ H Q I h
  refine isTrue_or (thn (ha pins s σ H _ I h) fun c s1 ⟨H1, I1, q1⟩ => ?_)
  cases c with
  | true => exact ⟨H1, I1, q1⟩
  | false => exact hb wh pins s1 σ H1 Q I1 q1
theorem pt_not (ha : PT X a tA) : PT X (.UnaryOp .Not a pos) (tNot tA) := by
  intro pins s σ H Q I h
  exact isTrue_not (ha pins s σ H (fun c H1 => Q (!c) H1) I h)
def tAndV (ta tb : TE) : TE := fun σ H Q => ta σ H fun x H1 => ∃ c, x = .bl c ∧ if c = true then tb σ H1 Q else Q (.bl false) H1
def tNotV (ta : TE) : TE := fun σ H Q => ta σ H fun x H1 => ∃ c, x = .bl c ∧ Q (.bl (!c)) H1
theorem pe_one {op} {t : TE} (h : PE X a t) : PE X (.BoolOp op [a] pos) t := fun pins s σ H Q I hw => BoolOp_one (h pins s σ H Q I hw)
theorem pe_and (ha : PE X a ta) (hb : PE X (.BoolOp .And (b :: rest) pos) tb) : PE X (.BoolOp .And (a :: b :: rest) pos) (tAndV ta tb) := by
  intro pins s σ H Q I h
  refine BoolOp_and (thn (ha pins s σ H _ I h) fun v s1 ⟨x, H1, I1, r1, q1⟩ => ?_)
  obtain ⟨c, rfl, q1⟩ := q1
  cases r1
  refine wpAny_truthy_bool ?_
  cases c with
  | true => exact hb pins s1 σ H1 Q I1 q1
  | false => exact ⟨.bl false, H1, I1, rfl, q1⟩
theorem pe_not (ha : PE X a ta) : PE X (.UnaryOp .Not a pos) (tNotV ta) := by
  intro pins s σ H Q I h
  refine UnaryOp_ (thn (ha pins s σ H _ I h) fun v s1 ⟨x, H1, I1, r1, q1⟩ => ?_)
  obtain ⟨c, rfl, q1⟩ := q1
  cases r1
  exact not_of (wpAny_truthy_bool ⟨.bl (!c), H1, I1, rfl, q1⟩)
end
end L2
namespace L2
open PySem PySem.Spec PyProof.Rows
def SqL (K : PySem.W.Frag) (H : Hp) (a : Addr) (xs : List V) : Prop :=
  Rd H a (.lst xs) ∨
    ∃ (o : Obj) (its : Array Value) (n : Nat), K.lookup a = some o ∧ o.cls = .type "list" ∧ o.dict = none ∧ o.data = .seq its n ∧ its.size ≤ sizeLine ∧ Vals xs its.toList
def SqT (K : PySem.W.Frag) (H : Hp) (a : Addr) (xs : List V) : Prop :=
  Rd H a (.tup xs) ∨
    ∃ (o : Obj) (its : Array Value) (n : Nat), K.lookup a = some o ∧ o.cls = .type "tuple" ∧ o.data = .seq its n ∧ its.size ≤ sizeLine ∧ Vals xs its.toList
def absV : Value → Option V
  | .none => some .non
  | .bool b => some (.bl b)
  | .int i _ => some (.int i)
  | .str x _ => some (.str x)
  | .bytes b _ => some (.byt b)
  | .float b _ => some (.flt b)
  | .ref a => some (.ref a)
  | .type n => some (.ty n)
  | _ => none
theorem RelV.abs {x : V} {u : Value} (r : RelV x u) : absV u = some x := by
  cases x with
  | non => cases r; rfl
  | bl _ => cases r; rfl
  | int _ => obtain ⟨t, rfl⟩ := r; rfl
  | str _ => obtain ⟨t, rfl⟩ := r; rfl
  | byt _ => obtain ⟨t, rfl⟩ := r; rfl
  | flt _ => obtain ⟨t, rfl⟩ := r; rfl
  | ref _ => cases r; rfl
  | ty _ => cases r; rfl
theorem RelV.inj {x y : V} {u : Value} (r : RelV x u) (q : RelV y u) : x = y := Option.some.inj (r.abs.symm.trans q.abs)
theorem Vals.inj : ∀ {xs ys : List V} {us : List Value}, Vals xs us → Vals ys us → xs = ys
  | _, _, _, .nil, .nil => rfl
  | _, _, _, .cons r t, .cons r' t' => by rw [r.inj r', Vals.inj t t']
section
variable {X : Cx} {pins : List (Addr × Obj)} {σ : St} {H : Hp} {s : Shared} {a : Addr} {xs ys : List V}
theorem SqL.of {K : PySem.W.Frag} (h : H a = some (.lst xs)) : SqL K H a xs := .inl (.inl h)
theorem SqT.of {K : PySem.W.Frag} (h : H a = some (.tup xs)) : SqT K H a xs := .inl (.inl h)
theorem Inv.list (I : Inv X pins σ H s) (h : SqL X.K H a xs) : ∃ its : List Value, Vals xs its ∧ PlainL s.heap a its.toArray ∧ xs.length ≤ sizeLine := by
  rcases h with h | ⟨o, its, n, hk, hc, hd, hs, hz, r⟩
  · obtain ⟨z, its, n, r, e⟩ := h.ok I.hok
    exact ⟨its, r, ⟨_, n, e, rfl, rfl, rfl⟩, z⟩
  · refine ⟨its.toList, r, ⟨o, n, I.kIn a o hk, hc, hd, by simpa using hs⟩, ?_⟩
    have e := r.length
    simp only [Array.length_toList] at e
    omega
theorem Inv.tuple (I : Inv X pins σ H s) (h : SqT X.K H a xs) : ∃ its : List Value, Vals xs its ∧ IsTup s.heap a its.toArray ∧ xs.length ≤ sizeLine := by
  rcases h with h | ⟨o, its, n, hk, hc, hs, hz, r⟩
  · obtain ⟨z, its, r, p, _⟩ := h.ok I.hok
    exact ⟨its, r, p, z⟩
  · refine ⟨its.toList, r, ⟨o, I.kIn a o hk, hc, n, by simpa using hs⟩, ?_⟩
    have e := r.length
    simp only [Array.length_toList] at e
    omega
theorem Inv.list_inj (I : Inv X pins σ H s) (h : SqL X.K H a xs) (h' : SqL X.K H a ys) : xs = ys := by
  obtain ⟨its, r, ⟨o, n, e, _, _, d⟩, _⟩ := I.list h
  obtain ⟨its', r', ⟨o', n', e', _, _, d'⟩, _⟩ := I.list h'
  rw [e] at e'; cases e'
  rw [d] at d'
  injection d' with d1 _
  have : its = its' := by simpa using congrArg Array.toList d1
  subst this
  exact r.inj r'
end
abbrev Cx.wish (X : Cx) (E : Value → Shared → Prop) : Cx := { X with xe := E }
abbrev Cx.nox (X : Cx) : Cx := X.wish fun _ _ => False
theorem Cx.Ok.wish {X : Cx} (ok : X.Ok) (E : Value → Shared → Prop) : (X.wish E).Ok :=
  ⟨ok.mod, ok.kind, ok.glob, ok.blt, ok.above, ok.inj, ok.has, ok.cab, ok.hd, ok.frames, ok.stk, ok.exf, ok.bs, ok.bsz, ok.noex, ok.exfs, ok.funs, ok.frf⟩
theorem Cx.Ok.unwish {X : Cx} {E : Value → Shared → Prop} (ok : (X.wish E).Ok) : X.Ok :=
  ⟨ok.mod, ok.kind, ok.glob, ok.blt, ok.above, ok.inj, ok.has, ok.cab, ok.hd, ok.frames, ok.stk, ok.exf, ok.bs, ok.bsz, ok.noex, ok.exfs, ok.funs, ok.frf⟩
section
variable {X : Cx} {pins : List (Addr × Obj)} {σ : St} {H : Hp} {s : Shared} {E : Value → Shared → Prop}
theorem Inv.wish (I : Inv X pins σ H s) (E : Value → Shared → Prop) : Inv (X.wish E) pins σ H s := ⟨I.ok.wish E, I.os, I.bare, I.base, I.loc, I.cell, I.free, I.freeC, I.pin, I.hok, I.len⟩
theorem Inv.unwish (I : Inv (X.wish E) pins σ H s) : Inv X pins σ H s := ⟨I.ok.unwish, I.os, I.bare, I.base, I.loc, I.cell, I.free, I.freeC, I.pin, I.hok, I.len⟩
theorem SP.unwish {D : Ends} {f : Flow} {s' : Shared} (h : SP (X.wish E) pins D f s') : SP X pins D f s' := by
  cases f with
  | next => obtain ⟨σ', H', I, q⟩ := h; exact ⟨σ', H', I.unwish, q⟩
  | brk => obtain ⟨σ', H', I, q⟩ := h; exact ⟨σ', H', I.unwish, q⟩
  | cont => obtain ⟨σ', H', I, q⟩ := h; exact ⟨σ', H', I.unwish, q⟩
  | ret u => obtain ⟨v, σ', H', I, r, q⟩ := h; exact ⟨v, σ', H', I.unwish, r, q⟩
theorem PSs.nox {st : List Stmt} {t : TS} (h : PSs X.nox st t) : PSs X st t := fun pins s σ H D I hw =>
  wpAny_mono (h pins s σ H D (I.wish _) hw) (fun _ _ q => q.unwish) fun _ _ z => False.elim z
end
section
variable {X : Cx} {st : Stmt} {rest : List Stmt} {t u : TS} {e : Expr} {te : TE} {pos : Pos}
def tNext : TS := fun D σ H => D.nx σ H
def tSeq (t u : TS) : TS := fun D σ H => t { D with nx := u D } σ H
theorem pss_nil : PSs X [] tNext := fun _ _ σ H _ I h => wpAny_execs_nil ⟨σ, H, I, h⟩
theorem pss_cons (h1 : PS X st t) (h2 : PSs X rest u) : PSs X (st :: rest) (tSeq t u) := by
  intro pins s σ H D I h
  refine wpAny_execs_cons (thn (h1 pins s σ H { D with nx := u D } I h) fun f s1 q => ?_)
  cases f with
  | next =>
    obtain ⟨σ', H', I', q⟩ := q
    exact h2 pins s1 σ' H' D I' q
  | ret v => exact q
  | brk => exact q
  | cont => exact q
theorem pss_one (h1 : PS X st t) : PSs X [st] t := by
  intro pins s σ H D I h
  refine wpAny_execs_cons (thn (h1 pins s σ H D I h) fun f s1 q => ?_)
  cases f with
  | next => exact wpAny_execs_nil q
  | ret v => exact q
  | brk => exact q
  | cont => exact q
theorem Inv.quiet {pins : List (Addr × Obj)} {σ : St} {H : Hp} {s : Shared} (I : Inv X pins σ H s) : interactive X.env = false := by simp [interactive, I.ok.kind]
def tDrop (te : TE) : TS := fun D σ H => te σ H fun _ H1 => D.nx σ H1
theorem ps_expr (he : PE X e te) (hs : swapsWith e none pos.line X.env = pure false := by rfl) : PS X (.Expr e pos) (tDrop te) := by
  intro pins s σ H D I h
  exact wpAny_Expr_any (thn (he pins s σ H _ I h) fun v s1 ⟨x, H1, I1, r1, q1⟩ => ⟨σ, H1, I1, q1⟩) I.quiet hs
def tRet (te : TE) : TS := fun D σ H => te σ H D.rt
theorem ps_ret (he : PE X e te) : PS X (.Return (some e) pos) (tRet te) := by
  intro pins s σ H D I h
  exact wpAny_Return_some (thn (he pins s σ H _ I h) fun v s1 ⟨x, H1, I1, r1, q1⟩ => ⟨x, σ, H1, I1, r1, q1⟩)
def tIfS (c : TT) (t u : TS) : TS := fun D σ H => c σ H fun b H1 => if b = true then t D σ H1 else u D σ H1
theorem ps_if {c : Expr} {a b : List Stmt} {tc : TT} (hc : PT X c tc) (ha : PSs X a t) (hb : PSs X b u) : PS X (.If c a b pos) (tIfS tc t u) := by
  intro pins s σ H D I h
  refine wpAny_If (thn (hc pins s σ H _ I h) fun d s1 ⟨H1, I1, q1⟩ => ?_)
  cases d with
  | true => exact ha pins s1 σ H1 D I1 q1
  | false => exact hb pins s1 σ H1 D I1 q1
end
abbrev TG := V → St → Hp → (St → Hp → Prop) → Prop
abbrev TGs := List V → St → Hp → (St → Hp → Prop) → Prop
def PG (X : Cx) (target : Expr) (t : TG) : Prop :=
  ∀ (pins : List (Addr × Obj)) (s : Shared) (σ : St) (H : Hp) (v : V) (u : Value) (Q : St → Hp → Prop), Inv X pins σ H s → RelV v u → t v σ H Q →
    wpAny (model X.prog X.w) X.A (assign target X.env u) (fun _ s' => ∃ σ' H', Inv X pins σ' H' s' ∧ Q σ' H') X.xe s
def PGs (X : Cx) (ts : List Expr) (t : TGs) : Prop :=
  ∀ (pins : List (Addr × Obj)) (s : Shared) (σ : St) (H : Hp) (vs : List V) (us : List Value) (Q : St → Hp → Prop), Inv X pins σ H s → Vals vs us → t vs σ H Q →
    wpAny (model X.prog X.w) X.A (assignInOrder ((assignEach ts X.env).map (·.2)) us) (fun _ s' => ∃ σ' H', Inv X pins σ' H' s' ∧ Q σ' H') X.xe s
abbrev TSet := V → V → V → Hp → (Hp → Prop) → Prop
def PSet (X : Cx) (t : TSet) : Prop :=
  ∀ (pins : List (Addr × Obj)) (s : Shared) (σ : St) (H : Hp) (o i v : V) (ov iv u : Value) (Q : Hp → Prop), Inv X pins σ H s → RelV o ov → RelV i iv → RelV v u → t o i v H Q →
    wpAny (model X.prog X.w) X.A (setItem ov iv u) (fun _ s' => ∃ H', Inv X pins σ H' s' ∧ Q H') X.xe s
section
variable {X : Cx} {pos : Pos}
def gName (i : Nat) : TG := fun v σ H Q => Q (σ.set i (some v)) H
theorem pg_name {i : Nat} {x : Str} (hN : X.N.Nodup) (hi : X.N[i]? = some x) (hx : Loc X.env.scope x) (hf : X.fn x = true ∨ X.env.scope.names.lookup x = some .local := by first | exact .inl rfl | exact .inr rfl | assumption) : PG X (.Name x pos) (gName i) := by
  intro pins s σ H v u Q I r h
  exact wpAny_assign_Name (store_ok I hN hi hx r (fun s' I' => ⟨_, H, I', h⟩) hf)
def gNil : TGs := fun vs σ H Q => vs = [] ∧ Q σ H
def gCons (t : TG) (u : TGs) : TGs := fun vs σ H Q => ∃ v r, vs = v :: r ∧ t v σ H fun σ' H' => u r σ' H' Q
theorem pgs_nil : PGs X [] gNil := by
  intro pins s σ H vs us Q I r h
  obtain ⟨e, h⟩ := h
  subst e
  cases r
  exact assignInOrder_nil ⟨σ, H, I, h⟩
theorem pgs_cons {e : Expr} {es : List Expr} {t : TG} {u : TGs} (h1 : PG X e t) (h2 : PGs X es u)
    (hs : (assignEach (e :: es) X.env).map (·.2) = assign e X.env :: (assignEach es X.env).map (·.2) := by rfl) : PGs X (e :: es) (gCons t u) := by
  intro pins s σ H vs us Q I r h
  obtain ⟨v, vr, e1, h⟩ := h
  subst e1
  cases r with
  | cons r rr =>
    rw [hs]
    refine assignInOrder_cons (thn (h1 pins s σ H _ _ _ I r h) fun _ s1 ⟨σ1, H1, I1, q1⟩ => ?_)
    exact h2 pins s1 σ1 H1 _ _ Q I1 rr q1
def gTup (K : PySem.W.Frag) (n : Nat) (t : TGs) : TG := fun v σ H Q => ∃ a xs, v = .ref a ∧ SqT K H a xs ∧ xs.length = n ∧ t xs σ H Q
theorem pg_tup {es : List Expr} {k : Nat} {t : TGs} {n : Nat} (hc : X.calm = true) (h : PGs X es t)
    (hn : (assignEach es X.env).length = n := by rfl) (hst : (assignEach es X.env).findIdx? (·.1) = none := by rfl) : PG X (.Tuple es k pos) (gTup X.K n t) := by
  intro pins s σ H v u Q I r hw
  obtain ⟨a, xs, e1, hq, hl, hw⟩ := hw
  subst e1
  cases r
  obtain ⟨its, rv, ht, hz⟩ := I.tuple hq
  refine assign_Tuple_tuple (I.ok.hd hc) ht (by simp [hn, ← hl, rv.length]) hst fun h' hx => ?_
  have I1 : Inv X pins σ H { s with heap := h' } := I.kept (t' := s.toks) fun b o e => hx b o (Nat.ne_of_lt (Heap.lt_size e)) e
  exact h pins _ σ H xs _ Q I1 (by simpa using rv) hw
def gSub (to ti : TE) (t : TSet) : TG := fun v σ H Q => to σ H fun o H1 => ti σ H1 fun i H2 => t o i v H2 fun H3 => Q σ H3
theorem pg_sub {o i : Expr} {to ti : TE} {t : TSet} (ho : PE X o to) (hi : PE X i ti) (hs : PSet X t)
    (ha : ∀ v, assign (.Subscript o i pos) X.env v = (do
      let ov ← holding [v] (eval o X.env)
      let iv ← holding [v, ov] (eval i X.env)
      standAt pos
      holding [v, ov, iv] (setItem ov iv v)
      release [v, ov, iv] []) := by intro _; rfl) : PG X (.Subscript o i pos) (gSub to ti t) := by
  intro pins s σ H v u Q I r h
  rw [ha]
  refine wpAny_bind (wpAny_holding (thn (ho pins s σ H _ I h) fun ov s1 ⟨x, H1, I1, r1, q1⟩ => ?_))
  refine wpAny_bind (wpAny_holding (thn (hi pins s1 σ H1 _ I1 q1) fun iv s2 ⟨y, H2, I2, r2, q2⟩ => ?_))
  refine wpAny_bind (wpAny_standAt (wpAny_bind (wpAny_holding (thn (hs pins s2 σ H2 x y v ov iv u _ I2 r1 r2 r q2) fun _ s3 ⟨H3, I3, q3⟩ => ?_))))
  exact wpAny_release ⟨σ, H3, I3, q3⟩
def tAsg (te : TE) (g : TG) : TS := fun D σ H => te σ H fun x H1 => g x σ H1 D.nx
theorem ps_asg {tg e : Expr} {te : TE} {g : TG} (he : PE X e te) (hg : PG X tg g) (hs : swapsWithSole [tg] e pos.line X.env = pure false := by rfl) (hw : swappedStores [tg] e X.env = pure none := by rfl)
    (h1 : (assignEach [tg] X.env).map (·.2) = [assign tg X.env] := by rfl) : PS X (.Assign [tg] e pos) (tAsg te g) := by
  intro pins s σ H D I h
  refine wpAny_Assign_stores (thn (he pins s σ H _ I h) fun v s1 ⟨x, H1, I1, r1, q1⟩ => ?_) hs hw
  rw [h1]
  exact thn (hg pins s1 σ H1 x v _ I1 r1 q1) fun _ s2 q => q
theorem ps_set {i : Nat} {x : Str} {e : Expr} {te : TE} {pos' : Pos} (hN : X.N.Nodup) (hi : X.N[i]? = some x) (hx : Loc X.env.scope x) (he : PE X e te) (hs : swapsWith e (some (.Name x pos')) pos.line X.env = pure false := by rfl) (hf : X.fn x = true ∨ X.env.scope.names.lookup x = some .local := by first | exact .inl rfl | exact .inr rfl | assumption) :
    PS X (.Assign [.Name x pos'] e pos) (tAsg te (gName i)) := by
  intro pins s σ H D I h
  refine wpAny_Assign_Name (thn (he pins s σ H _ I h) fun v s1 ⟨y, H1, I1, r1, q1⟩ => ?_) hs
  exact store_ok I1 hN hi hx r1 (fun s2 I2 => ⟨_, H1, I2, q1⟩) hf
end
section
variable {X : Cx} {pos : Pos}
end
structure It where
  go : Nat → Hp → Prop
  yld : Nat → Hp → V → Hp → Prop
  stop : Nat → Hp → Prop
def FpOk (X : Cx) (pins : List (Addr × Obj)) (H : Hp) (b : Addr) : Prop :=
  H b = none ∧ b ≠ X.env.locals ∧ b ∉ X.fs ∧ (b ∈ X.ex ∨ X.s₀.heap.objs.size ≤ b) ∧ (∀ x c, X.env.cells.lookup x = some c → c ≠ b) ∧ ∀ p ∈ X.pn ++ pins, p.1 ≠ b
theorem Inv.fpOk {X : Cx} {pins : List (Addr × Obj)} {σ : St} {H H' : Hp} {s : Shared} {b : Addr} (I : Inv X pins σ H s) (hb : s.heap.objs.size ≤ b) (hn : H' b = none) : FpOk X pins H' b := by
  refine ⟨hn, Nat.ne_of_gt (Nat.lt_of_lt_of_le I.lt hb), I.nofs hb, .inr (Nat.le_trans I.sz hb), fun x c e z => ?_, fun p hp z => ?_⟩
  · obtain ⟨v, q⟩ := I.cell x c e
    exact absurd (Nat.lt_of_lt_of_le q.lt (by rw [z]; exact hb)) (Nat.lt_irrefl _)
  · exact absurd (Nat.lt_of_lt_of_le (Heap.lt_size (I.pin p hp).1) (by rw [z]; exact hb)) (Nat.lt_irrefl _)
structure Turn (P : Program) (w : World) (K : PySem.W.Frag) (tg : Expr) (J : It) (fp : List Addr) (it : Addr) (tn : Nat → Heap → Prop) : Prop where
  mem : it ∈ fp
  obj : ∀ i h, tn i h → ∀ b ∈ fp, ∃ o, h.get? b = some o ∧ ∀ v, o.data ≠ .cell v
  keep : ∀ i h h', tn i h → (∀ b ∈ fp, ∀ o, h.get? b = some o → h'.get? b = some o) → tn i h'
  item : ∀ (X : Cx), X.prog = P → X.w = w → X.K = K → X.calm = true → ∀ (i : Nat) (pins : List (Addr × Obj)) (s : Shared) (σ : St) (H : Hp) (E : Value → Shared → Prop), Inv X pins σ H s → (∀ b ∈ fp, FpOk X pins H b) → tn i s.heap → J.go i H →
    wpAny (model P w) X.A (pyNext (.ref it)) (fun r s1 => ∃ u, r = some u ∧
      wpAny (model P w) X.A (letOwnedTupleGo tg (.ref it) u) (fun _ s2 => ∃ x H', Inv X pins σ H' s2 ∧ RelV x u ∧ J.yld i H x H' ∧ tn (i + 1) s2.heap ∧ ∀ b ∈ fp, H' b = none) E s1) E s
  done : ∀ (X : Cx), X.prog = P → X.w = w → X.K = K → X.calm = true → ∀ (i : Nat) (pins : List (Addr × Obj)) (s : Shared) (σ : St) (H : Hp) (E : Value → Shared → Prop), Inv X pins σ H s → (∀ b ∈ fp, FpOk X pins H b) → tn i s.heap → J.stop i H →
    wpAny (model P w) X.A (pyNext (.ref it)) (fun r s1 => r = none ∧ Inv X pins σ H s1) E s
  self : ∀ (A : Around) (i : Nat) (s : Shared) (Q : Value → Shared → Prop) (E : Value → Shared → Prop), tn i s.heap → Q (.ref it) s → wpAny (model P w) A (pyIter (.ref it)) Q E s
abbrev TI := St → Hp → (It → Hp → Prop) → Prop
def PIE (X : Cx) (pins : List (Addr × Obj)) (σ : St) (tg : Expr) (R : It → Hp → Prop) (itv : Value) (s2 : Shared) : Prop :=
  ∃ (it : Addr) (fp : List Addr) (tn : Nat → Heap → Prop) (J : It) (H' : Hp), itv = .ref it ∧ Inv X pins σ H' s2 ∧ Turn X.prog X.w X.K tg J fp it tn ∧ tn 0 s2.heap ∧ (∀ b ∈ fp, FpOk X pins H' b) ∧ R J H'
def PI (X : Cx) (tg iter : Expr) (wi : TI) : Prop :=
  ∀ (pins : List (Addr × Obj)) (s : Shared) (σ : St) (H : Hp) (R : It → Hp → Prop), Inv X pins σ H s → wi σ H R →
    wpAny (model X.prog X.w) X.A (eval iter X.env) (fun v s1 => wpAny (model X.prog X.w) X.A (pyIter v) (PIE X pins σ tg R) X.xe s1) X.xe s
theorem go_of {M : Model} {A : Around} {E : Value → Shared → Prop} {s : Shared} {tg : Expr} {it : Addr} {u : Value} {o : Obj} {n : String} {vs : Array Value} {Q : Unit → Shared → Prop} (ho : s.heap.get? it = some o) (hc : o.cls = .type n) (hd : o.data = .fields vs)
    (hn : ["enumerate", "zip", "dict_itemiterator", "dict_reverseitemiterator", "odict_iterator", "itertools.zip_longest", "itertools.pairwise"].contains n = false) (hQ : Q () s) : wpAny M A (letOwnedTupleGo tg (.ref it) u) Q E s := by
  unfold letOwnedTupleGo
  cases tg <;> first
    | exact wpAny_pure hQ
    | (cases u <;> first
        | exact wpAny_pure hQ
        | (refine wpAny_bind (wpAny_load ho ?_)
           rw [hc, hd]
           show wpAny M A (if (["enumerate", "zip", "dict_itemiterator", "dict_reverseitemiterator", "odict_iterator", "itertools.zip_longest", "itertools.pairwise"].contains n && vs[0]? == some (rawInt _)) = true then _ else _) Q E s
           rw [if_neg (by intro h; rw [hn, Bool.false_and] at h; cases h)]
           exact wpAny_pure hQ))
def Itl (K : PySem.W.Frag) (a : Addr) : It :=
  ⟨fun i H => ∃ xs x, SqL K H a xs ∧ xs[i]? = some x, fun i H x H' => H' = H ∧ ∀ xs, SqL K H a xs → xs[i]? = some x, fun i H => ∃ xs, SqL K H a xs ∧ xs.length ≤ i⟩
def Itt (K : PySem.W.Frag) (a : Addr) : It :=
  ⟨fun i H => ∃ xs x, SqT K H a xs ∧ xs[i]? = some x, fun i H x H' => H' = H ∧ ∀ xs, SqT K H a xs → xs[i]? = some x, fun i H => ∃ xs, SqT K H a xs ∧ xs.length ≤ i⟩
def Itr (lo : Int) (n : Nat) : It := ⟨fun i _ => i < n, fun i H x H' => H' = H ∧ x = .int (lo + i), fun i _ => n ≤ i⟩
theorem turn_list {P : Program} {w : World} {K : PySem.W.Frag} {tg : Expr} (a it : Addr) : Turn P w K tg (Itl K a) [it] it (fun i h => h.IsListIter it a i) where
  mem := by simp
  obj := fun i h st b hb => by
    have e : b = it := by simpa using hb
    subst e
    obtain ⟨o, e, c, d⟩ := st
    exact ⟨o, e, fun v z => by rw [d] at z; cases z⟩
  keep := fun i h h' st k => st.at fun o e => k it (by simp) o e
  item := by
    intro X hP hw hK hc i pins s σ H E I hf st hg
    subst hP hw hK
    obtain ⟨xs, x, hq, hx⟩ := hg
    obtain ⟨its, rv, p, hz⟩ := I.list hq
    obtain ⟨u, hu, ru⟩ := rv.get hx
    obtain ⟨f0, f1, f2, f3, f4, f5⟩ := hf it (by simp)
    refine wpAny_pyNext_list_item st p.isList (x := u) (by simpa using hu) fun h' st' sb => ?_
    have I1 : Inv X pins σ H { s with heap := h' } := I.turned (t' := s.toks) (fun b o hb e => (sb.2 b hb).trans e) f0 f1 f3 f4 f5
    obtain ⟨o, e, c, d⟩ := id st'
    exact ⟨u, rfl, go_of (s := { s with heap := h' }) e c d (by decide) ⟨x, H, I1, ru, ⟨rfl, fun ys hy => by rw [I.list_inj hy hq]; exact hx⟩, st', fun b hb => (hf b hb).1⟩⟩
  done := by
    intro X hP hw hK hc i pins s σ H E I hf st hg
    subst hP hw hK
    obtain ⟨xs, hq, hx⟩ := hg
    obtain ⟨its, rv, p, hz⟩ := I.list hq
    obtain ⟨f0, f1, f2, f3, f4, f5⟩ := hf it (by simp)
    have hl := rv.length
    exact wpAny_pyNext_list_end (I.ok.hd hc) st p.isList (by simp; omega) fun h' eb => ⟨rfl, I.turned (t' := s.toks) (fun b o hb e => eb b o hb e) f0 f1 f3 f4 f5⟩
  self := fun _ _ _ _ _ st h => wpAny_pyIter_listiter st h
theorem turn_range {P : Program} {w : World} {K : PySem.W.Frag} {tg : Expr} (it : Addr) (lo : Int) (n : Nat) : Turn P w K tg (Itr lo n) [it] it (fun i h => IsRangeIter h it (lo + (i : Nat) * 1) ((n : Int) - (i : Nat)) 1) where
  mem := by simp
  obj := fun i h st b hb => by
    have e : b = it := by simpa using hb
    subst e
    exact ⟨_, st, fun v z => by
      have z' : Data.fields _ = Data.cell v := z
      cases z'⟩
  keep := fun i h h' st k => k it (by simp) _ st
  item := by
    intro X hP hw hK hc i pins s σ H E I hf st hg
    subst hP hw hK
    obtain ⟨f0, f1, f2, f3, f4, f5⟩ := hf it (by simp)
    have W := Walks.range (prog := X.prog) (w := X.w) (I.ok.hd hc) it lo 1 n
    refine W.item i s _ _ hg st fun v h' tk hv st' kk => ?_
    obtain ⟨t, rfl⟩ := hv
    have I1 : Inv X pins σ H { s with heap := h', toks := tk } := I.turned (fun b o hb e => kk b o (by simpa using hb) e) f0 f1 f3 f4 f5
    refine ⟨_, rfl, go_of (s := { s with heap := h', toks := tk }) (n := "range_iterator") st' rfl rfl (by decide) ⟨.int (lo + i), H, I1, ⟨t, ?_⟩, ⟨rfl, rfl⟩, st', fun b hb => (hf b hb).1⟩⟩
    rw [Int.mul_one]
  done := by
    intro X hP hw hK hc i pins s σ H E I hf st hg
    subst hP hw hK
    obtain ⟨f0, f1, f2, f3, f4, f5⟩ := hf it (by simp)
    exact wpAny_pyNext_range_end (I.ok.hd hc) st (by have : n ≤ i := hg; omega) fun h' eb => ⟨rfl, I.turned (t' := s.toks) (fun b o hb e => eb b o hb e) f0 f1 f3 f4 f5⟩
  self := fun _ _ _ _ _ st h => wpAny_pyIter_rangeiter st h
end L2
namespace L2
open PySem PySem.Spec PyProof.Rows
section
variable {X : Cx} {tg : Expr}
def iList (K : PySem.W.Frag) (tl : TE) : TI := fun σ H R => tl σ H fun x H1 => ∃ a, x = .ref a ∧ (∃ xs, SqL K H1 a xs) ∧ R (Itl K a) H1
theorem pi_list {l : Expr} {tl : TE} (hl : PE X l tl) : PI X tg l (iList X.K tl) := by
  intro pins s σ H R I h
  refine thn (hl pins s σ H _ I h) fun v s1 ⟨x, H1, I1, r1, q1⟩ => ?_
  obtain ⟨a, e, ⟨xs, hq⟩, q⟩ := q1
  subst e
  cases r1
  obtain ⟨its, rv, p, hz⟩ := I1.list hq
  refine wpAny_pyIter_list p.isList ?_
  refine ⟨s1.heap.objs.size, [s1.heap.objs.size], _, _, H1, rfl, I1.kept (t' := s1.toks) fun b o e => Heap.get?_push_of_some _ e, turn_list a _, ⟨_, Heap.get?_push_size _ rfl, rfl, rfl⟩, fun b hb => ?_, q⟩
  have e : b = s1.heap.objs.size := by simpa using hb
  subst e
  exact I1.fpOk (Nat.le_refl _) (I1.hok.fresh (Nat.le_refl _))
theorem range_it {pins : List (Addr × Obj)} {σ : St} {H : Hp} {s : Shared} {R : It → Hp → Prop} {E : Value → Shared → Prop} {lo hi : Int} {t u v : Tok} {tk : Nat} (I : Inv X pins σ H s) (h1 : -(2 ^ 62) ≤ lo) (h2 : lo < 2 ^ 62) (h3 : -(2 ^ 62) ≤ hi) (h4 : hi < 2 ^ 62)
    (q : R (Itr lo (hi - lo).toNat) H) : wpAny (model X.prog X.w) X.A (pyIter (.ref s.heap.objs.size)) (PIE X pins σ tg R) E { s with heap := s.heap.push { cls := .type "range", data := .fields #[.int lo t, .int hi u, .int 1 v] }, toks := tk } := by
  refine wpAny_pyIter_range (IsRange.new ..) (small_one h1 h2 h3 h4) ?_
  have I1 : Inv X pins σ H { s with heap := s.heap.push { cls := .type "range", data := .fields #[.int lo t, .int hi u, .int 1 v] }, toks := tk } := I.kept fun b o e => Heap.get?_push_of_some _ e
  refine ⟨(s.heap.push { cls := .type "range", data := .fields #[.int lo t, .int hi u, .int 1 v] }).objs.size, [(s.heap.push { cls := .type "range", data := .fields #[.int lo t, .int hi u, .int 1 v] }).objs.size], _, _, H, rfl,
    I1.kept (t' := tk) fun b o e => Heap.get?_push_of_some _ e, turn_range _ lo (hi - lo).toNat, ?_, fun b hb => ?_, q⟩
  · have e1 : lo + ((0 : Nat) : Int) * 1 = lo := by simp
    have e2 : (((hi - lo).toNat : Nat) : Int) - ((0 : Nat) : Int) = Builtin.Range.rangeSize lo hi 1 := by rw [rangeSize_one]; split <;> omega
    show IsRangeIter _ _ (lo + ((0 : Nat) : Int) * 1) ((((hi - lo).toNat : Nat) : Int) - ((0 : Nat) : Int)) 1
    rw [e1, e2]
    exact Heap.get?_push_size _ rfl
  · have e : b = (s.heap.push { cls := .type "range", data := .fields #[.int lo t, .int hi u, .int 1 v] }).objs.size := by simpa using hb
    subst e
    exact I1.fpOk (Nat.le_refl _) (I1.hok.fresh (Nat.le_refl _))
def iRng1 (ta : TA) : TI := fun σ H R => ta σ H fun vs H1 => ∃ j : Int, vs = [.int j] ∧ -(2 ^ 62) ≤ j ∧ j < 2 ^ 62 ∧ R (Itr 0 j.toNat) H1
theorem pi_range1 {a : Expr} {ta : TA} {p pos : Pos} (hg : Gl X "range") (hm : X.mg "range" = none) (ha : PA X [a] ta) (hs : starEach [a] X.env = [(false, eval a X.env)] := by rfl) : PI X tg (.Call (.Name "range" p) [a] [] pos) (iRng1 ta) := by
  intro pins s σ H R I h
  refine Call_ (ld_blt I hg hm boot_range (PyProof.Rows.callWith_type1 (thn (ha pos pins s σ H _ I h) fun us s1 ⟨vs, H1, I1, r1, q1⟩ => ?_) hs rfl))
  obtain ⟨j, e, q1, q2, q⟩ := q1
  subst e
  cases r1 with
  | cons r rr =>
    cases rr
    obtain ⟨t, rfl⟩ := r
    exact call_range_1 (range_it I1 (by omega) (by omega) q1 q2 (by simpa using q))
def tFor (wi : TI) (g : TG) (tb : TS) : TS := fun D σ H => wi σ H fun J H1 => ∃ W : Nat → Nat → St → Hp → Prop, (∃ m, W 0 m σ H1) ∧ ∀ i m σ H, W i m σ H →
  (J.stop i H ∧ D.nx σ H) ∨ (J.go i H ∧ ∃ N : St → Hp → Prop, (∀ σ' H', N σ' H' → ∃ m', m' < m ∧ W (i + 1) m' σ' H') ∧ ∀ x H', J.yld i H x H' → g x σ H' fun σ2 H2 => tb { D with nx := N, ct := N, bk := D.nx } σ2 H2)
def pinsAt (fp : List Addr) (h : Heap) : List (Addr × Obj) := fp.filterMap fun b => (h.get? b).map fun o => (b, o)
theorem mem_pinsAt {fp : List Addr} {h : Heap} {b : Addr} {o : Obj} (hb : b ∈ fp) (e : h.get? b = some o) : (b, o) ∈ pinsAt fp h := List.mem_filterMap.mpr ⟨b, hb, by rw [e]; rfl⟩
theorem of_pinsAt {fp : List Addr} {h : Heap} {p : Addr × Obj} (hp : p ∈ pinsAt fp h) : p.1 ∈ fp ∧ h.get? p.1 = some p.2 := by
  obtain ⟨b, hb, e⟩ := List.mem_filterMap.mp hp
  cases q : h.get? b with
  | none => rw [q] at e; cases e
  | some o =>
    rw [q] at e
    have e' : (b, o) = p := Option.some.inj e
    subst e'
    exact ⟨hb, q⟩
theorem Inv.pinned {pins : List (Addr × Obj)} {σ : St} {H : Hp} {s : Shared} {fp : List Addr} (I : Inv X pins σ H s) (hf : ∀ b ∈ fp, FpOk X pins H b) (ho : ∀ b ∈ fp, ∃ o, s.heap.get? b = some o ∧ ∀ v, o.data ≠ .cell v) : Inv X (pins ++ pinsAt fp s.heap) σ H s :=
  I.pins_of fun p hp => (List.mem_append.mp hp).elim (fun z => I.pin p (List.mem_append_right _ z)) fun z => by
    obtain ⟨hb, e⟩ := of_pinsAt z
    obtain ⟨f0, f1, f2, _⟩ := hf p.1 hb
    obtain ⟨o, e', d⟩ := ho p.1 hb
    rw [e] at e'; cases e'
    exact ⟨e, f0, f1, f2, d⟩
theorem Inv.unpinned {pins pl : List (Addr × Obj)} {σ : St} {H : Hp} {s : Shared} (I : Inv X (pins ++ pl) σ H s) : Inv X pins σ H s := I.pins_of fun p hp => I.pin p (List.mem_append_right _ (List.mem_append_left _ hp))
theorem ps_for {iter : Expr} {body : List Stmt} {wi : TI} {g : TG} {tb : TS} {pos : Pos} (hp : PassesOwn (model X.prog X.w) X.A X.env X.xe) (hc : X.calm = true) (hi : PI X tg iter wi) (hg : PG X tg g) (hb : PSs X body tb)
    (hs : ∀ x, foldedSetIterable iter X.env x = pure x := by intro _; rfl) : PS X (.For tg iter body [] pos) (tFor wi g tb) := by
  intro pins s σ H D I h
  refine wpAny_For (thn (hi pins s σ H _ I h) fun v s1 h1 => thn h1 fun itv s2 h2 => ?_) hs
  obtain ⟨it, fp, tn, J, H2, e, I2, T, st2, f2, W, ⟨m0, w0⟩, turn⟩ := h2
  subst e
  -- what stays true of the iterator's objects through the loop
  have stat : ∀ {H' : Hp}, (∀ b ∈ fp, H' b = none) → ∀ b ∈ fp, FpOk X pins H' b := fun hn b hb => ⟨hn b hb, (f2 b hb).2⟩
  refine codeAny_forLoop_any (fun n s' => ∃ i σ' H', Inv X pins σ' H' s' ∧ tn i s'.heap ∧ (∀ b ∈ fp, H' b = none) ∧ W i n σ' H') ?_ m0 ⟨0, σ, H2, I2, st2, fun b hb => (f2 b hb).1, w0⟩
  rintro n s3 ⟨i, σ3, H3, I3, st3, fr3, w3⟩
  rcases turn i n σ3 H3 w3 with ⟨stop, qn⟩ | ⟨go, N, hN, step⟩
  · refine wpAny_passesOwn hp (thn (T.done X rfl rfl rfl hc i pins s3 σ3 H3 X.xe I3 (stat fr3) st3 stop) fun r s4 ⟨hr, I4⟩ => ?_)
    subst hr
    exact wpAny_execs_nil ⟨σ3, H3, I4, qn⟩
  · refine wpAny_passesOwn hp (thn (T.item X rfl rfl rfl hc i pins s3 σ3 H3 X.xe I3 (stat fr3) st3 go) fun r s4 ⟨u, hr, h4⟩ => ?_)
    subst hr
    refine wpAny_passesOwn hp (thn h4 fun _ s5 ⟨x, H5, I5, r5, y5, st5, fr5⟩ => ?_)
    have I5' := I5.pinned (stat fr5) (T.obj _ _ st5)
    refine wpAny_passesOwn hp (thn (hg _ s5 σ3 H5 x u _ I5' r5 (step x H5 y5)) fun _ s6 ⟨σ6, H6, I6, q6⟩ => ?_)
    refine wpAny_passesOwn hp (thn (hb _ s6 σ6 H6 _ I6 q6) fun f s7 q7 => ?_)
    have again : ∀ {σ7 : St} {H7 : Hp}, Inv X (pins ++ pinsAt fp s5.heap) σ7 H7 s7 → N σ7 H7 → ∃ m, m < n ∧ ∃ i σ' H', Inv X pins σ' H' s7 ∧ tn i s7.heap ∧ (∀ b ∈ fp, H' b = none) ∧ W i m σ' H' := fun {σ7 H7} I7 n7 => by
      obtain ⟨m', hm, w7⟩ := hN σ7 H7 n7
      refine ⟨m', hm, i + 1, σ7, H7, I7.unpinned, T.keep _ _ _ st5 fun b hb o e => (I7.pin (b, o) (List.mem_append_right _ (List.mem_append_right _ (mem_pinsAt hb e)))).1, fun b hb => ?_, w7⟩
      obtain ⟨o, e, d⟩ := T.obj _ _ st5 b hb
      exact (I7.pin (b, o) (List.mem_append_right _ (List.mem_append_right _ (mem_pinsAt hb e)))).2.1
    cases f with
    | next => obtain ⟨σ7, H7, I7, n7⟩ := q7; exact again I7 n7
    | cont => obtain ⟨σ7, H7, I7, n7⟩ := q7; exact again I7 n7
    | brk => obtain ⟨σ7, H7, I7, q7⟩ := q7; exact ⟨σ7, H7, I7.unpinned, q7⟩
    | ret v => obtain ⟨x7, σ7, H7, I7, r7, q7⟩ := q7; exact ⟨x7, σ7, H7, I7.unpinned, r7, q7⟩
end
theorem for_list {K : PySem.W.Frag} {a : Addr} {xs : List V} {g : TG} {tb : TS} {D : Ends} {σ : St} {H : Hp} (Pv : Nat → St → Hp → Prop) (h0 : Pv 0 σ H) (hl : ∀ i σ H, i ≤ xs.length → Pv i σ H → SqL K H a xs)
    (hs : ∀ i x σ H, xs[i]? = some x → Pv i σ H → g x σ H fun σ2 H2 => tb { D with nx := Pv (i + 1), ct := Pv (i + 1), bk := D.nx } σ2 H2) (hd : ∀ σ H, Pv xs.length σ H → D.nx σ H) :
    ∃ W : Nat → Nat → St → Hp → Prop, (∃ m, W 0 m σ H) ∧ ∀ i m σ H, W i m σ H →
      ((Itl K a).stop i H ∧ D.nx σ H) ∨ ((Itl K a).go i H ∧ ∃ N : St → Hp → Prop, (∀ σ' H', N σ' H' → ∃ m', m' < m ∧ W (i + 1) m' σ' H') ∧ ∀ x H', (Itl K a).yld i H x H' → g x σ H' fun σ2 H2 => tb { D with nx := N, ct := N, bk := D.nx } σ2 H2) := by
  refine ⟨fun i m σ H => m = xs.length - i ∧ i ≤ xs.length ∧ Pv i σ H, ⟨xs.length, by simp, Nat.zero_le _, h0⟩, ?_⟩
  rintro i m σ H ⟨rfl, hi, p⟩
  have q := hl i σ H hi p
  by_cases hlt : i < xs.length
  · refine .inr ⟨⟨xs, xs[i], q, by simp [hlt]⟩, Pv (i + 1), fun σ' H' p' => ⟨xs.length - (i + 1), by omega, rfl, hlt, p'⟩, fun x H' y => ?_⟩
    obtain ⟨e, y⟩ := y
    subst e
    exact hs i x σ _ (y xs q) p
  · have e : i = xs.length := by omega
    subst e
    exact .inl ⟨⟨xs, q, Nat.le_refl _⟩, hd σ H p⟩
theorem for_range {lo : Int} {n : Nat} {g : TG} {tb : TS} {D : Ends} {σ : St} {H : Hp} (Pv : Nat → St → Hp → Prop) (h0 : Pv 0 σ H)
    (hs : ∀ i σ H, i < n → Pv i σ H → g (.int (lo + i)) σ H fun σ2 H2 => tb { D with nx := Pv (i + 1), ct := Pv (i + 1), bk := D.nx } σ2 H2) (hd : ∀ σ H, Pv n σ H → D.nx σ H) :
    ∃ W : Nat → Nat → St → Hp → Prop, (∃ m, W 0 m σ H) ∧ ∀ i m σ H, W i m σ H →
      ((Itr lo n).stop i H ∧ D.nx σ H) ∨ ((Itr lo n).go i H ∧ ∃ N : St → Hp → Prop, (∀ σ' H', N σ' H' → ∃ m', m' < m ∧ W (i + 1) m' σ' H') ∧ ∀ x H', (Itr lo n).yld i H x H' → g x σ H' fun σ2 H2 => tb { D with nx := N, ct := N, bk := D.nx } σ2 H2) := by
  refine ⟨fun i m σ H => m = n - i ∧ i ≤ n ∧ Pv i σ H, ⟨n, by simp, Nat.zero_le _, h0⟩, ?_⟩
  rintro i m σ H ⟨rfl, hi, p⟩
  by_cases hlt : i < n
  · refine .inr ⟨hlt, Pv (i + 1), fun σ' H' p' => ⟨n - (i + 1), by omega, rfl, hlt, p'⟩, fun x H' y => ?_⟩
    obtain ⟨e, y⟩ := y
    subst e y
    exact hs i σ _ hlt p
  · have e : i = n := by omega
    subst e
    exact .inl ⟨Nat.le_refl _, hd σ H p⟩
end L2
namespace L2
open PySem PySem.Spec PyProof.Rows
abbrev R2 := V → V → Hp → VK → Prop
def OpR (X : Cx) (f : Value → Value → Sem Value) (r : R2) : Prop :=
  ∀ (pins : List (Addr × Obj)) (s : Shared) (σ : St) (H : Hp) (x y : V) (v u : Value) (Q : VK), Inv X pins σ H s → RelV x v → RelV y u → r x y H Q →
    wpAny (model X.prog X.w) X.A (f v u) (EP X pins σ Q) X.xe s
def UnR (X : Cx) (f : Value → Sem Value) (r : V → Hp → VK → Prop) : Prop :=
  ∀ (pins : List (Addr × Obj)) (s : Shared) (σ : St) (H : Hp) (x : V) (v : Value) (Q : VK), Inv X pins σ H s → RelV x v → r x H Q →
    wpAny (model X.prog X.w) X.A (f v) (EP X pins σ Q) X.xe s
def CallR (X : Cx) (f : Value) (r : List V → Hp → VK → Prop) : Prop :=
  ∀ (pins : List (Addr × Obj)) (s : Shared) (σ : St) (H : Hp) (xs : List V) (us : List Value) (Q : VK), Inv X pins σ H s → Vals xs us → r xs H Q →
    wpAny (model X.prog X.w) X.A (call f us) (EP X pins σ Q) X.xe s
def TruR (X : Cx) (r : V → Hp → (Bool → Hp → Prop) → Prop) : Prop :=
  ∀ (pins : List (Addr × Obj)) (s : Shared) (σ : St) (H : Hp) (x : V) (v : Value) (Q : Bool → Hp → Prop), Inv X pins σ H s → RelV x v → r x H Q →
    wpAny (model X.prog X.w) X.A (truthy v) (TP X pins σ Q) X.xe s
def tOp (r : R2) (ta tb : TE) : TE := fun σ H Q => ta σ H fun x H1 => tb σ H1 fun y H2 => r x y H2 Q
def tUn (r : V → Hp → VK → Prop) (ta : TE) : TE := fun σ H Q => ta σ H fun x H1 => r x H1 Q
def rI (C : Int → Int → Prop) (g : Int → Int → V) : R2 := fun x y H Q => ∃ i j, x = .int i ∧ y = .int j ∧ C i j ∧ Q (g i j) H
def rI0 (g : Int → Int → V) : R2 := fun x y H Q => ∃ i j, x = .int i ∧ y = .int j ∧ Q (g i j) H
def rU (g : Int → V) : V → Hp → VK → Prop := fun x H Q => ∃ i, x = .int i ∧ Q (g i) H
section
variable {X : Cx} {a b c : Expr} {ta tb tc : TE} {pos : Pos}
theorem binT (ha : PE X a ta) (hb : PE X b tb) {pins : List (Addr × Obj)} {s : Shared} {σ : St} {H : Hp} {R : V → V → Hp → Prop} (I : Inv X pins σ H s)
    (h : ta σ H fun x H1 => tb σ H1 fun y H2 => R x y H2) {Q : Value → Shared → Prop} {f : Value → Value → Sem Value}
    (hf : ∀ v u s2 x y H2, Inv X pins σ H2 s2 → RelV x v → RelV y u → R x y H2 → wpAny (model X.prog X.w) X.A (f v u) Q X.xe s2) :
    wpAny (model X.prog X.w) X.A (eval a X.env) (fun v s₁ => wpAny (model X.prog X.w) X.A (eval b X.env) (fun u s₂ => wpAny (model X.prog X.w) X.A (f v u) Q X.xe s₂) X.xe s₁) X.xe s := by
  refine thn (ha pins s σ H _ I h) fun v s1 ⟨x, H1, I1, r1, q1⟩ => ?_
  refine thn (hb pins s1 σ H1 _ I1 q1) fun u s2 ⟨y, H2, I2, r2, q2⟩ => ?_
  exact hf v u s2 x y H2 I2 r1 r2 q2
theorem pe_op {op : Operator} {r : R2} (ho : OpR X (binaryOp op) r) (ha : PE X a ta) (hb : PE X b tb) : PE X (.BinOp a op b pos) (tOp r ta tb) := by
  intro pins s σ H Q I h
  exact wpAny_BinOp (binT ha hb I h fun v u s2 x y H2 I2 rx ry q => ho pins s2 σ H2 x y v u Q I2 rx ry q)
theorem pe_un {op : UnaryOp} {r : V → Hp → VK → Prop} (ho : UnR X (unaryOp op) r) (ha : PE X a ta) : PE X (.UnaryOp op a pos) (tUn r ta) := by
  intro pins s σ H Q I h
  exact UnaryOp_ (thn (ha pins s σ H _ I h) fun v s1 ⟨x, H1, I1, r1, q1⟩ => ho pins s1 σ H1 x v Q I1 r1 q1)
theorem opI {f : Value → Value → Sem Value} {C : Int → Int → Prop} {g : Int → Int → Int}
    (rule : ∀ (i j : Int) (t u : Tok) (s : Shared) (Q : Value → Shared → Prop) (E : Value → Shared → Prop), C i j → Q (.int (g i j) s.toks) { s with toks := s.toks + 1 } → wpAny (model X.prog X.w) X.A (f (.int i t) (.int j u)) Q E s) :
    OpR X f (rI C fun i j => .int (g i j)) := by
  intro pins s σ H x y v u Q I rx ry h
  obtain ⟨i, j, rfl, rfl, hc, q⟩ := h
  obtain ⟨t, rfl⟩ := rx
  obtain ⟨t', rfl⟩ := ry
  exact rule i j t t' s _ _ hc ⟨.int (g i j), H, I.tok _, ⟨_, rfl⟩, q⟩
theorem opI0 {f : Value → Value → Sem Value} {g : Int → Int → Int}
    (rule : ∀ (i j : Int) (t u : Tok) (s : Shared) (Q : Value → Shared → Prop) (E : Value → Shared → Prop), Q (.int (g i j) s.toks) { s with toks := s.toks + 1 } → wpAny (model X.prog X.w) X.A (f (.int i t) (.int j u)) Q E s) :
    OpR X f (rI0 fun i j => .int (g i j)) := by
  intro pins s σ H x y v u Q I rx ry h
  obtain ⟨i, j, rfl, rfl, q⟩ := h
  obtain ⟨t, rfl⟩ := rx
  obtain ⟨t', rfl⟩ := ry
  exact rule i j t t' s _ _ ⟨.int (g i j), H, I.tok _, ⟨_, rfl⟩, q⟩
theorem opB0 {f : Value → Value → Sem Value} {g : Int → Int → Bool}
    (rule : ∀ (i j : Int) (t u : Tok) (s : Shared) (Q : Value → Shared → Prop) (E : Value → Shared → Prop), Q (.bool (g i j)) s → wpAny (model X.prog X.w) X.A (f (.int i t) (.int j u)) Q E s) :
    OpR X f (rI0 fun i j => .bl (g i j)) := by
  intro pins s σ H x y v u Q I rx ry h
  obtain ⟨i, j, rfl, rfl, q⟩ := h
  obtain ⟨t, rfl⟩ := rx
  obtain ⟨t', rfl⟩ := ry
  exact rule i j t t' s _ _ ⟨.bl (g i j), H, I, rfl, q⟩
def CPow (i j : Int) : Prop := 0 ≤ j ∧ j ≤ 1000000 ∧ i.natAbs < 2 ^ 64
def CMul (i j : Int) : Prop := (-(2 ^ 64) < i ∧ i < 2 ^ 64) ∨ (-(2 ^ 64) < j ∧ j < 2 ^ 64)
theorem CMul.ok {i j : Int} (h : CMul i j) : IntMulOk i j := by
  rcases h with ⟨h1, h2⟩ | ⟨h1, h2⟩
  · exact .of_left (intBits_le_64 h1 h2)
  · exact .of_right (intBits_le_64 h1 h2)
theorem op_add : OpR X (binaryOp .Add) (rI0 fun i j => .int (i + j)) := opI0 fun _ _ _ _ _ _ _ q => add_int q
theorem op_sub : OpR X (binaryOp .Sub) (rI0 fun i j => .int (i - j)) := opI0 fun _ _ _ _ _ _ _ q => sub_int q
theorem op_mul : OpR X (binaryOp .Mult) (rI CMul fun i j => .int (i * j)) := opI fun _ _ _ _ _ _ _ hc q => mul_int q hc.ok
theorem op_mod : OpR X (binaryOp .Mod) (rI (fun _ j => 0 < j) fun i j => .int (i % j)) := opI fun i j _ _ _ _ _ hc q => by
  have h1 : (0 : Int) < j := hc
  exact mod_int' (by omega) (by rw [Int.fmod_eq_emod_of_nonneg i (by omega)]; exact q)
theorem op_pow : OpR X (binaryOp .Pow) (rI CPow fun i j => .int (i ^ j.toNat)) := opI fun _ _ _ _ _ _ _ hc q => pow_int_small hc.1 hc.2.1 hc.2.2 q
theorem unI {f : Value → Sem Value} {g : Int → Int}
    (rule : ∀ (i : Int) (t : Tok) (s : Shared) (Q : Value → Shared → Prop) (E : Value → Shared → Prop), Q (.int (g i) s.toks) { s with toks := s.toks + 1 } → wpAny (model X.prog X.w) X.A (f (.int i t)) Q E s) :
    UnR X f (rU fun i => .int (g i)) := by
  intro pins s σ H x v Q I rx h
  obtain ⟨i, rfl, q⟩ := h
  obtain ⟨t, rfl⟩ := rx
  exact rule i t s _ _ ⟨.int (g i), H, I.tok _, ⟨_, rfl⟩, q⟩
theorem un_neg : UnR X (unaryOp .USub) (rU fun i => .int (-i)) := unI fun _ _ _ _ _ q => neg_int q
end
def scal : V → V → Bool
  | .non, .non => true | .non, .int _ => true | .int _, .non => true | .non, .bl _ => true | .bl _, .non => true | .non, .str _ => true | .str _, .non => true
  | .int _, .int _ => true | .bl _, .bl _ => true | .str _, .str _ => true | .byt _, .byt _ => true
  | .int _, .str _ => true | .str _, .int _ => true | .bl _, .str _ => true | .str _, .bl _ => true
  | _, _ => false
def rEq : R2 := fun x y H Q => scal x y = true ∧ Q (.bl (decide (x = y))) H
def rNe : R2 := fun x y H Q => scal x y = true ∧ Q (.bl (!decide (x = y))) H
theorem dec_int {i j : Int} : decide (V.int i = V.int j) = (i == j) := by
  rw [Bool.eq_iff_iff]
  simp
theorem dec_bl {i j : Bool} : decide (V.bl i = V.bl j) = (i == j) := by
  rw [Bool.eq_iff_iff]
  simp
theorem dec_str {i j : Str} : decide (V.str i = V.str j) = (i == j) := by
  rw [Bool.eq_iff_iff]
  simp
theorem dec_byt {i j : Array UInt8} : decide (V.byt i = V.byt j) = (i.toList == j.toList) := by
  rw [Bool.eq_iff_iff]
  cases i
  cases j
  simp
section
variable {X : Cx} {a b c : Expr} {ta tb tc : TE} {pos : Pos}
theorem fin_bl {pins : List (Addr × Obj)} {σ : St} {H : Hp} {s : Shared} {Q : VK} {k k' : Bool} (I : Inv X pins σ H s) (q : Q (.bl k) H) (e : k = k') : EP X pins σ Q (.bool k') s := by
  subst e
  exact ⟨.bl k, H, I, rfl, q⟩
theorem op_eq : OpR X (compareOp .Eq) rEq := by
  intro pins s σ H x y v u Q I rx ry h
  obtain ⟨hs, q⟩ := h
  cases x with
  | non =>
    cases rx
    cases y with
    | non => cases ry; exact PySem.EqNone.eq_none_none (fin_bl I q (by simp))
    | bl j => cases ry; exact PySem.EqNone.eq_none_bool (fin_bl I q (by simp))
    | int j => obtain ⟨t', rfl⟩ := ry; exact PySem.EqNone.eq_none_int (fin_bl I q (by simp))
    | str j => obtain ⟨t', rfl⟩ := ry; exact PySem.EqNone.eq_none_str (fin_bl I q (by simp))
    | _ => exact absurd (show false = true from hs) Bool.false_ne_true
  | bl i =>
    cases rx
    cases y with
    | non => cases ry; exact PySem.EqNone.eq_bool_none (fin_bl I q (by simp))
    | bl j => cases ry; exact eq_bool (fin_bl I q dec_bl)
    | str j => obtain ⟨t', rfl⟩ := ry; exact PySem.EqMixed.eq_bool_str (fin_bl I q (by simp))
    | _ => exact absurd (show false = true from hs) Bool.false_ne_true
  | int i =>
    obtain ⟨t, rfl⟩ := rx
    cases y with
    | non => cases ry; exact PySem.EqNone.eq_int_none (fin_bl I q (by simp))
    | int j => obtain ⟨t', rfl⟩ := ry; exact eq_int (fin_bl I q dec_int)
    | str j => obtain ⟨t', rfl⟩ := ry; exact PySem.EqMixed.eq_int_str (fin_bl I q (by simp))
    | _ => exact absurd (show false = true from hs) Bool.false_ne_true
  | str i =>
    obtain ⟨t, rfl⟩ := rx
    cases y with
    | non => cases ry; exact PySem.EqNone.eq_str_none (fin_bl I q (by simp))
    | bl j => cases ry; exact PySem.EqMixed.eq_str_bool (fin_bl I q (by simp))
    | int j => obtain ⟨t', rfl⟩ := ry; exact PySem.EqMixed.eq_str_int (fin_bl I q (by simp))
    | str j => obtain ⟨t', rfl⟩ := ry; exact eq_str (fin_bl I q dec_str)
    | _ => exact absurd (show false = true from hs) Bool.false_ne_true
  | byt i =>
    obtain ⟨t, rfl⟩ := rx
    cases y with
    | byt j => obtain ⟨t', rfl⟩ := ry; exact PySem.W.eq_bytes (fin_bl I q dec_byt)
    | _ => exact absurd (show false = true from hs) Bool.false_ne_true
  | _ => cases y <;> exact absurd (show false = true from hs) Bool.false_ne_true
theorem op_ne : OpR X (compareOp .NotEq) rNe := by
  intro pins s σ H x y v u Q I rx ry h
  obtain ⟨hs, q⟩ := h
  cases x with
  | non =>
    cases rx
    cases y with
    | non => cases ry; exact PySem.EqNone.ne_none_none (fin_bl I q (by simp))
    | bl j => cases ry; exact PySem.EqNone.ne_none_bool (fin_bl I q (by simp))
    | int j => obtain ⟨t', rfl⟩ := ry; exact PySem.EqNone.ne_none_int (fin_bl I q (by simp))
    | str j => obtain ⟨t', rfl⟩ := ry; exact PySem.EqNone.ne_none_str (fin_bl I q (by simp))
    | _ => exact absurd (show false = true from hs) Bool.false_ne_true
  | bl i =>
    cases rx
    cases y with
    | non => cases ry; exact PySem.EqNone.ne_bool_none (fin_bl I q (by simp))
    | bl j => cases ry; exact ne_bool (fin_bl I q (congrArg not dec_bl))
    | str j => obtain ⟨t', rfl⟩ := ry; exact PySem.EqMixed.ne_bool_str (fin_bl I q (by simp))
    | _ => exact absurd (show false = true from hs) Bool.false_ne_true
  | int i =>
    obtain ⟨t, rfl⟩ := rx
    cases y with
    | non => cases ry; exact PySem.EqNone.ne_int_none (fin_bl I q (by simp))
    | int j => obtain ⟨t', rfl⟩ := ry; exact ne_int (fin_bl I q (congrArg not dec_int))
    | str j => obtain ⟨t', rfl⟩ := ry; exact PySem.EqMixed.ne_int_str (fin_bl I q (by simp))
    | _ => exact absurd (show false = true from hs) Bool.false_ne_true
  | str i =>
    obtain ⟨t, rfl⟩ := rx
    cases y with
    | non => cases ry; exact PySem.EqNone.ne_str_none (fin_bl I q (by simp))
    | bl j => cases ry; exact PySem.EqMixed.ne_str_bool (fin_bl I q (by simp))
    | int j => obtain ⟨t', rfl⟩ := ry; exact PySem.EqMixed.ne_str_int (fin_bl I q (by simp))
    | str j => obtain ⟨t', rfl⟩ := ry; exact ne_str (fin_bl I q (congrArg not dec_str))
    | _ => exact absurd (show false = true from hs) Bool.false_ne_true
  | byt i =>
    obtain ⟨t, rfl⟩ := rx
    cases y with
    | byt j => obtain ⟨t', rfl⟩ := ry; exact PySem.W.ne_bytes (fin_bl I q (congrArg not dec_byt))
    | _ => exact absurd (show false = true from hs) Bool.false_ne_true
  | _ => cases y <;> exact absurd (show false = true from hs) Bool.false_ne_true
theorem op_lt : OpR X (compareOp .Lt) (rI0 fun i j => .bl (decide (i < j))) := opB0 fun _ _ _ _ _ _ _ q => lt_int q
theorem op_le : OpR X (compareOp .LtE) (rI0 fun i j => .bl (decide (i ≤ j))) := opB0 fun _ _ _ _ _ _ _ q => le_int q
theorem op_gt : OpR X (compareOp .Gt) (rI0 fun i j => .bl (decide (j < i))) := opB0 fun _ _ _ _ _ _ _ q => gt_int q
theorem op_ge : OpR X (compareOp .GtE) (rI0 fun i j => .bl (decide (j ≤ i))) := opB0 fun _ _ _ _ _ _ _ q => ge_int q
theorem op_isN : OpR X (compareOp .Is) (fun x y H Q => y = .non ∧ Q (.bl (decide (x = .non))) H) := by
  intro pins s σ H x y v u Q I rx ry h
  obtain ⟨rfl, q⟩ := h
  cases ry
  refine is_none_gen (fin_bl I q ?_)
  cases x <;> first
    | (cases rx; rfl)
    | (obtain ⟨t, rfl⟩ := rx; rfl)
theorem nomark (b : Expr) {op : CmpOp} (h : op ≠ .In := by decide) (h2 : op ≠ .NotIn := by decide) : behindInMarks op b = false := by
  have e1 : (op == CmpOp.In) = false := by cases op <;> first | rfl | exact absurd rfl h
  have e2 : (op == CmpOp.NotIn) = false := by cases op <;> first | rfl | exact absurd rfl h2
  cases b <;> simp [behindInMarks, e1, e2]
theorem pe_cmpR {op : CmpOp} {r : R2} (ho : OpR X (compareOp op) r) (ha : PE X a ta) (hb : PE X b tb) (hm : behindInMarks op b = false) : PE X (.Compare a [op] [b] pos) (tOp r ta tb) := by
  intro pins s σ H Q I h
  exact wpAny_Compare1 (binT ha hb I h fun v u s2 x y H2 I2 rx ry q => ho pins s2 σ H2 x y v u Q I2 rx ry q) hm
def tTest (t : TE) : TT := fun σ H Q => t σ H fun x H' => ∃ k, x = .bl k ∧ Q k H'
theorem pt_cmpR {op : CmpOp} {r : R2} (ho : OpR X (compareOp op) r) (ha : PE X a ta) (hb : PE X b tb) (hm : behindInMarks op b = false) : PT X (.Compare a [op] [b] pos) (tTest (tOp r ta tb)) := by
  intro pins s σ H Q I h
  refine wpAny_isTrue_Compare1 (thn (ha pins s σ H _ I h) fun v s1 ⟨x, H1, I1, r1, q1⟩ => thn (hb pins s1 σ H1 _ I1 q1) fun u s2 ⟨y, H2, I2, r2, q2⟩ =>
    thn (ho pins s2 σ H2 x y v u _ I2 r1 r2 q2) fun c s3 ⟨z, H3, I3, r3, k, e, q3⟩ => ?_) hm
  subst e
  cases r3
  exact wpAny_truthy_bool ⟨H3, I3, q3⟩
def tChain (r r' : R2) (ta tb tc : TE) : TE := fun σ H Q => ta σ H fun x H1 => tb σ H1 fun y H2 => r x y H2 fun z H3 => ∃ k, z = .bl k ∧
  (if k = true then tc σ H3 fun w' H4 => r' y w' H4 Q else Q (.bl false) H3)
theorem pe_chain {op op' : CmpOp} {r r' : R2} (ho : OpR X (compareOp op) r) (ho' : OpR X (compareOp op') r') (ha : PE X a ta) (hb : PE X b tb) (hc : PE X c tc)
    (hm : lastMarks [op, op'] [b, c] = false := by with_unfolding_all rfl) : PE X (.Compare a [op, op'] [b, c] pos) (tChain r r' ta tb tc) := by
  intro pins s σ H Q I h
  refine Compare_chain (thn (ha pins s σ H _ I h) fun v s1 ⟨x, H1, I1, r1, q1⟩ => chain_link (thn (hb pins s1 σ H1 _ I1 q1) fun u s2 ⟨y, H2, I2, r2, q2⟩ =>
    thn (ho pins s2 σ H2 x y v u _ I2 r1 r2 q2) fun d s3 ⟨z, H3, I3, r3, k, e, q3⟩ => ?_)) hm
  subst e
  cases r3
  refine wpAny_truthy_bool ?_
  cases k with
  | false => exact ite_ff ⟨.bl false, H3, I3, rfl, q3⟩
  | true => exact ite_tt (chain_last (thn (hc pins s3 σ H3 _ I3 q3) fun w' s4 ⟨z', H4, I4, r4, q4⟩ => ho' pins s4 σ H4 y z' u w' Q I4 r2 r4 q4))
def TruV (K : PySem.W.Frag) (x : V) (H : Hp) (k : Bool) : Prop :=
  match x with
  | .non => k = false
  | .bl b => k = b
  | .int i => k = (i != 0)
  | .str y => y.length ≤ sizeLine ∧ k = ((y.length : Int) != 0)
  | .byt y => y.size ≤ sizeLine ∧ k = ((y.size : Int) != 0)
  | .ref p => (∃ xs, SqL K H p xs ∧ k = !xs.isEmpty) ∨ (∃ xs, SqT K H p xs ∧ k = !xs.isEmpty) ∨ ∃ kvs, H p = some (.dK kvs) ∧ k = !kvs.isEmpty
  | _ => False
theorem isEmpty_kv {κ : Type} {kvs : List (κ × V)} {vs : List (κ × Value)} (r : KV kvs vs) : (!vs.isEmpty) = !kvs.isEmpty := by
  cases r <;> rfl
theorem isEmpty_of {xs : List V} {its : List Value} (r : Vals xs its) : (!its.toArray.isEmpty) = !xs.isEmpty := by
  cases r <;> simp
theorem line63 : (sizeLine : Nat) < 2 ^ 63 := by rw [sizeLine_eq]; decide
theorem tru_ok : TruR X (fun x H Q => ∃ k, TruV X.K x H k ∧ Q k H) := by
  intro pins s σ H x v Q I rx h
  obtain ⟨k, e, q⟩ := h
  have hl := line63
  have hs : sizeLine = 16777216 := sizeLine_eq
  cases x with
  | non =>
    cases rx
    have e' : k = false := e
    subst e'
    exact truthy_none ⟨H, I, q⟩
  | bl b =>
    cases rx
    have e' : k = b := e
    subst e'
    exact wpAny_truthy_bool ⟨H, I, q⟩
  | int i =>
    obtain ⟨t, rfl⟩ := rx
    have e' : k = (i != 0) := e
    subst e'
    exact PySem.P.truthy_int ⟨H, I, q⟩
  | str y =>
    obtain ⟨t, rfl⟩ := rx
    obtain ⟨hy, e'⟩ : y.length ≤ sizeLine ∧ k = ((y.length : Int) != 0) := e
    subst e'
    exact PySem.P.truthy_str (by omega) ⟨H, I.tok _, q⟩
  | byt y =>
    obtain ⟨t, rfl⟩ := rx
    obtain ⟨hy, e'⟩ : y.size ≤ sizeLine ∧ k = ((y.size : Int) != 0) := e
    subst e'
    exact PySem.W.truthy_bytes (by omega) ⟨H, I.tok _, q⟩
  | ref p =>
    cases rx
    have e' : (∃ xs, SqL X.K H p xs ∧ k = !xs.isEmpty) ∨ (∃ xs, SqT X.K H p xs ∧ k = !xs.isEmpty) ∨ ∃ kvs, H p = some (.dK kvs) ∧ k = !kvs.isEmpty := e
    rcases e' with ⟨xs, hx, e'⟩ | ⟨xs, hx, e'⟩ | ⟨kvs, hx, e'⟩
    · subst e'
      obtain ⟨its, r, pl, hz⟩ := I.list hx
      have hlen := r.length
      exact wpAny_truthy_list pl.isList (by simp only [List.size_toArray]; omega) ⟨H, I.tok _, by rw [isEmpty_of r]; exact q⟩
    · subst e'
      obtain ⟨its, r, pl, hz⟩ := I.tuple hx
      have hlen := r.length
      exact truthy_tuple pl (by simp only [List.size_toArray]; omega) ⟨H, I.tok _, by rw [isEmpty_of r]; exact q⟩
    · subst e'
      obtain ⟨hz, hS, vs, r, m⟩ : kvs.length ≤ sizeLine ∧ (p == sysModules) = false ∧ ∃ vs, KV kvs vs ∧ s.heap.DictOf (mixKind X.prog X.w) p vs := I.hok p _ hx
      have hlen : kvs.length = vs.length := Paired.length r
      exact wpAny_truthy_dict hS m (by omega) ⟨H, I.tok _, by rw [isEmpty_kv r]; exact q⟩
  | _ => exact (show False from e).elim
theorem pt_truth (ha : PE X a ta) (he : ∀ whole, isTrue a X.env whole = (do let v ← whole; standAt a.pos; holding [v] (truthy v))) :
    PT X a (fun σ H Q => ta σ H fun x H' => ∃ k, TruV X.K x H' k ∧ Q k H') := by
  intro pins s σ H Q I h
  exact isTrue_plain (thn (ha pins s σ H _ I h) fun v s1 ⟨x, H1, I1, r1, q1⟩ => tru_ok pins s1 σ H1 x v Q I1 r1 q1) (he _)
theorem vals1 {x : V} {us : List Value} (r : Vals [x] us) : ∃ u, us = [u] ∧ RelV x u := by
  cases r with
  | cons r1 r2 => cases r2; exact ⟨_, rfl, r1⟩
theorem vals2 {x y : V} {us : List Value} (r : Vals [x, y] us) : ∃ u w', us = [u, w'] ∧ RelV x u ∧ RelV y w' := by
  cases r with
  | cons r1 r2 =>
    cases r2 with
    | cons r3 r4 => cases r4; exact ⟨_, _, rfl, r1, r3⟩
theorem call_max2 (hc : X.calm = true) : CallR X (.builtin "max") (fun xs H Q => ∃ i j, xs = [.int i, .int j] ∧ Q (.int (if j > i then j else i)) H) := by
  intro pins s σ H xs us Q I r h
  obtain ⟨i, j, rfl, q⟩ := h
  obtain ⟨u, w', rfl, ⟨t, rfl⟩, ⟨t', rfl⟩⟩ := vals2 r
  refine max_two_ints (I.ok.hd hc) fun h' tk k => ⟨_, H, I.kept k, ?_, q⟩
  by_cases hj : j > i
  · rw [if_pos hj, if_pos hj]; exact ⟨_, rfl⟩
  · rw [if_neg hj, if_neg hj]; exact ⟨_, rfl⟩
theorem call_min2 (hc : X.calm = true) : CallR X (.builtin "min") (fun xs H Q => ∃ i j, xs = [.int i, .int j] ∧ Q (.int (if j < i then j else i)) H) := by
  intro pins s σ H xs us Q I r h
  obtain ⟨i, j, rfl, q⟩ := h
  obtain ⟨u, w', rfl, ⟨t, rfl⟩, ⟨t', rfl⟩⟩ := vals2 r
  refine min_two_ints (I.ok.hd hc) fun h' tk k => ⟨_, H, I.kept k, ?_, q⟩
  by_cases hj : j < i
  · rw [if_pos hj, if_pos hj]; exact ⟨_, rfl⟩
  · rw [if_neg hj, if_neg hj]; exact ⟨_, rfl⟩
end
end L2
namespace L2
open PySem PySem.Spec PyProof.Rows
structure ObjM (h : Heap) (x dx C : Addr) (mA : Str → Option Value) : Prop where
  obj : h.get? x = some (PySem.W.instObj C dx)
  ns : h.Ns1 dx mA
  ne : dx ≠ x
theorem lookIn_ns {h : Heap} {dx : Addr} {mA : Str → Option Value} (n : h.Ns1 dx mA) : ∃ od, h.get? dx = some od ∧ ∀ name, PySem.W.lookIn name od = some (mA name) := by
  obtain ⟨o, es, ep, ho, hd, hk, _, hm⟩ := n
  refine ⟨o, ho, fun name => ?_⟩
  have e := hm name
  unfold nsFind findBy at e
  rw [← Array.find?_toList] at e
  unfold PySem.W.lookIn
  rw [hd]
  dsimp only
  split
  · rename_i y q
    rw [q] at e
    exact congrArg some e
  · rename_i q
    rw [q] at e
    have a : es.toList.any (·.refKey) = false := by
      rw [List.any_eq_false]
      intro y hy
      obtain ⟨z, t, hkey⟩ := hk y (Array.mem_toList_iff.mp hy)
      simp [DictEntry.refKey, hkey]
    have a' : ¬ es.toList.any (·.refKey) = true := by rw [a]; exact Bool.false_ne_true
    rw [if_neg a']
    exact congrArg some e
theorem ObjM.look {h : Heap} {x dx C : Addr} {mA : Str → Option Value} (I : ObjM h x dx C mA) : ∃ od, PySem.W.InstAt h x (PySem.W.instObj C dx) C (some od) ∧ ∀ name, PySem.W.lookIn name od = some (mA name) :=
  let ⟨od, ho, hl⟩ := lookIn_ns I.ns
  ⟨od, ⟨I.obj, rfl, rfl, ho⟩, hl⟩
section
variable {prog : Program} {w : World} {A : Around} {E : Value → Shared → Prop} {s : Shared} {K : PySem.W.Frag} {x dx C f : Addr} {mA : Str → Option Value} {name : Str} {v : Value}
theorem get_map {expr : Bool} {Q : Value → Shared → Prop} (X : K.In s.heap) (I : ObjM s.heap x dx C mA) (hg : PySem.W.plainGet K C name = true) (hh : PySem.W.hasDictIn K C = true)
    (ha : PySem.W.findIn K (.ref C) name = some none) (hv : mA name = some v) (hv' : PySem.W.handedIn v = true) (h : Q v { s with toks := s.toks + 1 }) :
    wpAny (model prog w) A (getAttr (.ref x) name expr) Q E s := by
  obtain ⟨od, J, hl⟩ := I.look
  exact PySem.W.get_value X J (PySem.W.plainGet_of hg).1 (PySem.W.findObj_own hh ha rfl (by rw [hl, hv])) hv' h
theorem get_meth {pl : Sem Bool} {Q : Value × List Value → Shared → Prop} (X : K.In s.heap) (I : ObjM s.heap x dx C mA) (hg : PySem.W.plainGet K C name = true)
    (hf : PySem.W.findIn K (.ref C) name = some (some (.ref f))) (ht : PySem.W.isFn K (.ref f) = true) (hv : mA name = none) (h : Q (.ref f, [.ref x]) s) :
    wpAny (model prog w) A (getMethod (.ref x) name pl) Q E s := by
  obtain ⟨od, J, hl⟩ := I.look
  exact PySem.W.method_fn X J (PySem.W.plainGet_of hg).1 (PySem.W.plainGet_of hg).2 hf (beq_iff_eq.mp ht) (by show (PySem.W.lookIn name od).map (·.isSome) = some false; rw [hl, hv]; rfl) h
theorem set_map {ns : List Str} {Q : Unit → Shared → Prop} (X : K.In s.heap) (I : ObjM s.heap x dx C mA)
    (hs : PySem.W.findIn K (.ref C) "__setattr__" = some (some (.builtin "object.__setattr__"))) (hp : PySem.W.plainOver K C = true) (ht : PySem.W.takerIn K C name = some none) (hh : PySem.W.hasDictIn K C = true)
    (hw : PySem.Within mA ns) (hsz : ns.length ≤ sizeLine)
    (h : ∀ h', ObjM h' x dx C (fun y => if y = name then some v else mA y) → Heap.SameBut dx s.heap h' → Q () { s with heap := h', toks := s.toks + 2 }) :
    wpAny (model prog w) A (setAttr (.ref x) name v) Q E s := by
  obtain ⟨od, J, hl⟩ := I.look
  refine PySem.W.set_plain X J hs (PySem.W.osa_open (s := { s with toks := s.toks + 1 }) (r := none) X J hp ht fun b => ?_)
  obtain ⟨cd, hc, hd'⟩ := PySem.W.any_some hh
  have hx : s.heap.get? x = some ⟨.ref C, some dx, .plain, #[]⟩ := I.obj
  refine wpAny_bind (wpAny_pure (wpAny_bind (wpAny_bind (wpAny_loadPart hx (wpAny_bind (PySem.W.Looks.here (s := { s with toks := s.toks + 1 }) (PySem.W.looks_clsIn X hc) ?_))))))
  rw [hd']
  refine wpAny_pure (a := some dx) (wpAny_bind (wpAny_pure (wpAny_bind ?_)))
  refine wpAny_nsSet1 (s := { s with toks := s.toks + 1 }) I.ns fun h' hn2 hs2 => ?_
  obtain ⟨oD, esD, epD, hoD, hdD, hcD⟩ := hn2.count (PySem.Within.cons name v hw)
  refine wpAny_bind (wpAny_lookBehind hoD (by rw [hdD]; exact pastItsLine_dict (Nat.le_trans hcD (by rw [List.length_cons]; omega))) ?_)
  exact wpAny_pure (h _ ⟨(hs2.2 _ (Ne.symm I.ne)).trans I.obj, hn2, I.ne⟩ hs2)
theorem make_map {R : Result → Shared → Prop} {vs : List Value} {kw : List (Str × Value)} (X : K.In s.heap) (hm : PySem.W.makesIn K C = true)
    (hi : PySem.W.findIn K (.ref C) "__init__" = some (some (.ref f))) (hf : PySem.W.typeIn K (.ref f) = some (.type "function"))
    (h : codeAny (model prog w) (A.under (.builtin "type.__call__" ⟨.ref C :: vs, kw⟩)) (.call (.ref f) ⟨.ref (s.heap.objs.size + 1) :: vs, kw⟩) (PySem.W.InitBack (s.heap.objs.size + 1) R)
      { s with heap := (s.heap.push PySem.W.emptyDict).push (PySem.W.instObj C s.heap.objs.size) }) :
    codeAny (model prog w) A (.call (.ref C) ⟨vs, kw⟩) R s := by
  obtain ⟨hh, g, d, t, os⟩ := s
  exact PySem.W.make_core (PySem.W.makes_of X hm) (PySem.W.looks_findIn X hi) (fun self => PySem.W.bind_fn X self hf) (.inl rfl) h
end
def putF (f : Str) (v : V) : List (Str × V) → List (Str × V)
  | [] => [(f, v)]
  | (g, x) :: r => if g = f then (g, v) :: r else (g, x) :: putF f v r
theorem lookup_putF (f g : Str) (v : V) : ∀ fs : List (Str × V), (putF f v fs).lookup g = if g = f then some v else fs.lookup g
  | [] => by
    show List.lookup g [(f, v)] = _
    by_cases h : g = f
    · have hb : (g == f) = true := beq_iff_eq.mpr h
      simp only [List.lookup, hb, if_pos h]
    · have hb : (g == f) = false := beq_eq_false_iff_ne.mpr h
      simp only [List.lookup, hb, if_neg h]
  | (k, x) :: r => by
    have ih := lookup_putF f g v r
    rw [show putF f v ((k, x) :: r) = (if k = f then (k, v) :: r else (k, x) :: putF f v r) from rfl]
    by_cases hk : k = f
    · rw [if_pos hk]
      by_cases h : g = k
      · have hb : (g == k) = true := beq_iff_eq.mpr h
        simp only [List.lookup, hb, if_pos (h.trans hk)]
      · have hb : (g == k) = false := beq_eq_false_iff_ne.mpr h
        simp only [List.lookup, hb, if_neg (fun e : g = f => h (e.trans hk.symm))]
    · rw [if_neg hk]
      by_cases h : g = k
      · have hb : (g == k) = true := beq_iff_eq.mpr h
        simp only [List.lookup, hb, if_neg (fun e : g = f => hk (h.symm.trans e))]
      · have hb : (g == k) = false := beq_eq_false_iff_ne.mpr h
        simp only [List.lookup, hb]
        exact ih
theorem keys_putF (f : Str) (v : V) : ∀ fs : List (Str × V), f ∈ (putF f v fs).map (·.1) ∧ ∀ g, g ∈ fs.map (·.1) → g ∈ (putF f v fs).map (·.1)
  | [] => ⟨by simp [putF], fun g h => by simp at h⟩
  | (k, x) :: r => by
    obtain ⟨i1, i2⟩ := keys_putF f v r
    rw [show putF f v ((k, x) :: r) = (if k = f then (k, v) :: r else (k, x) :: putF f v r) from rfl]
    by_cases hk : k = f
    · rw [if_pos hk]
      subst hk
      exact ⟨by simp, fun g h => by simpa using h⟩
    · rw [if_neg hk]
      refine ⟨?_, fun g h => ?_⟩
      · rw [List.map_cons]
        exact List.mem_cons_of_mem _ i1
      · rw [List.map_cons] at h ⊢
        rcases List.mem_cons.mp h with e | e
        · exact List.mem_cons.mpr (.inl e)
        · exact List.mem_cons_of_mem _ (i2 g e)
theorem length_putF (f : Str) (v : V) : ∀ fs : List (Str × V), (putF f v fs).length ≤ fs.length + 1
  | [] => by simp [putF]
  | (k, x) :: r => by
    have ih := length_putF f v r
    rw [show putF f v ((k, x) :: r) = (if k = f then (k, v) :: r else (k, x) :: putF f v r) from rfl]
    by_cases hk : k = f
    · rw [if_pos hk, List.length_cons, List.length_cons]; omega
    · rw [if_neg hk, List.length_cons, List.length_cons]; omega
theorem RelO.some_of {v : V} {o : Option Value} (r : RelO (some v) o) : ∃ u, o = some u ∧ RelV v u := by
  cases o with
  | none => exact (show False from r).elim
  | some u => exact ⟨u, rfl, r⟩
theorem RelO.none_of {o : Option Value} (r : RelO none o) : o = none := by
  cases o with
  | none => rfl
  | some u => exact (show False from r).elim
theorem handed_of {v : V} {u : Value} (r : RelV v u) : PySem.W.handedIn u = true := by
  cases v with
  | non => cases (show u = Value.none from r); rfl
  | bl b => cases (show u = Value.bool b from r); rfl
  | int i => obtain ⟨t, e⟩ := (show ∃ t, u = Value.int i t from r); cases e; rfl
  | str x => obtain ⟨t, e⟩ := (show ∃ t, u = Value.str x t from r); cases e; rfl
  | byt b => obtain ⟨t, e⟩ := (show ∃ t, u = Value.bytes b t from r); cases e; rfl
  | flt b => obtain ⟨t, e⟩ := (show ∃ t, u = Value.float b t from r); cases e; rfl
  | ref a => cases (show u = Value.ref a from r); rfl
  | ty n => cases (show u = Value.type n from r); rfl
section
variable {P : Program} {w : World} {H H' : Hp} {h h' : Heap} {a C dx : Addr} {fs fs' : List (Str × V)}
theorem ins_get (hok : HOk P w H h) (e : H a = some (.ins C dx fs)) : ∃ mA, ObjM h a dx C mA ∧ (∀ f, RelO (fs.lookup f) (mA f)) ∧ PySem.Within mA (fs.map (·.1)) ∧ fs.length ≤ 1000 ∧ H dx = some (.own a) := by
  obtain ⟨d, z, ne, ob, mA, n, r, q⟩ := (show ObjOk P w H h a (.ins C dx fs) from hok a _ e)
  exact ⟨mA, ⟨ob, n, ne⟩, r, q, z, d⟩
end
structure Cls (K : PySem.W.Frag) (C : Addr) : Prop where
  pg : PySem.W.plainGet K C Str.empty = true
  hd : PySem.W.hasDictIn K C = true
  po : PySem.W.plainOver K C = true
  sa : PySem.W.findIn K (.ref C) "__setattr__" = some (some (.builtin "object.__setattr__"))
theorem Cls.get {K : PySem.W.Frag} {C : Addr} (c : Cls K C) (f : Str) : PySem.W.plainGet K C f = true := c.pg
def NoAttr (K : PySem.W.Frag) (C : Addr) (f : Str) : Prop := PySem.W.findIn K (.ref C) f = some none
theorem NoAttr.taker {K : PySem.W.Frag} {C : Addr} {f : Str} (n : NoAttr K C f) : PySem.W.takerIn K C f = some none := by
  unfold PySem.W.takerIn
  rw [show PySem.W.findIn K (.ref C) f = some none from n]
  rfl
structure Meth (K : PySem.W.Frag) (C : Addr) (m : Str) (f : Addr) : Prop where
  at_ : PySem.W.findIn K (.ref C) m = some (some (.ref f))
  fn : PySem.W.isFn K (.ref f) = true
  kp : PySem.W.keepIn K (.ref f) = true
section
variable {X : Cx} {pins : List (Addr × Obj)} {σ : St} {H : Hp} {s : Shared} {a C dx : Addr} {fs : List (Str × V)} {f : Str} {v : V} {A : Around} {E : Value → Shared → Prop}
theorem getattr_ok {b : Bool} {Q : Value → Shared → Prop} (I : Inv X pins σ H s) (e : H a = some (.ins C dx fs)) (c : Cls X.K C) (n : NoAttr X.K C f) (l : fs.lookup f = some v)
    (h : ∀ u s', Inv X pins σ H s' → RelV v u → Q u s') : wpAny (model X.prog X.w) A (getAttr (.ref a) f b) Q E s := by
  obtain ⟨mA, O, r, _, _, _⟩ := ins_get I.hok e
  obtain ⟨u, hu, ru⟩ := RelO.some_of (v := v) (o := mA f) (by rw [← l]; exact r f)
  exact get_map I.kIn O (c.get f) c.hd n hu (handed_of ru) (h u _ (I.tok _) ru)
theorem getmeth_ok {m : Str} {g : Addr} {pl : Sem Bool} {Q : Value × List Value → Shared → Prop} (I : Inv X pins σ H s) (e : H a = some (.ins C dx fs)) (c : Cls X.K C) (k : Meth X.K C m g) (l : fs.lookup m = none)
    (h : Q (.ref g, [.ref a]) s) : wpAny (model X.prog X.w) A (getMethod (.ref a) m pl) Q E s := by
  obtain ⟨mA, O, r, _, _, _⟩ := ins_get I.hok e
  have hn : mA m = none := RelO.none_of (by rw [← l]; exact r m)
  exact get_meth I.kIn O (c.get m) k.at_ k.fn hn h
theorem setattr_ok {y : V} {u : Value} {Q : Unit → Shared → Prop} (I : Inv X pins σ H s) (e : H a = some (.ins C dx fs)) (c : Cls X.K C) (n : NoAttr X.K C f) (hl : fs.length < 1000) (ry : RelV y u)
    (h : ∀ s', Inv X pins σ (upd H a (.ins C dx (putF f y fs))) s' → Q () s') : wpAny (model X.prog X.w) A (setAttr (.ref a) f u) Q E s := by
  obtain ⟨mA, O, r, wi, _, ho⟩ := ins_get I.hok e
  have hz : (fs.map (·.1)).length ≤ sizeLine := by rw [List.length_map, sizeLine_eq]; omega
  refine set_map I.kIn O c.sa c.po n.taker c.hd wi hz fun h' O' sb => h _ ?_
  have hd : ∃ o, h'.get? dx = some o := let ⟨o, _, _, e', _⟩ := O'.ns; ⟨o, e'⟩
  refine I.write (x := a) (e := dx) (by rw [e]; exact True.intro) (.inr ho) (fun b q hb z => (sb.2 b hb).trans z) hd ?_
  refine ⟨by rw [upd_ne O.ne]; exact ho, ?_, O.ne, O'.obj, _, O'.ns, fun g => ?_, fun g hg => ?_⟩
  · have := length_putF f y fs; omega
  · show RelO ((putF f y fs).lookup g) (if g = f then some u else mA g)
    rw [lookup_putF]
    by_cases q : g = f
    · rw [if_pos q, if_pos q]; exact ry
    · rw [if_neg q, if_neg q]; exact r g
  · by_cases q : g = f
    · rw [q]; exact (keys_putF f y fs).1
    · refine (keys_putF f y fs).2 g (wi g fun z => hg ?_)
      show (if g = f then some u else mA g) = none
      rw [if_neg q]; exact z
theorem Inv.made (I : Inv X pins σ H s) : Inv X pins σ (upd (upd H s.heap.objs.size (.own (s.heap.objs.size + 1))) (s.heap.objs.size + 1) (.ins C s.heap.objs.size []))
    { s with heap := (s.heap.push PySem.W.emptyDict).push (PySem.W.instObj C s.heap.objs.size) } := by
  have e1 : (s.heap.push PySem.W.emptyDict).get? s.heap.objs.size = some PySem.W.emptyDict := Heap.get?_push_size s.heap rfl
  have e2 : ((s.heap.push PySem.W.emptyDict).push (PySem.W.instObj C s.heap.objs.size)).get? (s.heap.objs.size + 1) = some (PySem.W.instObj C s.heap.objs.size) := by
    have := Heap.get?_push_size (s.heap.push PySem.W.emptyDict) (o := PySem.W.instObj C s.heap.objs.size) rfl
    rwa [Heap.size_push] at this
  have e3 : (s.heap.push PySem.W.emptyDict).Ns s.heap.objs.size (fun _ => none) := ⟨PySem.W.emptyDict, #[], _, e1, rfl, (fun e he => absurd he (by simp)), fun _ => rfl⟩
  have I1 := I.laid (a := s.heap.objs.size) (o := .own (s.heap.objs.size + 1)) (h' := s.heap.push PySem.W.emptyDict) (t' := s.toks) (fun b u q => Heap.get?_push_of_some _ q) (Nat.le_refl _) ⟨_, e1⟩
  refine I1.laid (a := s.heap.objs.size + 1) (o := .ins C s.heap.objs.size []) (t' := s.toks) (fun b u q => Heap.get?_push_of_some _ q) (Nat.le_of_eq (Heap.size_push _ _)) ?_
  have ne : s.heap.objs.size ≠ s.heap.objs.size + 1 := Nat.ne_of_lt (Nat.lt_succ_self _)
  refine ⟨by rw [upd_ne ne, upd_same], Nat.zero_le _, ne, e2, fun _ => none, (Heap.Ns1.of_empty e3).at fun o q => Heap.get?_push_of_some _ q, fun _ => True.intro, fun y hy => absurd rfl hy⟩
theorem attr_of {prog : Program} {w : World} {env : Env} {e : Expr} {f : Str} {pos : Pos} {s : Shared} {Q : Value → Shared → Prop} (hb : attributeBase e f env (eval e env) = eval e env)
    (h : wpAny (model prog w) A (eval e env) (fun o s₁ => wpAny (model prog w) A (getAttr o f true) Q E s₁) E s) : wpAny (model prog w) A (eval (.Attribute e f pos) env) Q E s :=
  Attribute_any_ h (by rw [arm_eval_Attribute, hb])
end
def tFld (K : PySem.W.Frag) (ta : TE) (f : Str) : TE := fun σ H Q => ta σ H fun x H1 => ∃ a C dx fs v, x = .ref a ∧ H1 a = some (.ins C dx fs) ∧ Cls K C ∧ NoAttr K C f ∧ fs.lookup f = some v ∧ Q v H1
def sFld (K : PySem.W.Frag) (ta tv : TE) (f : Str) : TS := fun D σ H => tv σ H fun y H1 => ta σ H1 fun x H2 => ∃ a C dx fs, x = .ref a ∧ H2 a = some (.ins C dx fs) ∧ Cls K C ∧ NoAttr K C f ∧ fs.length < 1000 ∧
  D.nx σ (upd H2 a (.ins C dx (putF f y fs)))
def InOp (X : Cx) (op : Operator) (rd : V → V → Hp → VK → Prop) : Prop :=
  ∀ (pins : List (Addr × Obj)) (s : Shared) (σ : St) (H : Hp) (x y : V) (u v : Value) (Q : VK), Inv X pins σ H s → RelV x u → RelV y v → rd x y H Q → wpAny (model X.prog X.w) X.A (inplaceOp op u v) (EP X pins σ Q) X.xe s
def sFldAug (K : PySem.W.Frag) (ta tv : TE) (rd : V → V → Hp → VK → Prop) (f : Str) : TS := fun D σ H => ta σ H fun x H1 => ∃ a C dx fs v, x = .ref a ∧ H1 a = some (.ins C dx fs) ∧ Cls K C ∧ NoAttr K C f ∧ fs.lookup f = some v ∧
  tv σ H1 fun y H2 => rd v y H2 fun z H3 => ∃ dx' fs', H3 a = some (.ins C dx' fs') ∧ fs'.length < 1000 ∧ D.nx σ (upd H3 a (.ins C dx' (putF f z fs')))
section
variable {X : Cx} {o e value : Expr} {f : Str} {pos pos' tpos : Pos} {ta tv : TE}
theorem pe_fld (he : PE X e ta) (hb : attributeBase e f X.env (eval e X.env) = eval e X.env) : PE X (.Attribute e f pos) (tFld X.K ta f) := by
  intro pins s σ H Q I h
  refine attr_of hb (thn (he pins s σ H _ I h) fun u s1 ⟨x, H1, I1, rx, a, C, dx, fs, v, ex, ea, c, n, l, q⟩ => ?_)
  subst ex
  obtain rfl : u = Value.ref a := rx
  exact getattr_ok I1 ea c n l fun u' s2 I2 ru => ⟨v, H1, I2, ru, q⟩
theorem ps_fld (ha : PE X o ta) (hv : PE X value tv) (hs : swapsWith value (some (.Attribute o f pos')) pos.line X.env = pure false) : PS X (.Assign [.Attribute o f pos'] value pos) (sFld X.K ta tv f) := by
  intro pins s σ H D I h
  refine plainObj_wpAny_Assign_Attribute (thn (hv pins s σ H _ I h) fun u s1 ⟨y, H1, I1, ry, q⟩ => thn (ha pins s1 σ H1 _ I1 q) fun ov s2 ⟨x, H2, I2, rx, a, C, dx, fs, ex, ea, c, n, l, q2⟩ => ?_) hs
  subst ex
  obtain rfl : ov = Value.ref a := rx
  exact setattr_ok I2 ea c n l ry fun s3 I3 => ⟨σ, _, I3, q2⟩
theorem ps_fldaug {op : Operator} {rd : V → V → Hp → VK → Prop} (ha : PE X o ta) (hv : PE X value tv) (hop : InOp X op rd) : PS X (.AugAssign (.Attribute o f tpos) op value pos) (sFldAug X.K ta tv rd f) := by
  intro pins s σ H D I h
  refine wpAny_AugAssign_AttributeAny (thn (ha pins s σ H _ I h) fun ov s1 ⟨x, H1, I1, rx, a, C, dx, fs, v, ex, ea, c, n, l, q⟩ => ?_)
  subst ex
  obtain rfl : ov = Value.ref a := rx
  refine getattr_ok I1 ea c n l fun u s2 I2 ru => thn (hv pins s2 σ H1 _ I2 q) fun w3 s3 ⟨y, H2, I3, ry, q3⟩ => thn (hop pins s3 σ H2 v y u w3 _ I3 ru ry q3) fun w4 s4 ⟨z, H3, I4, rz, dx', fs', ea', l', q4⟩ => ?_
  exact setattr_ok I4 ea' c n l' rz fun s5 I5 => ⟨σ, _, I5, q4⟩
def rAdd : V → V → Hp → VK → Prop := fun x y H Q => ∃ i j, x = .int i ∧ y = .int j ∧ Q (.int (i + j)) H
theorem in_add : InOp X .Add rAdd := by
  rintro pins s σ H x y u v Q I rx ry ⟨i, j, rfl, rfl, q⟩
  obtain ⟨t, rfl⟩ := (show ∃ t, u = Value.int i t from rx)
  obtain ⟨t', rfl⟩ := (show ∃ t', v = Value.int j t' from ry)
  exact PyProof.Rows.iadd_int ⟨.int (i + j), H, I.tok _, ⟨_, rfl⟩, q⟩
end
section
variable {X : Cx} {pins : List (Addr × Obj)} {σ : St} {H : Hp} {s : Shared} {A : Around} {E : Value → Shared → Prop} {Q : Value → Shared → Prop} {c : Value} {b : Bool}
end
end L2
namespace L2
open PySem PySem.Spec PyProof.Rows
structure Room (k : Nat) (A : Around) : Prop where
  hd : A.handled = none
  dp : A.depth + 3 * k + 5 < recursionLimit
  un : A.units + 16 * k + 200 < cLine
  gd : A.guards = some []
theorem Room.mono {j k : Nat} {A : Around} (r : Room k A) (h : j ≤ k) : Room j A := ⟨r.hd, by have := r.dp; omega, by have := r.un; omega, r.gd⟩
theorem Room.deeper {k : Nat} {A : Around} (r : Room (k + 1) A) (env : Env) : Room k (A.deeper env) :=
  ⟨r.hd, by have := r.dp; show A.depth + 1 + 3 * k + 5 < _; omega, by have := r.un; show A.units + 3 + 16 * k + 200 < _; omega, r.gd⟩
theorem Room.in1 {k : Nat} {A : Around} (r : Room (k + 1) A) : Room k A.in1 :=
  ⟨r.hd, by have := r.dp; show A.depth + 3 * k + 5 < _; omega, by have := r.un; show A.units + 1 + 16 * k + 200 < _; omega, r.gd⟩
theorem make_depth {A : Around} {C : Addr} {us : List Value} {kw : List (Str × Value)} : (A.under (.builtin "type.__call__" ⟨.ref C :: us, kw⟩)).depth = A.depth + 1 := by
  first | rfl | simp [Around.under, Code.weight, Code.isCreation, Code.isGuard, Code.isCaller, Code.frames, Code.isFrame, guardIds]
theorem make_units {A : Around} {C : Addr} {us : List Value} {kw : List (Str × Value)} : (A.under (.builtin "type.__call__" ⟨.ref C :: us, kw⟩)).units = A.units + 1 := by
  first | rfl | simp [Around.under, Code.cUnits, Code.frames, Code.isFrame]
theorem make_guards {A : Around} {C : Addr} {us : List Value} {kw : List (Str × Value)} : (A.under (.builtin "type.__call__" ⟨.ref C :: us, kw⟩)).guards = A.guards := by
  first | rfl | simp [Around.under, Code.cUnits, Code.frames, Code.isFrame]
theorem Room.make {k : Nat} {A : Around} (r : Room (k + 1) A) (C : Addr) (us : List Value) (kw : List (Str × Value)) : Room k (A.under (.builtin "type.__call__" ⟨.ref C :: us, kw⟩)) :=
  ⟨r.hd, by have := r.dp; rw [make_depth]; omega, by have := r.un; rw [make_units]; omega, by rw [make_guards]; exact r.gd⟩
theorem Room.depth {k : Nat} {A : Around} (r : Room k A) : A.depth < recursionLimit := by have := r.dp; omega
theorem Room.units {k : Nat} {A : Around} (r : Room k A) : A.units + 64 < cLine := by have := r.un; omega
theorem Room.units0 {k : Nat} {A : Around} (r : Room k A) : A.units < cLine := by have := r.un; omega
def tNil : TA := fun _ H Q => Q [] H
def tCons (ta : TE) (tr : TA) : TA := fun σ H Q => ta σ H fun x H1 => tr σ H1 fun xs H2 => Q (x :: xs) H2
section
variable {X : Cx} {e : Expr} {es : List Expr} {te : TE} {t : TA} {pos : Pos}
theorem pa_nil : PA X [] tNil := fun _ _ _ _ H Q I h => Calls.spliced_nil ⟨[], H, I, .nil, h⟩
theorem pa_cons (ha : PE X e te) (hr : PA X es t) (hs : starEach (e :: es) X.env = (false, eval e X.env) :: starEach es X.env := by rfl) : PA X (e :: es) (tCons te t) := by
  intro pos pins s σ H Q I h
  rw [hs]
  show wpAny _ _ (spliced ((false, eval e X.env) :: backTo pos (starEach es X.env))) _ _ s
  refine Calls.spliced_cons (thn (ha pins s σ H _ I h) fun u s1 ⟨x, H1, I1, r1, q1⟩ => ?_)
  exact thn (hr pos pins s1 σ H1 _ I1 q1) fun us s2 ⟨xs, H2, I2, r2, q2⟩ => ⟨x :: xs, H2, I2, .cons r1 r2, q2⟩
def tTup (t : TA) : TE := fun σ H Q => t σ H fun xs H1 => xs.length ≤ sizeLine ∧ ∀ p, H1 p = none → Q (.ref p) (upd H1 p (.tup xs))
def tLst (t : TA) : TE := fun σ H Q => t σ H fun xs H1 => xs.length ≤ sizeLine ∧ ∀ p, H1 p = none → Q (.ref p) (upd H1 p (.lst xs))
theorem pe_tup {x1} (h : PA X es t) : PE X (.Tuple es x1 pos) (tTup t) := by
  intro pins s σ H Q I hq
  refine wpAny_Tuple_spliced (thn (h pos pins s σ H _ I hq) fun us s1 ⟨xs, H1, I1, r, z, q⟩ => ⟨by rw [← r.length]; exact z, ?_⟩)
  have hf : H1 s1.heap.objs.size = none := I1.hok.fresh (Nat.le_refl _)
  refine ⟨.ref s1.heap.objs.size, upd H1 s1.heap.objs.size (.tup xs), I1.laid (t' := s1.toks) (fun b u e => Heap.get?_push_of_some _ e) (Nat.le_refl _) ?_, rfl, q _ hf⟩
  exact ⟨z, us, r, ⟨_, Heap.get?_push_size _ rfl, rfl, _, rfl⟩, tup_nodict⟩
theorem pe_lst (h : PA X es t) : PE X (.List es pos) (tLst t) := by
  intro pins s σ H Q I hq
  refine wpAny_List_spliced (thn (h pos pins s σ H _ I hq) fun us s1 ⟨xs, H1, I1, r, z, q⟩ => ⟨by rw [← r.length]; exact z, ?_⟩)
  have hf : H1 s1.heap.objs.size = none := I1.hok.fresh (Nat.le_refl _)
  refine ⟨.ref s1.heap.objs.size, upd H1 s1.heap.objs.size (.lst xs), I1.laid (t' := s1.toks) (fun b u e => Heap.get?_push_of_some _ e) (Nat.le_refl _) ?_, rfl, q _ hf⟩
  exact ⟨z, us, 0, r, Heap.get?_push_size _ rfl⟩
end
abbrev Sp := List V → Hp → VK → XK → Prop
abbrev CXT := List Env → Hp → Shared → XK → Value → Shared → Prop
structure Env0 (P : Program) (w : World) (K : PySem.W.Frag) (mg : Str → Option Value) (base : Heap) (A : Around) (outer : List Env) (s : Shared) (H : Hp) : Prop where
  frames : A.frames = some outer
  mod : Mod K mg base
  bs : ∀ b o, base.get? b = some o → s.heap.get? b = some o ∧ H b = none
  bsz : base.objs.size ≤ s.heap.objs.size
  funs : s.heap.FunFrames base outer
  frf : ∀ b ∈ frs outer, H b = none
  hok : HOk P w H s.heap
  bare : AllBare s.gens
def CE (outer : List Env) (P : Program) (w : World) (H : Hp) (s : Shared) (Q : VK) (u : Value) (s' : Shared) : Prop :=
  ∃ v H', s'.os = s.os ∧ AllBare s'.gens ∧ Un (frs outer) [] H H' s.heap s'.heap ∧ HOk P w H' s'.heap ∧ RelV v u ∧ Q v H'
def CR (CX : CXT) (outer : List Env) (P : Program) (w : World) (H : Hp) (s : Shared) (Q : VK) (E : XK) (r : Result) (s' : Shared) : Prop :=
  match r with
  | .ok (.ret u) => CE outer P w H s Q u s'
  | .ok _ => False
  | .error e => CX outer H s E e s'
structure FnOk (P : Program) (w : World) (K : PySem.W.Frag) (mg : Str → Option Value) (base : Heap) (CX : CXT) (k : Nat) (f : Addr) (fd : FuncData) (ps : List Str) (sp : Sp) : Prop where
  len : ∀ vs H Q E, sp vs H Q E → vs.length = ps.length
  run : ∀ (A : Around) (outer : List Env) (s : Shared) (H : Hp) (args : Args) (us : List Value) (vs : List V) (Q : VK) (E : XK), Room k A → Env0 P w K mg base A outer s H → BindsTo s fd args (ps.zip us) → Vals vs us → sp vs H Q E →
    codeAny (model P w) A (.call (.ref f) args) (CR CX outer P w H s Q E) s
theorem Env0.make {P : Program} {w : World} {K : PySem.W.Frag} {mg : Str → Option Value} {base : Heap} {A : Around} {outer : List Env} {s : Shared} {H : Hp} (e : Env0 P w K mg base A outer s H) (C : Addr) (us : List Value) (kw : List (Str × Value)) :
    Env0 P w K mg base (A.under (.builtin "type.__call__" ⟨.ref C :: us, kw⟩)) outer s H := ⟨by first | exact e.frames | (simpa [Around.under, Code.envs, Code.isFrame, pushEnvs] using e.frames), e.mod, e.bs, e.bsz, e.funs, e.frf, e.hok, e.bare⟩
section
variable {X : Cx} {pins : List (Addr × Obj)} {σ : St} {H : Hp} {s s' : Shared}
theorem Inv.env0 (I : Inv X pins σ H s) : Env0 X.prog X.w X.K X.mg X.base X.A X.stack s H :=
  ⟨I.ok.frames, I.ok.mod, I.bs, Nat.le_trans I.ok.bsz I.sz, I.stack, I.stkFree, I.hok, I.bare⟩
theorem Inv.after {Q : VK} {u : Value} (I : Inv X pins σ H s) (h : CE X.stack X.prog X.w H s Q u s') : EP X pins σ Q u s' := by
  obtain ⟨v, H', os, bare, un, hok, r, q⟩ := h
  obtain ⟨hh, g, d, t, os'⟩ := s'
  obtain rfl : os' = s.os := os
  exact ⟨v, H', I.call (h' := hh) (g' := g) (d' := d) (t' := t) (ch := []) un hok bare (fun b z => absurd z (by simp)), r, q⟩
end
def tCall (sp : Sp) (dvs : List V) (E : XK) (t : TA) : TE := fun σ H Q => t σ H fun vs H1 => sp (vs ++ dvs) H1 Q E
def tMeth (C : Addr) (m : Str) (sp : Sp) (dvs : List V) (E : XK) (ta : TE) (t : TA) : TE := fun σ H Q => ta σ H fun x H1 => ∃ a dx fs, x = .ref a ∧ H1 a = some (.ins C dx fs) ∧ fs.lookup m = none ∧
  t σ H1 fun vs H2 => sp (x :: (vs ++ dvs)) H2 Q E
def tMake (C : Addr) (sp : Sp) (dvs : List V) (E : XK) (t : TA) : TE := fun σ H Q => t σ H fun vs H1 => ∀ x dx, H1 x = none → H1 dx = none → dx ≠ x →
  sp (.ref x :: (vs ++ dvs)) (upd (upd H1 dx (.own x)) x (.ins C dx [])) (fun v H2 => v = .non ∧ Q (.ref x) H2) E
def Binds (K : PySem.W.Frag) (fd : FuncData) (ps : List Str) (ds : List Value) : Prop :=
  ∀ (s : Shared) (us : List Value), K.In s.heap → (us ++ ds).length = ps.length → BindsTo s fd ⟨us, []⟩ (ps.zip (us ++ ds))
theorem Binds.all {K : PySem.W.Frag} {fd : FuncData} {ps : List Str} (h : ∀ us : List Value, us.length = ps.length → bindArgs fd ⟨us, []⟩ = pure (ps.zip us)) : Binds K fd ps [] := fun s us _ hl => by
  rw [List.append_nil] at hl ⊢
  exact .of_eq (h us hl)
def Passes (CX : CXT) (X : Cx) (E : XK) : Prop := ∀ (pins : List (Addr × Obj)) (σ : St) (H : Hp) (s : Shared) (e : Value) (s' : Shared), Inv X pins σ H s → CX X.stack H s E e s' → X.xe e s'
section
variable {X : Cx} {CX : CXT} {k : Nat} {f C : Addr} {fd : FuncData} {ps : List Str} {sp : Sp} {dvs : List V} {ds : List Value} {E : XK} {x m : Str} {p pos apos : Pos} {e o : Expr} {es : List Expr} {ta : TE} {t : TA}
theorem run_fn {pins : List (Addr × Obj)} {σ : St} {H : Hp} {s : Shared} {Q : VK} {us : List Value} {vs : List V} (F : FnOk X.prog X.w X.K X.mg X.base CX k f fd ps sp) (hr : Room k X.A) (hb : Binds X.K fd ps ds) (hd : Vals dvs ds) (hx : Passes CX X E)
    (I : Inv X pins σ H s) (r : Vals vs us) (h : sp (vs ++ dvs) H Q E) : wpAny (model X.prog X.w) X.A (call (.ref f) us) (EP X pins σ Q) X.xe s := by
  have r2 : Vals (vs ++ dvs) (us ++ ds) := r.append hd
  have hl : (us ++ ds).length = ps.length := by rw [← r2.length]; exact F.len _ _ _ _ h
  refine wpAny_call (codeAny_mono (F.run X.A X.stack s H ⟨us, []⟩ (us ++ ds) (vs ++ dvs) Q E hr I.env0 (hb s us I.kIn hl) r2 h) fun r s' hq => ?_)
  cases r with
  | error e => exact hx pins σ H s e s' I hq
  | ok fl =>
    cases fl with
    | ret u => exact I.after hq
    | next => exact False.elim hq
    | brk => exact False.elim hq
    | cont => exact False.elim hq
theorem pe_call (F : FnOk X.prog X.w X.K X.mg X.base CX k f fd ps sp) (hr : Room k X.A) (hg : Gl X x) (hm : X.mg x = some (.ref f)) (hk : PySem.W.keepIn X.K (.ref f) = true) (hb : Binds X.K fd ps ds) (hd : Vals dvs ds) (hx : Passes CX X E)
    (ha : PA X (e :: es) t) (hdb : (x == ("__debug__" : Str)) = false := by decide) (he : starEach (e :: es) X.env = (false, eval e X.env) :: starEach es X.env := by rfl) (hpl : (backTo pos (starEach es X.env)).any (·.1) = false := by rfl) :
    PE X (.Call (.Name x p) (e :: es) [] pos) (tCall sp dvs E t) := by
  intro pins s σ H Q I h
  refine wpAny_Call_Name_kw (ld_glob I hg hm ?_ hdb)
  refine PySem.W.callWith_K (h₀ := X.base) I.ok.mod.kin hk (thn (ha pos pins s σ H _ I h) fun us s1 ⟨vs, H1, I1, r, q⟩ => ⟨I1.kIn, ?_⟩) he hpl
  exact run_fn F hr hb hd hx I1 r q
theorem pe_meth {pl : Sem Bool} (he : PE X o ta) (c : Cls X.K C) (hm : Meth X.K C m f) (F : FnOk X.prog X.w X.K X.mg X.base CX k f fd ps sp) (hr : Room k X.A) (hb : Binds X.K fd ps ds) (hd : Vals dvs ds) (hx : Passes CX X E) (ha : PA X (e :: es) t)
    (hst : starEach (e :: es) X.env = (false, eval e X.env) :: starEach es X.env := by rfl) (hpl : (backTo pos (starEach es X.env)).any (·.1) = false := by rfl)
    (ht : eval (.Call (.Attribute o m apos) (e :: es) [] pos) X.env = (do
      let ov ← eval o X.env
      standAt apos.atName
      let (f, first) ← holding [ov] (getMethod ov m pl)
      callWith pos f first (backTo pos (starEach (e :: es) X.env)) (backToKw pos (keywordEach [] X.env))) := by rfl) :
    PE X (.Call (.Attribute o m apos) (e :: es) [] pos) (tMeth C m sp dvs E ta t) := by
  intro pins s σ H Q I h
  refine PySem.W.methodCall_KW (pl := pl) (thn (he pins s σ H _ I h) fun u s1 ⟨x, H1, I1, rx, a, dx, fs, ex, ea, l, q⟩ => ?_) ht
  subst ex
  obtain rfl : u = Value.ref a := rx
  refine getmeth_ok I1 ea c hm l ?_
  refine PySem.W.callWith_K (first := [.ref a]) (h₀ := X.base) I.ok.mod.kin hm.kp (thn (ha pos pins s1 σ H1 _ I1 q) fun us s2 ⟨vs, H2, I2, r, q2⟩ => ⟨I2.kIn, ?_⟩) hst hpl
  exact run_fn (us := .ref a :: us) (vs := .ref a :: vs) F hr hb hd hx I2 (.cons rfl r) q2
theorem pe_meth0 {pl : Sem Bool} (he : PE X o ta) (c : Cls X.K C) (hm : Meth X.K C m f) (F : FnOk X.prog X.w X.K X.mg X.base CX k f fd ps sp) (hr : Room k X.A) (hb : Binds X.K fd ps ds) (hd : Vals dvs ds) (hx : Passes CX X E)
    (ht : eval (.Call (.Attribute o m apos) [] [] pos) X.env = (do
      let ov ← eval o X.env
      standAt apos.atName
      let (f, first) ← holding [ov] (getMethod ov m pl)
      callWith pos f first (backTo pos (starEach [] X.env)) (backToKw pos (keywordEach [] X.env))) := by rfl) :
    PE X (.Call (.Attribute o m apos) [] [] pos) (tMeth C m sp dvs E ta tNil) := by
  intro pins s σ H Q I h
  refine PySem.W.methodCall_KW (pl := pl) (thn (he pins s σ H _ I h) fun u s1 ⟨x, H1, I1, rx, a, dx, fs, ex, ea, l, q⟩ => ?_) ht
  subst ex
  obtain rfl : u = Value.ref a := rx
  refine getmeth_ok I1 ea c hm l ?_
  exact PySem.W.callWith_K0 (first := [.ref a]) I1.kIn hm.kp (run_fn (us := [.ref a]) (vs := [.ref a]) F hr hb hd hx I1 (.cons rfl .nil) q)
structure Mk (K : PySem.W.Frag) (C f : Addr) : Prop where
  makes : PySem.W.makesIn K C = true
  init : PySem.W.findIn K (.ref C) "__init__" = some (some (.ref f))
  fn : PySem.W.isFn K (.ref f) = true
  kp : PySem.W.keepIn K (.ref C) = true
theorem run_make {pins : List (Addr × Obj)} {σ : St} {H : Hp} {s : Shared} {Q : VK} {us : List Value} {vs : List V} (M : Mk X.K C f) (F : FnOk X.prog X.w X.K X.mg X.base CX k f fd ps sp) (hr : Room (k + 1) X.A) (hb : Binds X.K fd ps ds) (hd : Vals dvs ds)
    (hx : Passes CX X E) (I : Inv X pins σ H s) (r : Vals vs us)
    (h : ∀ x dx, H x = none → H dx = none → dx ≠ x → sp (.ref x :: (vs ++ dvs)) (upd (upd H dx (.own x)) x (.ins C dx [])) (fun v H2 => v = .non ∧ Q (.ref x) H2) E) :
    wpAny (model X.prog X.w) X.A (call (.ref C) us) (EP X pins σ Q) X.xe s := by
  have hq := h (s.heap.objs.size + 1) s.heap.objs.size (I.hok.fresh (Nat.le_succ _)) (I.hok.fresh (Nat.le_refl _)) (Nat.ne_of_lt (Nat.lt_succ_self _))
  have I2 := Inv.made (C := C) I
  have r2 : Vals (V.ref (s.heap.objs.size + 1) :: (vs ++ dvs)) (Value.ref (s.heap.objs.size + 1) :: (us ++ ds)) := .cons rfl (r.append hd)
  have hl : (Value.ref (s.heap.objs.size + 1) :: us ++ ds).length = ps.length := by
    have e := r2.length
    rw [F.len _ _ _ _ hq] at e
    exact e.symm
  refine wpAny_call (make_map (f := f) I.kIn M.makes M.init (beq_iff_eq.mp M.fn) (codeAny_mono (F.run _ X.stack _ _ ⟨Value.ref (s.heap.objs.size + 1) :: us, []⟩ (Value.ref (s.heap.objs.size + 1) :: (us ++ ds)) _ _ E (hr.make C us [])
    (I2.env0.make C us []) (hb _ (Value.ref (s.heap.objs.size + 1) :: us) I2.kIn hl) r2 hq) fun r s' hq' => ?_))
  cases r with
  | error e => exact hx pins σ _ _ e s' I2 hq'
  | ok fl =>
    cases fl with
    | ret u =>
      obtain ⟨v, H', I3, rv, ev, q3⟩ := I2.after hq'
      subst ev
      exact ⟨rv, ⟨V.ref (s.heap.objs.size + 1), H', I3, rfl, q3⟩⟩
    | next => exact False.elim hq'
    | brk => exact False.elim hq'
    | cont => exact False.elim hq'
theorem pe_make0 (M : Mk X.K C f) (F : FnOk X.prog X.w X.K X.mg X.base CX k f fd ps sp) (hr : Room (k + 1) X.A) (hg : Gl X x) (hm : X.mg x = some (.ref C)) (hb : Binds X.K fd ps ds) (hd : Vals dvs ds) (hx : Passes CX X E)
    (hdb : (x == ("__debug__" : Str)) = false := by decide) : PE X (.Call (.Name x p) [] [] pos) (tMake C sp dvs E tNil) := by
  intro pins s σ H Q I h
  refine wpAny_Call_Name_kw (ld_glob I hg hm ?_ hdb)
  exact PySem.W.callWith_K0 I.kIn M.kp (run_make (us := []) M F hr hb hd hx I .nil h)
end
section
variable {X : Cx} {CX : CXT} {k : Nat} {f C : Addr} {fd : FuncData} {ps ks : List Str} {sp : Sp} {E : XK} {x m : Str} {p pos apos kpos : Pos} {e o : Expr} {es : List Expr} {kws : List Keyword} {te ta : TE} {t tk : TA} {nm : Option Str}
variable {g : List Value → List Value → List Value} {gV : List V → List V → List V}
end
structure FnScope (N P : List Str) (sc : Scope) : Prop where
  kind : sc.kind = .function
  co : sc.isCoroutine = false
  gen : sc.isGenerator = false
  nd : N.Nodup
  pre : N.take P.length = P
  par : ∀ x ∈ P, sc.names.lookup x = some .local ∨ sc.names.lookup x = some .cell
  nofree : ∀ y ∈ sc.names, y.2 ≠ .free
theorem bindL_out {kindOf : Str → Option NameKind} {x : Str} : ∀ {binds : List (Str × Value)} {m : Str → Option Value}, (∀ v, (x, v) ∉ binds) → bindL kindOf binds m x = m x
  | [], _, _ => rfl
  | (n, v) :: r, m, h => by
    unfold bindL
    rw [bindL_out fun w hw => h w (List.mem_cons_of_mem _ hw)]
    split
    · have : x ≠ n := by rintro rfl; exact h v List.mem_cons_self
      simp [this]
    · rfl
theorem bindC_out {kindOf : Str → Option NameKind} {x : Str} : ∀ {binds : List (Str × Value)} {m : Str → Option Value}, (∀ v, (x, v) ∉ binds) → bindC kindOf binds m x = m x
  | [], _, _ => rfl
  | (n, v) :: r, m, h => by
    unfold bindC
    rw [bindC_out fun w hw => h w (List.mem_cons_of_mem _ hw)]
    split
    · rfl
    · have : x ≠ n := by rintro rfl; exact h v List.mem_cons_self
      simp [this]
theorem bindL_get {kindOf : Str → Option NameKind} {x : Str} {v : Value} : ∀ {P : List Str} {vs : List Value} {i : Nat} {m : Str → Option Value}, P.Nodup → P[i]? = some x → vs[i]? = some v → kindOf x = some .local →
    bindL kindOf (P.zip vs) m x = some v
  | [], _, _, _, _, h, _, _ => by simp at h
  | _ :: _, [], _, _, _, _, h, _ => by simp at h
  | p :: P, w :: vs, 0, m, nd, h1, h2, hk => by
    simp at h1 h2; subst h1; subst h2
    show bindL kindOf ((p, w) :: P.zip vs) m p = _
    unfold bindL
    rw [bindL_out fun v hv => (List.nodup_cons.mp nd).1 (List.of_mem_zip hv).1, if_pos hk]
    simp
  | p :: P, w :: vs, i + 1, m, nd, h1, h2, hk => by
    show bindL kindOf ((p, w) :: P.zip vs) m x = _
    unfold bindL
    exact bindL_get (i := i) (List.nodup_cons.mp nd).2 (by simpa using h1) (by simpa using h2) hk
theorem bindC_get {kindOf : Str → Option NameKind} {x : Str} {v : Value} : ∀ {P : List Str} {vs : List Value} {i : Nat} {m : Str → Option Value}, P.Nodup → P[i]? = some x → vs[i]? = some v → kindOf x ≠ some .local →
    bindC kindOf (P.zip vs) m x = some v
  | [], _, _, _, _, h, _, _ => by simp at h
  | _ :: _, [], _, _, _, _, h, _ => by simp at h
  | p :: P, w :: vs, 0, m, nd, h1, h2, hk => by
    simp at h1 h2; subst h1; subst h2
    show bindC kindOf ((p, w) :: P.zip vs) m p = _
    unfold bindC
    rw [bindC_out fun v hv => (List.nodup_cons.mp nd).1 (List.of_mem_zip hv).1, if_neg hk]
    simp
  | p :: P, w :: vs, i + 1, m, nd, h1, h2, hk => by
    show bindC kindOf ((p, w) :: P.zip vs) m x = _
    unfold bindC
    exact bindC_get (i := i) (List.nodup_cons.mp nd).2 (by simpa using h1) (by simpa using h2) hk
def start (N : List Str) (vs : List V) : St := vs.map some ++ List.replicate (N.length - vs.length) none
def cxOf (CX : CXT) (P : Program) (w : World) (K : PySem.W.Frag) (mg : Str → Option Value) (base : Heap) (N : List Str) (qual : Str) (scope : Scope) (f : Addr) (cd : Value) (A : Around) (outer : List Env) (s : Shared) (H : Hp) (E : XK) : Cx where
  prog := P
  w := w
  K := K
  mg := mg
  base := base
  A := A.deeper (envOfC qual scope s.heap.objs.size f cd)
  N := N
  s₀ := s
  H₀ := H
  env := envOfC qual scope s.heap.objs.size f cd
  outer := outer
  stack := envOfC qual scope s.heap.objs.size f cd :: outer
  ex := []
  calm := true
  fn := fun _ => true
  pn := []
  xe := fun e s' => wpAny (model P w) (A.deeper (envOfC qual scope s.heap.objs.size f cd)) (leaving (envOfC qual scope s.heap.objs.size f cd) e) (fun _ s'' => CX outer H s E e s'') (fun e' s'' => CX outer H s E e' s'') s'
theorem cell_has {sc : Scope} {n : Nat} {x : Str} (h : sc.names.lookup x = some .cell) : ∃ c, (cellsFrom n sc.names []).lookup x = some c := by
  have q := PySem.W.cellsFrom_some sc.names n [] (.inl h)
  exact Option.isSome_iff_exists.mp q
theorem inv_start {CX : CXT} {P : Program} {w : World} {K : PySem.W.Frag} {mg : Str → Option Value} {base : Heap} {N ps : List Str} {qual : Str} {scope : Scope} {f : Addr} {cd : Value} {A : Around} {outer : List Env} {s s1 : Shared} {H : Hp} {E : XK} {us : List Value} {vs : List V}
    (S : FnScope N ps scope) (hd : A.handled = none) (e0 : Env0 P w K mg base A outer s H) (hl : vs.length = ps.length) (r : Vals vs us)
    (x : InCallC s s.heap.objs.size (bindL (envOfC qual scope s.heap.objs.size f cd).kindOf (ps.zip us) fun _ => none) (cellsFrom (s.heap.objs.size + 1) scope.names []) (bindC (envOfC qual scope s.heap.objs.size f cd).kindOf (ps.zip us) fun _ => none) s1) :
    Inv (cxOf CX P w K mg base N qual scope f cd A outer s H E) [] (start N vs) H s1 := by
  have hpl : ps.length ≤ N.length := by have := congrArg List.length S.pre; rw [List.length_take] at this; omega
  obtain ⟨h1, tk, rfl, hk⟩ := x.done
  have noA : ∀ b : Addr, b ∉ (cxOf CX P w K mg base N qual scope f cd A outer s H E).ex := fun b z => absurd (show b ∈ ([] : List Addr) from z) (by simp)
  refine ⟨⟨e0.mod, S.kind, rfl, rfl, Nat.le_refl _, fun y z c h1 h2 => ?_, fun y hy => ?_, fun y c _ h => ?_, fun _ => hd, Around.frames_deeper e0.frames, .inr ⟨rfl, rfl⟩, fun b z => absurd z (noA b), e0.bs, e0.bsz, fun b _ _ => noA b, fun b z => absurd z (noA b), e0.funs, e0.frf⟩,
    rfl, e0.bare, Un.kept hk, ⟨_, x.toInCall.ns, fun i y v h1 h2 h3 => ?_⟩, fun y c h => ⟨_, x.cell y c h⟩, e0.hok.fresh (Nat.le_refl _), fun y c h => ?_, fun p hp => absurd (show p ∈ ([] : List (Addr × Obj)) from hp) (by simp), e0.hok.kept hk, ?_⟩
  · exact name_of_addr x.apart (PySem.mem_of_lookup h1) (PySem.mem_of_lookup h2)
  · have hy : scope.names.lookup y = some .cell ∨ scope.names.lookup y = some .free := hy
    rcases hy with hy | hy
    · exact cell_has hy
    · exact absurd rfl (S.nofree _ (PySem.mem_of_lookup hy))
  · exact Nat.le_of_lt (x.above y c (PySem.mem_of_lookup h))
  · have hi : i < vs.length := by
      unfold start at h2
      by_cases hi : i < vs.length
      · exact hi
      · rw [List.getElem?_append_right (by simpa using hi)] at h2
        rw [List.getElem?_replicate] at h2
        split at h2 <;> cases h2
    have ha : vs[i]? = some v := by
      unfold start at h2
      rw [List.getElem?_append_left (by simpa using hi), List.getElem?_map] at h2
      cases e : vs[i]? with
      | none => rw [e] at h2; cases h2
      | some a => rw [e] at h2; cases h2; rfl
    obtain ⟨u, hu, rv⟩ := r.get ha
    have hp : ps[i]? = some y := by
      rw [← S.pre, List.getElem?_take_of_lt (by omega)]; exact h1
    have ndP : ps.Nodup := by rw [← S.pre]; exact S.nd.sublist (List.take_sublist _ _)
    refine ⟨u, rv, ?_⟩
    rcases S.par y (List.mem_of_getElem? hp) with k | k
    · exact .inl ⟨k, bindL_get ndP hp hu k⟩
    · obtain ⟨c, e⟩ := cell_has (n := s.heap.objs.size + 1) k
      refine .inr ⟨.inl k, c, e, ?_⟩
      have q := x.cell y c e
      rw [bindC_get ndP hp hu (by show scope.names.lookup y ≠ _; rw [k]; decide)] at q
      exact q
  · exact e0.hok.fresh (Nat.le_of_lt (x.above y c (PySem.mem_of_lookup h)))
  · unfold start
    show _ = N.length
    rw [List.length_append, List.length_map, List.length_replicate]
    omega
theorem fn_of {CX : CXT} {P : Program} {w : World} {K : PySem.W.Frag} {mg : Str → Option Value} {base : Heap} {k : Nat} {f : Addr} {name qual : Str} {params : Arguments} {body : List Stmt} {scope : Scope} {dV kV doc pm cdv ct oc : Value} {an od : Option Addr}
    {osl : Array (Option Value)} {N ps : List Str} {sp : Sp} (lk : K.lookup f = some ⟨oc, od, .func (PySem.W.fnOf name qual params body scope dV kV doc pm an cdv ct), osl⟩) (hcd : PySem.W.codeIn K cdv qual = true) (S : FnScope N ps scope)
    (len : ∀ vs H Q E, sp vs H Q E → vs.length = ps.length)
    (hbody : ∀ (A : Around) (outer : List Env) (s : Shared) (H : Hp) (vs : List V) (Q : VK) (E : XK), Room k (A.deeper (envOfC qual scope s.heap.objs.size f cdv)) → sp vs H Q E →
      ∃ t, PSs (cxOf CX P w K mg base N qual scope f cdv A outer s H E) body t ∧ t { nx := fun _ H' => Q .non H', rt := Q } (start N vs) H) :
    FnOk P w K mg base CX (k + 1) f (PySem.W.fnOf name qual params body scope dV kV doc pm an cdv ct) ps sp := by
  refine ⟨len, fun A outer s H args us vs Q E hr e0 hb r hsp => ?_⟩
  have hl := len _ _ _ _ hsp
  have KX : K.In s.heap := e0.mod.kin.keeps fun b o e => (e0.bs b o e).1
  have lim : s.heap.NoLimit := e0.mod.nolimit.keeps fun b o e => (e0.bs b o e).1
  have hkind : ∀ y ∈ ps.zip us, scope.names.lookup y.1 = some .local ∨ (scope.names.lookup y.1 = some .cell ∧ ((cellsFrom (s.heap.objs.size + 1) scope.names []).lookup y.1).isSome = true) := fun ⟨n, v⟩ hy => by
    rcases S.par n (List.of_mem_zip hy).1 with q | q
    · exact .inl q
    · exact .inr ⟨q, PySem.W.cellsFrom_some _ _ _ (.inl q)⟩
  refine codeAny_call_function hr.depth (KX _ _ lk) rfl S.co S.gen rfl (PySem.W.codeRec_of KX hcd) (hb _ _ _ _ ?_)
  refine wpAny_newFunctionEnv_cells S.kind hkind fun env he s1 x => ?_
  subst he
  refine ⟨lim.keeps x.toInCall.keep, codeAny_func ?_⟩
  obtain ⟨t, ht, hq⟩ := hbody A outer s H vs Q E (hr.deeper _) hsp
  have I : Inv (cxOf CX P w K mg base N qual scope f cdv A outer s H E) [] (start N vs) H s1 := inv_start S hr.hd e0 hl r x
  refine wpAny_mono (ht [] s1 (start N vs) H _ I hq) (fun fl s' hs => ?_) fun e s' hs => hs
  have fin : ∀ {σ' : St} {H' : Hp} {v : V} {u : Value}, Inv (cxOf CX P w K mg base N qual scope f cdv A outer s H E) [] σ' H' s' → RelV v u → Q v H' → CE outer P w H s Q u s' :=
    fun {σ' H' v u} J rv q => ⟨v, H', J.os, J.bare, J.base, J.hok, rv, q⟩
  cases fl with
  | ret u =>
    obtain ⟨v, σ', H', J, rv, q⟩ := hs
    exact fin J rv q
  | next =>
    obtain ⟨σ', H', J, q⟩ := hs
    exact fin (v := V.non) (u := Value.none) J rfl q
  | brk =>
    obtain ⟨_, _, _, q⟩ := hs
    exact False.elim q
  | cont =>
    obtain ⟨_, _, _, q⟩ := hs
    exact False.elim q
end L2
namespace L2
open PySem PySem.Spec PyProof.Rows
section
variable {X : Cx} {x : Str} {p pos : Pos} {e : Expr} {es : List Expr} {t : TA} {id T : String} {r : List V → Hp → VK → Prop}
def tCB (r : List V → Hp → VK → Prop) (t : TA) : TE := fun σ H Q => t σ H fun vs H1 => r vs H1 Q
theorem pe_callB (hc : CallR X (.builtin id) r) (hg : Gl X x) (hm : X.mg x = none) (hv : bootBuiltins x = some (.builtin id)) (ha : PA X (e :: es) t) (hn : x ≠ "__name__" := by decide) (hdb : (x == ("__debug__" : Str)) = false := by decide)
    (he : starEach (e :: es) X.env = (false, eval e X.env) :: starEach es X.env := by rfl) (hpl : (backTo pos (starEach es X.env)).any (·.1) = false := by rfl) : PE X (.Call (.Name x p) (e :: es) [] pos) (tCB r t) := by
  intro pins s σ H Q I h
  refine wpAny_Call_Name_kw (ld_blt I hg hm hv ?_ hn hdb)
  exact PyProof.Rows.callWith_builtin1 (thn (ha pos pins s σ H _ I h) fun us s1 ⟨vs, H1, I1, r1, q1⟩ => hc pins s1 σ H1 vs us Q I1 r1 q1) he hpl
theorem pe_callTy (hc : CallR X (.type T) r) (hg : Gl X x) (hm : X.mg x = none) (hv : bootBuiltins x = some (.type T)) (ha : PA X (e :: es) t) (hn : x ≠ "__name__" := by decide) (hdb : (x == ("__debug__" : Str)) = false := by decide)
    (he : starEach (e :: es) X.env = (false, eval e X.env) :: starEach es X.env := by rfl) (hpl : (backTo pos (starEach es X.env)).any (·.1) = false := by rfl) : PE X (.Call (.Name x p) (e :: es) [] pos) (tCB r t) := by
  intro pins s σ H Q I h
  refine wpAny_Call_Name_kw (ld_blt I hg hm hv ?_ hn hdb)
  exact PyProof.Rows.callWith_type1 (thn (ha pos pins s σ H _ I h) fun us s1 ⟨vs, H1, I1, r1, q1⟩ => hc pins s1 σ H1 vs us Q I1 r1 q1) he hpl
end
end L2
namespace L2
open PySem PySem.Spec PyProof.Rows
section
variable {κ : Type} [DecidableEq κ]
def valV (kvs : List (κ × V)) (k : κ) : Option V := (kvs.find? fun kv => decide (kv.1 = k)).map (·.2)
def putK (kvs : List (κ × V)) (k : κ) (v : V) : List (κ × V) :=
  if (kvs.any fun kv => decide (kv.1 = k)) = true then kvs.map (fun kv => if kv.1 = k then (kv.1, v) else kv) else kvs ++ [(k, v)]
def dropK (kvs : List (κ × V)) (k : κ) : List (κ × V) := kvs.filter fun kv => decide (kv.1 ≠ k)
theorem valV_pos {p : κ × V} {r : List (κ × V)} {k : κ} (e : p.1 = k) : valV (p :: r) k = some p.2 := by simp [valV, List.find?_cons, e]
theorem valV_neg {p : κ × V} {r : List (κ × V)} {k : κ} (e : ¬ p.1 = k) : valV (p :: r) k = valV r k := by simp [valV, List.find?_cons, e]
theorem valV_any (k : κ) : ∀ kvs : List (κ × V), (kvs.any fun kv => decide (kv.1 = k)) = (valV kvs k).isSome
  | [] => rfl
  | p :: r => by
    rw [List.any_cons]
    by_cases e : p.1 = k
    · simp only [valV_pos e, decide_eq_true e, Bool.true_or, Option.isSome_some]
    · rw [valV_neg e, decide_eq_false e, Bool.false_or]; exact valV_any k r
theorem length_putK (kvs : List (κ × V)) (k : κ) (v : V) : (putK kvs k v).length ≤ kvs.length + 1 := by
  unfold putK
  split
  · rw [List.length_map]; omega
  · rw [List.length_append, List.length_cons, List.length_nil]; omega
theorem putK_new {kvs : List (κ × V)} {k : κ} (v : V) (h : valV kvs k = none) : putK kvs k v = kvs ++ [(k, v)] := by
  unfold putK
  rw [valV_any, h]
  exact if_neg (by decide)
theorem RelO.isSome_eq {o : Option V} {u : Option Value} (r : RelO o u) : o.isSome = u.isSome := by
  cases o with
  | none => cases u with
    | none => rfl
    | some _ => exact (show False from r).elim
  | some _ => cases u with
    | none => exact (show False from r).elim
    | some _ => rfl
theorem KV.val {kvs : List (κ × V)} {vs : List (κ × Value)} (r : KV kvs vs) (k : κ) : RelO (valV kvs k) (valueAt vs k) := by
  unfold KV at r
  induction r with
  | nil => exact True.intro
  | @cons p q ps qs h t ih =>
    obtain ⟨h1, h2⟩ := h
    by_cases e : p.1 = k
    · have e' : q.1 = k := h1.symm.trans e
      have b : valueAt (q :: qs) k = some q.2 := by simp [valueAt, List.find?_cons, e']
      rw [valV_pos e, b]; exact h2
    · have e' : ¬ q.1 = k := fun z => e (h1.trans z)
      have b : valueAt (q :: qs) k = valueAt qs k := by simp [valueAt, List.find?_cons, e']
      rw [valV_neg e, b]; exact ih
theorem KV.any {kvs : List (κ × V)} {vs : List (κ × Value)} (r : KV kvs vs) (k : κ) : (kvs.any fun kv => decide (kv.1 = k)) = vs.any fun kv => decide (kv.1 = k) := by
  unfold KV at r
  induction r with
  | nil => rfl
  | cons h t ih => rw [List.any_cons, List.any_cons, ih, h.1]
theorem KV.repl {kvs : List (κ × V)} {vs : List (κ × Value)} (r : KV kvs vs) (k : κ) {y : V} {u : Value} (ry : RelV y u) :
    KV (kvs.map fun kv => if kv.1 = k then (kv.1, y) else kv) (vs.map fun kv => if kv.1 = k then (kv.1, u) else kv) := by
  unfold KV at r ⊢
  induction r with
  | nil => exact .nil
  | @cons p q ps qs h t ih =>
    rw [List.map_cons, List.map_cons]
    refine .cons ?_ ih
    obtain ⟨h1, h2⟩ := h
    by_cases e : p.1 = k
    · rw [if_pos e, if_pos (h1.symm.trans e)]; exact ⟨h1, ry⟩
    · rw [if_neg e, if_neg (fun z => e (h1.trans z))]; exact ⟨h1, h2⟩
theorem KV.put {kvs : List (κ × V)} {vs : List (κ × Value)} (r : KV kvs vs) (k : κ) {y : V} {u : Value} (ry : RelV y u) : KV (putK kvs k y) (stored vs k u) := by
  unfold putK stored
  rw [r.any k]
  by_cases e : (vs.any fun kv => decide (kv.1 = k)) = true
  · rw [if_pos e, if_pos e]; exact r.repl k ry
  · rw [if_neg e, if_neg e]; exact Paired.snoc r ⟨rfl, ry⟩
theorem KV.drop {kvs : List (κ × V)} {vs : List (κ × Value)} (r : KV kvs vs) (k : κ) : KV (dropK kvs k) (without vs k) := by
  unfold KV at r ⊢
  unfold dropK without
  induction r with
  | nil => exact .nil
  | @cons p q ps qs h t ih =>
    obtain ⟨h1, h2⟩ := h
    rw [List.filter_cons, List.filter_cons]
    by_cases e : p.1 = k
    · have a : ¬ decide (p.1 ≠ k) = true := by simp [e]
      have b : ¬ decide (q.1 ≠ k) = true := by simp [h1.symm.trans e]
      rw [if_neg a, if_neg b]; exact ih
    · have e' : ¬ q.1 = k := fun z => e (h1.trans z)
      have a : decide (p.1 ≠ k) = true := by simp [e]
      have b : decide (q.1 ≠ k) = true := by simp [e']
      rw [if_pos a, if_pos b]; exact .cons ⟨h1, h2⟩ ih
theorem KV.length {kvs : List (κ × V)} {vs : List (κ × Value)} (r : KV kvs vs) : kvs.length = vs.length := Paired.length r
theorem dropK_le (kvs : List (κ × V)) (k : κ) : (dropK kvs k).length ≤ kvs.length := List.length_filter_le _ _
end
theorem kV_is {P : Program} {w : World} {k : Key} {u : Value} (r : RelV (kV k) u) : (mixKind P w).is k u = true := by
  cases k with
  | inl i => obtain ⟨t, e⟩ := (show ∃ t, u = Value.int i t from r); subst e; exact mixKind_int P w i t
  | inr x => obtain ⟨t, e⟩ := (show ∃ t, u = Value.str x t from r); subst e; exact mixKind_str P w x t
theorem items_are {P : Program} {w : World} : ∀ {ks : List Key} {us : List Value}, Vals (ks.map kV) us → ItemsAre (mixKind P w) ks us
  | [], _, r => by rw [List.map_nil] at r; cases r; exact .nil
  | k :: ks, _, r => by
    rw [List.map_cons] at r
    cases r with
    | cons h t => exact .cons (kV_is h) (items_are t)
abbrev KT (H : Hp) : List (List Key × V) → List (List Key × Addr × Value) → Prop := Paired fun p q => p.1 = q.1 ∧ H q.2.1 = some (.tup (p.1.map kV)) ∧ RelV p.2 q.2.2
theorem KT.val {H : Hp} {kvs : List (List Key × V)} {xs : List (List Key × Addr × Value)} (r : KT H kvs xs) (k : List Key) : RelO (valV kvs k) ((atKey xs k).map (·.2)) := by
  induction r with
  | nil => exact True.intro
  | @cons p q ps qs h t ih =>
    obtain ⟨h1, _, h2⟩ := h
    by_cases e : p.1 = k
    · have e' : q.1 = k := h1.symm.trans e
      have b : atKey (q :: qs) k = some q.2 := by simp [atKey, List.find?_cons, e']
      rw [valV_pos e, b]; exact h2
    · have e' : ¬ q.1 = k := fun z => e (h1.trans z)
      have b : atKey (q :: qs) k = atKey qs k := by simp [atKey, List.find?_cons, e']
      rw [valV_neg e, b]; exact ih
theorem KT.repl {H : Hp} {kvs : List (List Key × V)} {xs : List (List Key × Addr × Value)} (r : KT H kvs xs) (k : List Key) {y : V} {u : Value} (ry : RelV y u) :
    KT H (kvs.map fun kv => if kv.1 = k then (kv.1, y) else kv) (xs.map (putAt k u)) := by
  induction r with
  | nil => exact .nil
  | @cons p q ps qs h t ih =>
    rw [List.map_cons, List.map_cons]
    refine .cons ?_ ih
    obtain ⟨h1, h2, h3⟩ := h
    unfold putAt
    by_cases e : p.1 = k
    · rw [if_pos e, if_pos (h1.symm.trans e)]; exact ⟨h1, h2, ry⟩
    · rw [if_neg e, if_neg (fun z => e (h1.trans z))]; exact ⟨h1, h2, h3⟩
theorem KT.put {H : Hp} {kvs : List (List Key × V)} {xs : List (List Key × Addr × Value)} (r : KT H kvs xs) (k : List Key) {b : Addr} {y : V} {u : Value} (hb : H b = some (.tup (k.map kV))) (ry : RelV y u) :
    KT H (putK kvs k y) (storedH xs k b u) := by
  have e : (kvs.any fun kv => decide (kv.1 = k)) = (atKey xs k).isSome := by
    rw [valV_any, (r.val k).isSome_eq, Option.isSome_map]
  unfold putK storedH
  rw [e]
  by_cases q : (atKey xs k).isSome = true
  · rw [if_pos q, if_pos q]; exact r.repl k ry
  · rw [if_neg q, if_neg q]; exact Paired.snoc r ⟨rfl, hb, ry⟩
theorem KT.keeps {H H' : Hp} {kvs : List (List Key × V)} {xs : List (List Key × Addr × Value)} (r : KT H kvs xs) (ht : ∀ b ys, H b = some (.tup ys) → H' b = some (.tup ys)) : KT H' kvs xs :=
  Paired.mapP r fun _ _ z => ⟨z.1, ht _ _ z.2.1, z.2.2⟩
section
variable {P : Program} {w : World} {H : Hp} {h : Heap} {a : Addr}
theorem rd_of {u : HO} (ok : HOk P w H h) (e : Rd H a u) : ObjOk P w H h a u := e.ok ok
theorem dk_rd {kvs : List (Key × V)} (ok : HOk P w H h) (e : Rd H a (.dK kvs)) : kvs.length ≤ sizeLine ∧ (a == sysModules) = false ∧ ∃ vs, KV kvs vs ∧ h.DictOf (mixKind P w) a vs :=
  show ObjOk P w H h a (.dK kvs) from rd_of ok e
theorem dk_of {kvs : List (Key × V)} (ok : HOk P w H h) (e : H a = some (.dK kvs)) : kvs.length ≤ sizeLine ∧ (a == sysModules) = false ∧ ∃ vs, KV kvs vs ∧ h.DictOf (mixKind P w) a vs := dk_rd ok (.inl e)
theorem key_of {ks : List Key} (ok : HOk P w H h) (e : H a = some (.tup (ks.map kV))) : (tupleKind (mixKind P w)).is h ks a := by
  obtain ⟨_, its, r, ⟨o, h1, h2, n, h3⟩, _⟩ := (show ObjOk P w H h a (.tup (ks.map kV)) from ok a _ e)
  exact ⟨o, its.toArray, n, h1, h2, h3, by simpa using items_are r⟩
theorem dt_rd {kvs : List (List Key × V)} (ok : HOk P w H h) (e : Rd H a (.dT kvs)) : kvs.length ≤ sizeLine ∧ (a == sysModules) = false ∧
    ∃ xs, KT H kvs xs ∧ h.DictOfH (tupleKind (mixKind P w)) a xs := by
  obtain ⟨z, y, xs, r, o, es, ep, h1, h2, h3, h4, h5⟩ := (show ObjOk P w H h a (.dT kvs) from rd_of ok e)
  refine ⟨z, y, xs, r, o, es, ep, h1, h2, h3, h4, fun x hx => ?_, h5⟩
  have all : ∀ {l : List (List Key × V)} {m : List (List Key × Addr × Value)}, KT H l m → ∀ x ∈ m, (tupleKind (mixKind P w)).is h x.1 x.2.1 := by
    intro l m q
    induction q with
    | nil => intro x hx; exact nomatch hx
    | @cons p q ps qs hq t ih =>
      intro x hx
      rcases List.mem_cons.mp hx with e | hx
      · subst e
        exact key_of ok (by rw [← hq.1]; exact hq.2.1)
      · exact ih x hx
  exact all r x hx
theorem dt_of {kvs : List (List Key × V)} (ok : HOk P w H h) (e : H a = some (.dT kvs)) : kvs.length ≤ sizeLine ∧ (a == sysModules) = false ∧
    ∃ xs, KT H kvs xs ∧ h.DictOfH (tupleKind (mixKind P w)) a xs := dt_rd ok (.inl e)
end
def DGet (H : Hp) (a : Addr) (y : V) (r : Option V) : Prop :=
  (∃ kvs k, Rd H a (.dK kvs) ∧ y = kV k ∧ r = valV kvs k) ∨ ∃ kvs k b, Rd H a (.dT kvs) ∧ y = .ref b ∧ H b = some (.tup (k.map kV)) ∧ r = valV kvs k
def DPut (H : Hp) (a : Addr) (y v : V) (H' : Hp) : Prop :=
  (∃ kvs k, H a = some (.dK kvs) ∧ y = kV k ∧ kvs.length < sizeLine ∧ H' = upd H a (.dK (putK kvs k v))) ∨
  ∃ kvs k b, H a = some (.dT kvs) ∧ y = .ref b ∧ H b = some (.tup (k.map kV)) ∧ kvs.length < sizeLine ∧ H' = upd H a (.dT (putK kvs k v))
theorem DGet.k {H : Hp} {a : Addr} {kvs : List (Key × V)} {k : Key} (e : H a = some (.dK kvs)) : DGet H a (kV k) (valV kvs k) := .inl ⟨kvs, k, .inl e, rfl, rfl⟩
theorem DPut.k {H : Hp} {a : Addr} {kvs : List (Key × V)} {k : Key} {v : V} (e : H a = some (.dK kvs)) (hl : kvs.length < sizeLine) : DPut H a (kV k) v (upd H a (.dK (putK kvs k v))) := .inl ⟨kvs, k, e, rfl, hl, rfl⟩
section
variable {X : Cx} {pins : List (Addr × Obj)} {σ : St} {H : Hp} {s : Shared} {a : Addr} {y v : V} {u r : Value} {o : Option V} {A : Around} {E : Value → Shared → Prop}
theorem Inv.big (I : Inv X pins σ H s) : sysModules < s.heap.objs.size := by
  have h : mainGlobals < s.heap.objs.size := (I.mod.glob.keeps I.bk).lt
  exact Nat.lt_trans (by decide) h
theorem d_getItem {Q : Value → Shared → Prop} (hu : A.units + 1 < cLine) (I : Inv X pins σ H s) (g : DGet H a y (some v)) (ry : RelV y u) (h : ∀ w' s', Inv X pins σ H s' → RelV v w' → Q w' s') :
    wpAny (model X.prog X.w) A (getItem (.ref a) u) Q E s := by
  rcases g with ⟨kvs, k, e, ey, l⟩ | ⟨kvs, k, b, e, ey, eb, l⟩
  · subst ey
    obtain ⟨z, hd, vs, rel, dd⟩ := dk_rd I.hok e
    obtain ⟨w', hw, rw'⟩ := RelO.some_of (v := v) (o := valueAt vs k) (by rw [l]; exact rel.val k)
    exact wpAny_getItem_of (kV_is ry) dd.mapOf hw (h w' _ (I.tok _) rw')
  · subst ey
    cases (show u = Value.ref b from ry)
    obtain ⟨z, hd, xs, rel, dd⟩ := dt_rd I.hok e
    obtain ⟨w', hw, rw'⟩ := RelO.some_of (v := v) (o := (atKey xs k).map (·.2)) (by rw [l]; exact rel.val k)
    obtain ⟨p, hp, hp2⟩ := Option.map_eq_some_iff.mp hw
    refine wpAny_getItem_heap (tupleKind_room_in1 hu) (key_of I.hok eb) dd hp ?_
    rw [hp2]
    exact h w' _ (I.tok _) rw'
theorem d_in {Q : Value → Shared → Prop} (hu : A.units + 1 < cLine) (I : Inv X pins σ H s) (g : DGet H a y o) (ry : RelV y u) (h : ∀ s', Inv X pins σ H s' → Q (.bool o.isSome) s') :
    wpAny (model X.prog X.w) A (compareOp .In u (.ref a)) Q E s := by
  rcases g with ⟨kvs, k, e, ey, l⟩ | ⟨kvs, k, b, e, ey, eb, l⟩
  · subst ey
    obtain ⟨z, hd, vs, rel, dd⟩ := dk_rd I.hok e
    refine wpAny_in_of (kV_is ry) hd dd.mapOf ?_
    rw [← (rel.val k).isSome_eq, ← l]
    exact h _ (I.tok _)
  · subst ey
    cases (show u = Value.ref b from ry)
    obtain ⟨z, hd, xs, rel, dd⟩ := dt_rd I.hok e
    refine wpAny_in_heap (tupleKind_room_in1 hu) (key_of I.hok eb) hd dd ?_
    have q := (rel.val k).isSome_eq
    rw [Option.isSome_map] at q
    rw [← q, ← l]
    exact h _ (I.tok _)
theorem d_notIn {Q : Value → Shared → Prop} (hu : A.units + 1 < cLine) (I : Inv X pins σ H s) (g : DGet H a y o) (ry : RelV y u) (h : ∀ s', Inv X pins σ H s' → Q (.bool (!o.isSome)) s') :
    wpAny (model X.prog X.w) A (compareOp .NotIn u (.ref a)) Q E s := by
  rcases g with ⟨kvs, k, e, ey, l⟩ | ⟨kvs, k, b, e, ey, eb, l⟩
  · subst ey
    obtain ⟨z, hd, vs, rel, dd⟩ := dk_rd I.hok e
    refine wpAny_notIn_of (kV_is ry) hd dd.mapOf ?_
    rw [← (rel.val k).isSome_eq, ← l]
    exact h _ (I.tok _)
  · subst ey
    cases (show u = Value.ref b from ry)
    obtain ⟨z, hd, xs, rel, dd⟩ := dt_rd I.hok e
    refine wpAny_notIn_heap (tupleKind_room_in1 hu) (key_of I.hok eb) hd dd ?_
    have q := (rel.val k).isSome_eq
    rw [Option.isSome_map] at q
    rw [← q, ← l]
    exact h _ (I.tok _)
theorem d_write {h' : Heap} {t' : Nat} {ob : HO} (I : Inv X pins σ H s) (mu : Mut (H a)) (hs : Heap.SameBut a s.heap h') (he : ∃ q, h'.get? a = some q) (new : ObjOk X.prog X.w (upd H a ob) h' a ob) :
    Inv X pins σ (upd H a ob) { s with heap := h', toks := t' } :=
  I.write (x := a) (e := a) mu (.inl rfl) (fun b q hb z => (hs.2 b hb).trans z) he new
theorem dk_new {P : Program} {w : World} {H' : Hp} {h' : Heap} {kvs : List (Key × V)} {vs : List (Key × Value)} (z : kvs.length ≤ sizeLine) (hd : (a == sysModules) = false) (rel : KV kvs vs) (dd : h'.DictOf (mixKind P w) a vs) :
    ObjOk P w H' h' a (.dK kvs) := ⟨z, hd, vs, rel, dd⟩
theorem d_setItem {H' : Hp} {Q : Unit → Shared → Prop} (hu : A.units + 1 < cLine) (I : Inv X pins σ H s) (g : DPut H a y v H') (ry : RelV y u) (rv : RelV v r) (h : ∀ s', Inv X pins σ H' s' → Q () s') :
    wpAny (model X.prog X.w) A (setItem (.ref a) u r) Q E s := by
  rcases g with ⟨kvs, k, e, ey, l, eH⟩ | ⟨kvs, k, b, e, ey, eb, l, eH⟩
  · subst ey eH
    obtain ⟨z, hd, vs, rel, dd⟩ := dk_of I.hok e
    have hz : vs.length ≤ sizeLine := by rw [← rel.length]; exact z
    have hl : (putK kvs k v).length ≤ sizeLine := by have := length_putK kvs k v; omega
    refine wpAny_setItem_pairs (hsz := hz) (kV_is ry) dd fun h' dd' hs => h _ ?_
    have he : ∃ q, h'.get? a = some q := let ⟨q, _, _, hq, _⟩ := dd'; ⟨q, hq⟩
    exact d_write I (by rw [e]; exact True.intro) hs he (dk_new hl hd (rel.put k rv) dd')
  · subst ey eH
    cases (show u = Value.ref b from ry)
    obtain ⟨z, hd, xs, rel, dd⟩ := dt_of I.hok e
    have hz : xs.length ≤ sizeLine := by rw [← Paired.length rel]; exact z
    have hl : (putK kvs k v).length ≤ sizeLine := by have := length_putK kvs k v; omega
    refine wpAny_setItem_heap (hsz := hz) (tupleKind_room_in1 hu) (key_of I.hok eb) dd fun h' dd' hs => h _ ?_
    obtain ⟨q, es, ep, hq, h2, h3, h4, _, h5⟩ := dd'
    refine d_write I (by rw [e]; exact True.intro) hs ⟨q, hq⟩ ⟨hl, hd, _, (rel.put k eb rv).keeps fun c ys ec => ?_, q, es, ep, hq, h2, h3, h4, h5⟩
    rw [upd_ne (ne_of ec e (fun z => nomatch z))]
    exact ec
end
section
variable {X : Cx} {pins : List (Addr × Obj)} {σ : St} {H : Hp} {s : Shared} {a : Addr} {kvs : List (Key × V)} {k : Key} {u : Value} {A : Around} {E : Value → Shared → Prop}
theorem d_pop {v : V} {more : List Value} {Q : Value → Shared → Prop} (I : Inv X pins σ H s) (e : H a = some (.dK kvs)) (ry : RelV (kV k) u) (l : valV kvs k = some v) (hm : more = [] ∨ ∃ x, more = [x])
    (h : ∀ w' s', Inv X pins σ (upd H a (.dK (dropK kvs k))) s' → RelV v w' → Q w' s') : wpAny (model X.prog X.w) A (call (.builtin "dict.pop") (.ref a :: u :: more)) Q E s := by
  obtain ⟨z, hd, vs, rel, dd⟩ := dk_of I.hok e
  obtain ⟨w', hw, rw'⟩ := RelO.some_of (v := v) (o := valueAt vs k) (by rw [← l]; exact rel.val k)
  have hp : (keyPart u).isSome = true := by
    cases k with
    | inl i => obtain ⟨t, q⟩ := (show ∃ t, u = Value.int i t from ry); subst q; rfl
    | inr x => obtain ⟨t, q⟩ := (show ∃ t, u = Value.str x t from ry); subst q; rfl
  have ha : argsOk "dict.pop" ⟨.ref a :: u :: more, []⟩ := by
    rcases hm with q | ⟨x, q⟩
    · subst q; exact PySem.F.args_dict_pop_2 _ _
    · subst q; exact PySem.F.args_dict_pop_3 _ _ _
  refine call_meetsIn PySem.F.slot_dict_pop dd.typeIs PySem.F.entry_dict_pop ha (meets_dict_pop_there (mixKind X.prog X.w) a (kV_is ry) more hm hp)
    ⟨vs, w', dd, by rw [← rel.length]; exact z, hw, fun h' dd' hs => h w' _ ?_ rw'⟩
  have he : ∃ q, h'.get? a = some q := let ⟨q, _, _, hq, _⟩ := dd'; ⟨q, hq⟩
  exact d_write I (by rw [e]; exact True.intro) hs he (dk_new (Nat.le_trans (dropK_le kvs k) z) hd (rel.drop k) dd')
theorem d_len {Q : Value → Shared → Prop} (I : Inv X pins σ H s) (e : Rd H a (.dK kvs)) (h : ∀ t s', Inv X pins σ H s' → Q (.int kvs.length t) s') : wpAny (model X.prog X.w) A (call (.builtin "len") [.ref a]) Q E s := by
  obtain ⟨z, hd, vs, rel, dd⟩ := dk_rd I.hok e
  refine call_len_dict hd dd (by rw [← rel.length]; rw [sizeLine_eq] at z; omega) ?_
  rw [← rel.length]
  exact h _ _ (I.tok _)
end
def NoSl (i : Expr) : Prop := ∀ ov iv, subscripted i false ov iv = operate [ov, iv] (getItem ov iv)
theorem subD_of {prog : Program} {w : World} {A : Around} {E : Value → Shared → Prop} {s : Shared} {env : Env} {value slice : Expr} {pos : Pos} {T id : String} {Q : Value → Shared → Prop}
    (hl : typeLookup (.type T) "__getitem__" = pure (some (.builtin id))) (hs : NoSl slice)
    (h : wpAny (model prog w) A (eval value env) (fun o s₁ => wpAny (model prog w) A (eval slice env) (fun i s₂ => s₂.TypeIs o T ∧ wpAny (model prog w) A (getItem o i) Q E s₂) E s₁) E s) :
    wpAny (model prog w) A (eval (.Subscript value slice pos) env) Q E s := by
  refine Subscript_ (wpAny_mono h (fun o s₁ h₁ => wpAny_mono h₁ (fun i s₂ h₂ => ?_) fun _ _ x => x) fun _ _ x => x)
  obtain ⟨hT, h₂⟩ := h₂
  unfold subscriptTail
  refine wpAny_bind ?_
  rw [getitemInPython_of_ne hT.not_modules]
  refine wpAny_bind (wpAny_specialOf hT hl ?_)
  have fin : wpAny (model prog w) A (subscripted slice false o i) (fun r s₃ => wpAny (model prog w) A (letTemporaryGo value o r >>= fun _ => pure r) Q E s₃) E s₂ := by
    rw [hs o i]
    exact wpAny_operating (wpAny_mono h₂ (fun r s₃ h₃ => wpAny_bind (wpAny_letTemporaryGo (wpAny_pure h₃))) fun _ _ x => x)
  first
    | exact wpAny_pure (wpAny_bind fin)
    | exact wpAny_bind (wpAny_pure (wpAny_bind fin))
    | exact wpAny_bind fin
theorem dict_typeIs {X : Cx} {pins : List (Addr × Obj)} {σ : St} {H : Hp} {s : Shared} {a : Addr} {y : V} {o : Option V} (I : Inv X pins σ H s) (g : DGet H a y o) : s.TypeIs (.ref a) "dict" := by
  rcases g with ⟨kvs, k, e, _, _⟩ | ⟨kvs, k, b, e, _, _, _⟩
  · obtain ⟨_, _, vs, _, dd⟩ := dk_rd I.hok e
    exact dd.typeIs
  · obtain ⟨_, _, xs, _, dd⟩ := dt_rd I.hok e
    exact dd.typeIs
def tDGet (td ty : TE) : TE := fun σ H Q => td σ H fun x H1 => ty σ H1 fun y H2 => ∃ a v, x = .ref a ∧ DGet H2 a y (some v) ∧ Q v H2
def sDPut (td ty tv : TE) : TS := fun D σ H => tv σ H fun v H1 => td σ H1 fun x H2 => ty σ H2 fun y H3 => ∃ a H4, x = .ref a ∧ DPut H3 a y v H4 ∧ D.nx σ H4
section
variable {X : Cx} {o i e value : Expr} {pos pos' tpos : Pos} {td ty tv : TE}
theorem pe_dget (hu : X.A.units + 1 < cLine) (ho : PE X o td) (hi : PE X i ty) (hs : NoSl i) : PE X (.Subscript o i pos) (tDGet td ty) := by
  intro pins s σ H Q I h
  refine subD_of PySem.F.slot_dict_getitem.lookup hs (thn (ho pins s σ H _ I h) fun u s1 ⟨x, H1, I1, rx, q1⟩ => thn (hi pins s1 σ H1 _ I1 q1) fun iv s2 ⟨y, H2, I2, ry, a, v, ex, g, q2⟩ => ?_)
  subst ex
  obtain rfl : u = Value.ref a := rx
  exact ⟨dict_typeIs I2 g, d_getItem hu I2 g ry fun w' s3 I3 rw' => ⟨v, H2, I3, rw', q2⟩⟩
theorem ps_dput (hu : X.A.units + 1 < cLine) (ho : PE X o td) (hi : PE X i ty) (hv : PE X value tv) (hs : swapsWith value (some (.Subscript o i pos')) pos.line X.env = pure false) :
    PS X (.Assign [.Subscript o i pos'] value pos) (sDPut td ty tv) := by
  intro pins s σ H D I h
  refine wpAny_Assign_Subscript (thn (hv pins s σ H _ I h) fun r s1 ⟨v, H1, I1, rv, q1⟩ => thn (ho pins s1 σ H1 _ I1 q1) fun u s2 ⟨x, H2, I2, rx, q2⟩ => thn (hi pins s2 σ H2 _ I2 q2) fun iv s3 ⟨y, H3, I3, ry, a, H4, ex, g, q3⟩ => ?_) hs
  subst ex
  obtain rfl : u = Value.ref a := rx
  exact d_setItem hu I3 g ry rv fun s4 I4 => ⟨σ, H4, I4, q3⟩
end
theorem dk_empty {P : Program} {w : World} {H : Hp} (h : Heap) (hb : sysModules < h.objs.size) : ObjOk P w H (h.push { cls := .type "dict", data := .dict #[] }) h.objs.size (.dK []) :=
  ⟨Nat.zero_le _, beq_eq_false_iff_ne.mpr (Ne.symm (Nat.ne_of_lt hb)), [], .nil, Heap.DictOf.new h⟩
def tDNewK : TE := fun _ H Q => ∀ p, H p = none → Q (.ref p) (upd H p (.dK []))
section
variable {X : Cx} {pos : Pos}
theorem pe_dnewK : PE X (.Dict [] [] pos) tDNewK := fun pins s σ H Q I h =>
  wpAny_Dict_empty ⟨.ref s.heap.objs.size, _, I.laid (a := s.heap.objs.size) (o := .dK []) (t' := s.toks) (fun _ _ q => Heap.get?_push_of_some _ q) (Nat.le_refl _) (dk_empty s.heap I.big), rfl, h _ (I.hok.fresh (Nat.le_refl _))⟩
end
structure M1 (X : Cx) (o : Expr) (m : Str) (apos : Pos) (e : Expr) (cpos : Pos) : Prop where
  base : attributeBase o m X.env (eval o X.env) = eval o X.env
  few : ((backTo cpos (starEach [e] X.env)).all (fun x => !x.1) && (backToKw cpos (keywordEach [] X.env)).all (fun x => x.1.isSome)
    && decide (([e] : List Expr).length + ([] : List Keyword).length + (if ([] : List Keyword).isEmpty then 0 else 1) < 30)) = true
  line : (apos.endLine == cpos.line) = true
  trees : backTo cpos (starEach [e] X.env) = [(false, eval e X.env)]
def IsD (H : Hp) (a : Addr) : Prop := (∃ kvs, Rd H a (.dK kvs)) ∨ ∃ kvs, Rd H a (.dT kvs)
theorem isD_at {X : Cx} {pins : List (Addr × Obj)} {σ : St} {H : Hp} {s : Shared} {a : Addr} (I : Inv X pins σ H s) (d : IsD H a) :
    s.TypeIs (.ref a) "dict" ∧ (∀ b, Value.ref a = .ref b → ∃ ob, s.heap.get? b = some ob ∧ ob.dict = none) ∧ (a == sysModules) = false := by
  rcases d with ⟨kvs, e⟩ | ⟨kvs, e⟩
  · obtain ⟨_, hd, vs, _, dd⟩ := dk_rd I.hok e
    refine ⟨dd.typeIs, fun b q => ?_, hd⟩
    cases q
    obtain ⟨ob, _, _, h1, h2, _⟩ := dd
    exact ⟨ob, h1, h2.2.1⟩
  · obtain ⟨_, hd, xs, _, dd⟩ := dt_rd I.hok e
    refine ⟨dd.typeIs, fun b q => ?_, hd⟩
    cases q
    obtain ⟨ob, _, _, h1, h2, _⟩ := dd
    exact ⟨ob, h1, h2.2.1⟩
section
variable {X : Cx} {pins : List (Addr × Obj)} {σ : St} {H : Hp} {s : Shared} {a : Addr} {y d : V} {u r : Value} {o : Option V} {A : Around} {E : Value → Shared → Prop}
end
def tDPop1 (td ty : TE) : TE := fun σ H Q => td σ H fun x H1 => ∃ a, x = .ref a ∧ IsD H1 a ∧ ty σ H1 fun y H2 => ∃ kvs k v, H2 a = some (.dK kvs) ∧ y = kV k ∧ valV kvs k = some v ∧ Q v (upd H2 a (.dK (dropK kvs k)))
section
variable {X : Cx} {o e f : Expr} {apos cpos : Pos} {td ty tx : TE}
theorem pe_dpop1 (ho : PE X o td) (he : PE X e ty) (m : M1 X o "pop" apos e cpos) : PE X (.Call (.Attribute o "pop" apos) [e] [] cpos) (tDPop1 td ty) := by
  intro pins s σ H Q I h
  refine wpAny_Call_method m.base m.few m.line PySem.F.plainAttrs_dict PySem.F.slot_dict_pop PySem.F.type_dict_pop (thn (ho pins s σ H _ I h) fun u s1 ⟨x, H1, I1, rx, a, ex, d, q1⟩ => ?_)
  subst ex
  obtain rfl : u = Value.ref a := rx
  obtain ⟨t1, t2, _⟩ := isD_at I1 d
  refine ⟨t1, t2, ?_⟩
  rw [m.trees]
  refine Calls.callWith_builtin rfl (Calls.evalArgs_plain (Calls.spliced_cons (thn (he pins s1 σ H1 _ I1 q1) fun iv s2 ⟨y, H2, I2, ry, kvs, k, v, ea, ey, l, q2⟩ => Calls.spliced_nil ?_)))
  subst ey
  exact d_pop I2 ea ry l (.inl rfl) fun w' s3 I3 rw' => ⟨v, _, I3, rw', q2⟩
end
section
variable {X : Cx} {pins : List (Addr × Obj)} {σ : St} {H : Hp} {s : Shared} {a : Addr} {kvs : List (Key × V)} {A : Around} {E : Value → Shared → Prop}
end
section
variable {X : Cx} {pins : List (Addr × Obj)} {σ : St} {H : Hp} {s : Shared} {a : Addr} {y : V} {u : Value} {A : Around} {E : Value → Shared → Prop}
end
end L2
namespace HT
open PySem PyProof.Rows
section
open PySem.SeqAt
open PySem.AutoSeq1 (wpAny_loadPart')
open PySem.MeetsSeq PySem.MeetsSeq2 PySem.MeetsSeq3
end
section
variable {prog : Program} {w : World} {A : Around} {E : Value → Shared → Prop} {s : Shared}
def sIx (n d : Nat) : Option Int → Nat
  | none => d
  | some v => if v < 0 then (v + (n : Int)).toNat else min v.toNat n
theorem sIx_none (n d : Nat) : sIx n d none = d := rfl
end
end HT
namespace L2
open PySem PySem.Spec PyProof.Rows
abbrev TO := St → Hp → (Option Int → Hp → Prop) → Prop
def PO (X : Cx) (e : Option Expr) (t : TO) : Prop :=
  ∀ (pins : List (Addr × Obj)) (s : Shared) (σ : St) (H : Hp) (Q : Option Int → Hp → Prop), Inv X pins σ H s → t σ H Q →
    wpAny (model X.prog X.w) X.A (evalPart e X.env) (fun u s' => ∃ o H', Inv X pins σ H' s' ∧ IsPart u o ∧ Q o H') X.xe s
def tNoPart : TO := fun _ H Q => Q none H
def tPart (t : TE) : TO := fun σ H Q => t σ H fun x H1 => ∃ i, x = .int i ∧ Q (some i) H1
section
variable {X : Cx} {e : Expr} {te : TE} {lo hi : Option Expr} {tl th : TO} {pos p2 : Pos}
theorem po_none : PO X none tNoPart := by
  intro pins s σ H Q I h
  rw [evalPart_none]
  exact wpAny_pure ⟨none, H, I, .none, h⟩
theorem po_some (h : PE X e te) : PO X (some e) (tPart te) := by
  intro pins s σ H Q I hw
  rw [evalPart_some]
  refine thn (h pins s σ H _ I hw) fun u s1 ⟨x, H1, I1, r1, q1⟩ => ?_
  obtain ⟨i, rfl, q⟩ := q1
  obtain ⟨t, rfl⟩ := r1
  exact ⟨some i, H1, I1, .int i t, q⟩
def SlR (X : Cx) (r : V → Option Int → Option Int → Hp → VK → Prop) : Prop :=
  ∀ (pins : List (Addr × Obj)) (s : Shared) (σ : St) (H : Hp) (x : V) (v vl vu : Value) (lo hi : Option Int) (sl : Addr) (Q : VK), Inv X pins σ H s → RelV x v → s.heap.IsSliceOf sl vl vu .none → IsPart vl lo → IsPart vu hi → r x lo hi H Q →
    ∃ T id, typeLookup (.type T) "__getitem__" = pure (some (.builtin id)) ∧ s.TypeIs v T ∧ wpAny (model X.prog X.w) X.A (getItem v (.ref sl)) (EP X pins σ Q) X.xe s
def tSl (r : V → Option Int → Option Int → Hp → VK → Prop) (te : TE) (tl th : TO) : TE := fun σ H Q => te σ H fun x H1 => tl σ H1 fun l H2 => th σ H2 fun u H3 => r x l u H3 Q
theorem pe_slice {r : V → Option Int → Option Int → Hp → VK → Prop} (hr : SlR X r) (he : PE X e te) (hl : PO X lo tl) (hu : PO X hi th) : PE X (.Subscript e (.Slice lo hi none p2) pos) (tSl r te tl th) := by
  intro pins s σ H Q I h
  refine Subscript_ (thn (he pins s σ H _ I h) fun v s1 ⟨x, H1, I1, r1, q1⟩ => ?_)
  refine wpAny_Slice (thn (hl pins s1 σ H1 _ I1 q1) fun vl s2 ⟨l, H2, I2, pl, q2⟩ => thn (hu pins s2 σ H2 _ I2 q2) fun vu s3 ⟨u, H3, I3, pu, q3⟩ => ?_)
  rw [evalPart_none]
  refine wpAny_pure ?_
  have I4 : Inv X pins σ H3 { s3 with heap := s3.heap.push { cls := .type "slice", data := .fields #[vl, vu, .none] } } := I3.kept (t' := s3.toks) fun b ob q => Heap.get?_push_of_some _ q
  obtain ⟨T, id, hT, ht, hg⟩ := hr pins { s3 with heap := s3.heap.push { cls := .type "slice", data := .fields #[vl, vu, .none] } } σ H3 x v vl vu l u s3.heap.objs.size Q I4 r1 (Heap.IsSliceOf.new ..) pl pu q3
  show wpAny (model X.prog X.w) X.A (subscriptTail e (.Slice lo hi none p2) v (.ref s3.heap.objs.size)) (EP X pins σ Q) X.xe { s3 with heap := s3.heap.push { cls := .type "slice", data := .fields #[vl, vu, .none] } }
  exact tail_any (ops := [.ref s3.heap.objs.size, v]) ht hT hg (by with_unfolding_all rfl)
def cutV (xs : List V) (lo hi : Option Int) : List V := (xs.drop (HT.sIx xs.length 0 lo)).take (HT.sIx xs.length xs.length hi - HT.sIx xs.length 0 lo)
theorem cutV_length (xs : List V) (lo hi : Option Int) : (cutV xs lo hi).length ≤ xs.length := by
  unfold cutV
  rw [List.length_take, List.length_drop]
  omega
end
end L2
namespace L2
open PySem PySem.Spec PyProof.Rows
def ixN (n : Nat) (i : Int) : Option Nat := if 0 ≤ i then (if i < n then some i.toNat else none) else if -(n : Int) ≤ i then some (i + n).toNat else none
def atI {α : Type} (xs : List α) (i : Int) : Option α := (ixN xs.length i).bind fun j => xs[j]?
theorem ixN_seq {n : Nat} {i : Int} {j : Nat} (h : ixN n i = some j) : seqIndex? i n = some j ∧ j < n ∧ -(n : Int) ≤ i ∧ i < n := by
  unfold ixN at h
  by_cases h0 : 0 ≤ i
  · rw [if_pos h0] at h
    by_cases h1 : i < n
    · rw [if_pos h1] at h
      have e : i.toNat = j := Option.some.inj h
      exact ⟨by rw [seqIndex_of h0 h1, e], by omega, by omega, h1⟩
    · rw [if_neg h1] at h; cases h
  · rw [if_neg h0] at h
    by_cases h1 : -(n : Int) ≤ i
    · rw [if_pos h1] at h
      have e : (i + n).toNat = j := Option.some.inj h
      exact ⟨by rw [seqIndex_neg (by omega) h1, e], by omega, h1, by omega⟩
    · rw [if_neg h1] at h; cases h
theorem atI_get {α : Type} {xs : List α} {i : Int} {v : α} (h : atI xs i = some v) : ∃ j, seqIndex? i xs.length = some j ∧ xs[j]? = some v ∧ j < xs.length ∧ -(xs.length : Int) ≤ i ∧ i < xs.length := by
  unfold atI at h
  cases e : ixN xs.length i with
  | none => rw [e] at h; cases h
  | some j =>
    rw [e] at h
    obtain ⟨h1, h2, h3, h4⟩ := ixN_seq e
    exact ⟨j, h1, h, h2, h3, h4⟩
theorem atI_nat {α : Type} {xs : List α} {j : Nat} {v : α} (h : xs[j]? = some v) : atI xs (j : Int) = some v := by
  have hj : j < xs.length := (List.getElem?_eq_some_iff.mp h).1
  have e : ixN xs.length (j : Int) = some j := by
    unfold ixN
    rw [if_pos (by omega), if_pos (by omega)]; simp
  unfold atI; rw [e]; exact h
def PlainIx (b : Expr) : Prop := ∀ o i, subscripted b false o i = operate [o, i] (getItem o i)
def IxR (X : Cx) (r : R2) : Prop :=
  ∀ (value slice : Expr) (pins : List (Addr × Obj)) (s : Shared) (σ : St) (H : Hp) (x y : V) (v u : Value) (Q : VK), Inv X pins σ H s → RelV x v → RelV y u → r x y H Q →
    subscripted slice false v u = operate [v, u] (getItem v u) → wpAny (model X.prog X.w) X.A (subscriptTail value slice v u) (EP X pins σ Q) X.xe s
def MtR (X : Cx) (id : String) (r : V → List V → Hp → VK → Prop) : Prop :=
  ∀ (pins : List (Addr × Obj)) (s : Shared) (σ : St) (H : Hp) (x : V) (xs : List V) (v : Value) (us : List Value) (Q : VK), Inv X pins σ H s → RelV x v → Vals xs us → r x xs H Q →
    wpAny (model X.prog X.w) X.A (call (.builtin id) (v :: us)) (EP X pins σ Q) X.xe s
section
variable {X : Cx} {a b : Expr} {ta tb : TE} {pos : Pos}
theorem pe_ix {r : R2} (hr : IxR X r) (ha : PE X a ta) (hb : PE X b tb) (hs : PlainIx b) : PE X (.Subscript a b pos) (tOp r ta tb) := by
  intro pins s σ H Q I h
  exact Subscript_ (binT ha hb I h fun v u s2 x y H2 I2 rx ry q => hr a b pins s2 σ H2 x y v u Q I2 rx ry q (hs _ _))
def rIxL (K : PySem.W.Frag) : R2 := fun x y H Q => ∃ p xs i v, x = .ref p ∧ y = .int i ∧ SqL K H p xs ∧ atI xs i = some v ∧ Q v H
def rIxT (K : PySem.W.Frag) : R2 := fun x y H Q => ∃ p xs i v, x = .ref p ∧ y = .int i ∧ SqT K H p xs ∧ atI xs i = some v ∧ Q v H
theorem ix_list : IxR X (rIxL X.K) := by
  intro value slice pins s σ H x y v u Q I rx ry h hs
  obtain ⟨p, xs, i, z, rfl, rfl, hq, he, q⟩ := h
  cases rx
  obtain ⟨t, rfl⟩ := ry
  obtain ⟨its, r, pl, hz⟩ := I.list hq
  obtain ⟨j, h1, h2, h3, h4, h5⟩ := atI_get he
  obtain ⟨w, ew, rw'⟩ := r.get h2
  have hl := r.length
  have hn := line63
  have fin : EP X pins σ Q w s := ⟨z, H, I, rw', q⟩
  by_cases h0 : 0 ≤ i
  · have hj : i.toNat = j := by
      rw [seqIndex_of h0 h5] at h1
      exact Option.some.inj h1
    exact item_listR pl.isList h0 (by omega) (by rw [hj]; simpa using ew) fin hs
  · have hj : (i + (its.toArray.size : Int)).toNat = j := by
      rw [seqIndex_neg (by omega) h4] at h1
      rw [List.size_toArray, ← hl]
      exact Option.some.inj h1
    exact subscriptTail_builtinR (x := w) pl.isList.typeIs slot_list_getitem.lookup
      (wpAny_getItem_list_neg (Q := fun r s' => r = w ∧ EP X pins σ Q r s') pl.isList (by omega) (by rw [List.size_toArray] <;> omega) (by omega) (by rw [hj]; simpa using ew) ⟨rfl, fin⟩) hs
theorem ix_tup : IxR X (rIxT X.K) := by
  intro value slice pins s σ H x y v u Q I rx ry h hs
  obtain ⟨p, xs, i, z, rfl, rfl, hq, he, q⟩ := h
  cases rx
  obtain ⟨t, rfl⟩ := ry
  obtain ⟨its, r, pl, hz⟩ := I.tuple hq
  obtain ⟨j, h1, h2, h3, h4, h5⟩ := atI_get he
  obtain ⟨w, ew, rw'⟩ := r.get h2
  have hl := r.length
  have hn := line63
  have fin : EP X pins σ Q w s := ⟨z, H, I, rw', q⟩
  exact subscriptTail_builtinR (x := w) pl.typeIs slot_tuple_getitem.lookup
    (getItem_tuple (j := j) (Q := fun r s' => r = w ∧ EP X pins σ Q r s') pl (by omega) (by omega) (by rw [List.size_toArray, ← hl]; exact h1) (by simpa using ew) ⟨rfl, fin⟩) hs
theorem mapSeq_set (its : List Value) (n j : Nat) (u : Value) : Obj.mapSeq (·.setIfInBounds j u) { cls := .type "list", data := .seq its.toArray n } = { cls := .type "list", data := .seq (its.set j u).toArray n } := by
  simp [Obj.mapSeq]
theorem Inv.lst {pins : List (Addr × Obj)} {σ : St} {H : Hp} {s : Shared} {p : Addr} {xs : List V} (I : Inv X pins σ H s) (h : H p = some (.lst xs)) :
    ∃ (its : List Value) (n : Nat), Vals xs its ∧ s.heap.get? p = some { cls := .type "list", data := .seq its.toArray n } ∧ xs.length ≤ sizeLine := by
  obtain ⟨z, its, n, r, e⟩ := I.hok p _ h
  exact ⟨its, n, r, e, z⟩
theorem Inv.lstUpd {pins : List (Addr × Obj)} {σ : St} {H : Hp} {s : Shared} {p : Addr} {xs ys : List V} {its its' : List Value} {n n' : Nat} {f : Obj → Obj} (I : Inv X pins σ H s) (h : H p = some (.lst xs))
    (ho : s.heap.get? p = some { cls := .type "list", data := .seq its.toArray n }) (hf : f { cls := .type "list", data := .seq its.toArray n } = { cls := .type "list", data := .seq its'.toArray n' }) (r : Vals ys its') (hz : ys.length ≤ sizeLine) (t : Nat) :
    Inv X pins σ (upd H p (.lst ys)) { s with heap := s.heap.update p f, toks := t } := by
  have e : (s.heap.update p f).get? p = some { cls := .type "list", data := .seq its'.toArray n' } := by
    rw [Heap.get?_update_self f ho (by rw [hf] <;> rfl), hf]
  refine I.write (x := p) (e := p) (by rw [h]; trivial) (.inl rfl) (fun b u hb q => (Heap.get?_update_other _ _ (Ne.symm hb)).trans q) ⟨_, e⟩ ?_
  exact ⟨hz, its', n', r, e⟩
def rSetL : V → V → V → Hp → (Hp → Prop) → Prop := fun o i v H Q => ∃ p xs k j, o = .ref p ∧ i = .int k ∧ H p = some (.lst xs) ∧ ixN xs.length k = some j ∧ Q (upd H p (.lst (xs.set j v)))
theorem set_list : PSet X rSetL := by
  intro pins s σ H o i v ov iv u Q I ro ri rv h
  obtain ⟨p, xs, k, j, rfl, rfl, hp, hj, q⟩ := h
  cases ro
  obtain ⟨t, rfl⟩ := ri
  obtain ⟨its, n, r, ho, hz⟩ := I.lst hp
  obtain ⟨h1, h2, h3, h4⟩ := ixN_seq hj
  have hl := r.length
  have hn := line63
  have I' : Inv X pins σ (upd H p (.lst (xs.set j v))) { s with heap := s.heap.update p (Obj.mapSeq (·.setIfInBounds j u)) } :=
    I.lstUpd hp ho (mapSeq_set its n j u) (r.set rv j) (by rw [List.length_set]; exact hz) s.toks
  by_cases h0 : 0 ≤ k
  · have hk : k.toNat = j := by
      rw [seqIndex_of h0 h4] at h1
      exact Option.some.inj h1
    exact PySem.W.ki_setAt ho h0 (by omega) (by rw [List.size_toArray, ← hl]; exact h4) (by rw [hk]; exact ⟨_, I', q⟩)
  · have hk : (k + (its.toArray.size : Int)).toNat = j := by
      rw [seqIndex_neg (by omega) h3] at h1
      rw [List.size_toArray, ← hl]
      exact Option.some.inj h1
    exact PySem.W.ki_setBack ho (by omega) (by rw [List.size_toArray, ← hl]; exact h3) (by omega) (by rw [hk]; exact ⟨_, I', q⟩)
theorem slice_bounds (lo hi : Option Int) (n : Nat) : (sliceBounds lo hi none n).1 = ((HT.sIx n 0 lo : Nat) : Int) ∧ (sliceBounds lo hi none n).2.1 = ((HT.sIx n n hi : Nat) : Int) ∧ (sliceBounds lo hi none n).2.2 = 1 := by
  refine ⟨?_, ?_, rfl⟩
  · cases lo with
    | none => simp [sliceBounds, HT.sIx]
    | some i =>
      simp only [sliceBounds, HT.sIx, Option.getD_none, show (1 : Int) > 0 by decide, if_true]
      by_cases h : i < 0
      · simp only [h, if_true] <;> omega
      · simp only [h, if_false] <;> omega
  · cases hi with
    | none => simp [sliceBounds, HT.sIx]
    | some i =>
      simp only [sliceBounds, HT.sIx, Option.getD_none, show (1 : Int) > 0 by decide, if_true]
      by_cases h : i < 0
      · simp only [h, if_true] <;> omega
      · simp only [h, if_false] <;> omega
theorem slicePick_cut (its : List Value) (lo hi : Option Int) : slicePick its.toArray lo hi none = ((its.drop (HT.sIx its.length 0 lo)).take (HT.sIx its.length its.length hi - HT.sIx its.length 0 lo)).toArray := by
  obtain ⟨h1, h2, h3⟩ := slice_bounds lo hi its.toArray.size
  unfold slicePick
  rw [h1, h2, h3]
  simp only [sliceRange_one, pick_run, List.size_toArray] <;> rfl
def rSlL (K : PySem.W.Frag) : V → Option Int → Option Int → Hp → VK → Prop := fun x lo hi H Q => ∃ a xs, x = .ref a ∧ SqL K H a xs ∧ ∀ p, H p = none → Q (.ref p) (upd H p (.lst (cutV xs lo hi)))
theorem sl_list : SlR X (rSlL X.K) := by
  intro pins s σ H x v vl vu lo hi sl Q I rx hs pl pu h
  obtain ⟨a, xs, rfl, hx, q⟩ := h
  cases rx
  obtain ⟨its, r, ht, hz⟩ := I.list hx
  have hlen := r.length
  refine ⟨"list", _, slot_list_getitem.lookup, ht.isList.typeIs, ?_⟩
  refine wpAny_getItem_list_slice ht.isList hs pl pu .none (by simp) ?_ (by rw [List.size_toArray] <;> omega)
  rw [slicePick_cut, ← hlen]
  refine ⟨.ref s.heap.objs.size, _, I.laid (t' := s.toks) (o := .lst (cutV xs lo hi)) (fun b ob q => Heap.get?_push_of_some _ q) (Nat.le_refl _) ?_, rfl, q _ (I.hok.fresh (Nat.le_refl _))⟩
  exact ⟨Nat.le_trans (cutV_length xs lo hi) hz, _, 0, (r.drop (HT.sIx xs.length 0 lo)).take (HT.sIx xs.length xs.length hi - HT.sIx xs.length 0 lo), Heap.get?_push_size _ rfl⟩
def flatV : V → Bool
  | .non => true
  | .bl _ => true
  | .int _ => true
  | .str _ => true
  | _ => false
def eqV : V → V → Bool
  | .non, .non => true
  | .bl a, .bl b => a == b
  | .bl a, .int b => (if a then 1 else 0) == b
  | .int a, .bl b => a == (if b then 1 else 0)
  | .int a, .int b => a == b
  | .str a, .str b => a == b
  | _, _ => false
theorem eqAt_V {A : Around} {s : Shared} {y x : V} {u v : Value} (ry : RelV y u) (rx : RelV x v) (fy : flatV y = true) (fx : flatV x = true) : SeqAt.EqAt A s u v (eqV y x) := by
  cases y with
  | non =>
    cases ry
    cases x with
    | non => cases rx; exact SeqAt.EqAt.same _
    | bl b => cases rx; exact SeqAt.EqAt.none_bool b
    | int b => obtain ⟨t, rfl⟩ := rx; exact SeqAt.EqAt.none_int b t
    | str b => obtain ⟨t, rfl⟩ := rx; exact SeqAt.EqAt.none_str b t
    | _ => exact absurd (show false = true from fx) Bool.false_ne_true
  | bl a =>
    cases ry
    cases x with
    | non => cases rx; exact SeqAt.EqAt.bool_none a
    | bl b => cases rx; exact SeqAt.EqAt.bool_bool a b
    | int b => obtain ⟨t, rfl⟩ := rx; exact SeqAt.EqAt.bool_int a b t
    | str b => obtain ⟨t, rfl⟩ := rx; exact SeqAt.EqAt.bool_str a b t
    | _ => exact absurd (show false = true from fx) Bool.false_ne_true
  | int a =>
    obtain ⟨t', rfl⟩ := ry
    cases x with
    | non => cases rx; exact SeqAt.EqAt.int_none a t'
    | bl b => cases rx; exact SeqAt.EqAt.int_bool a t' b
    | int b => obtain ⟨t, rfl⟩ := rx; exact SeqAt.EqAt.int_int a t' b t
    | str b => obtain ⟨t, rfl⟩ := rx; exact SeqAt.EqAt.int_str a t' b t
    | _ => exact absurd (show false = true from fx) Bool.false_ne_true
  | str a =>
    obtain ⟨t', rfl⟩ := ry
    cases x with
    | non => cases rx; exact SeqAt.EqAt.str_none a t'
    | bl b => cases rx; exact SeqAt.EqAt.str_bool a t' b
    | int b => obtain ⟨t, rfl⟩ := rx; exact SeqAt.EqAt.str_int a t' b t
    | str b => obtain ⟨t, rfl⟩ := rx; exact SeqAt.EqAt.str_str a t' b t
    | _ => exact absurd (show false = true from fx) Bool.false_ne_true
  | _ => exact absurd (show false = true from fy) Bool.false_ne_true
def eqU (x : V) (u : Value) : Bool := match u with
  | .none => eqV .non x
  | .bool b => eqV (.bl b) x
  | .int i _ => eqV (.int i) x
  | .str z _ => eqV (.str z) x
  | _ => false
theorem eqU_of {x y : V} {u : Value} (r : RelV y u) (f : flatV y = true) : eqU x u = eqV y x := by
  cases y with
  | non => cases r; rfl
  | bl b => cases r; rfl
  | int i => obtain ⟨t, rfl⟩ := r; rfl
  | str z => obtain ⟨t, rfl⟩ := r; rfl
  | _ => exact absurd (show false = true from f) Bool.false_ne_true
theorem any_eqU {x : V} : ∀ {xs : List V} {us : List Value}, Vals xs us → xs.all flatV = true → us.any (eqU x) = xs.any fun y => eqV y x
  | _, _, .nil, _ => rfl
  | y :: xs, u :: us, .cons r t, f => by
    rw [List.all_cons, Bool.and_eq_true] at f
    rw [List.any_cons, List.any_cons, eqU_of r f.1, any_eqU t f.2]
theorem mem_eqAt {A : Around} {s : Shared} {x : V} {v : Value} (rx : RelV x v) (fx : flatV x = true) : ∀ {xs : List V} {us : List Value}, Vals xs us → xs.all flatV = true → ∀ u ∈ us, SeqAt.EqAt A s u v (eqU x u)
  | _, _, .nil, _ => fun u hu => by cases hu
  | y :: xs, u :: us, .cons r t, f => fun u' hu => by
    rw [List.all_cons, Bool.and_eq_true] at f
    rcases List.mem_cons.mp hu with rfl | hu
    · rw [eqU_of r f.1]; exact eqAt_V r rx f.1 fx
    · exact mem_eqAt rx fx t f.2 u' hu
def inV (x : V) (xs : List V) : Bool := xs.any fun y => eqV y x
def rIn (K : PySem.W.Frag) (neg : Bool) : R2 := fun x y H Q => ∃ p xs, y = .ref p ∧ (SqL K H p xs ∨ SqT K H p xs) ∧ flatV x = true ∧ xs.all flatV = true ∧ Q (.bl (if neg then !inV x xs else inV x xs)) H
theorem op_in_seq : OpR X (compareOp .In) (rIn X.K false) := by
  intro pins s σ H x y v u Q I rx ry h
  obtain ⟨p, xs, rfl, hq, fx, fs, q⟩ := h
  cases ry
  rcases hq with hq | hq
  · obtain ⟨its, r, pl, hz⟩ := I.list hq
    refine SeqAt.in_listAt (eqU x) pl.isList (fun w hw => mem_eqAt rx fx r fs w (by simpa using hw)) ⟨.bl _, H, I, rfl, ?_⟩
    rw [show its.toArray.any (eqU x) = its.any (eqU x) by simp, any_eqU r fs]
    exact q
  · obtain ⟨its, r, pl, hz⟩ := I.tuple hq
    refine SeqAt.in_tupleAt (eqU x) pl (fun w hw => mem_eqAt rx fx r fs w (by simpa using hw)) ⟨.bl _, H, I, rfl, ?_⟩
    rw [show its.toArray.any (eqU x) = its.any (eqU x) by simp, any_eqU r fs]
    exact q
theorem call_len_seq : CallR X (.builtin "len") (fun xs H Q => ∃ p ys, xs = [.ref p] ∧ (SqL X.K H p ys ∨ SqT X.K H p ys) ∧ Q (.int ys.length) H) := by
  intro pins s σ H xs us Q I r h
  obtain ⟨p, ys, rfl, hq, q⟩ := h
  obtain ⟨u, rfl, rx⟩ := vals1 r
  cases rx
  have hn := line63
  rcases hq with hq | hq
  · obtain ⟨its, r', pl, hz⟩ := I.list hq
    have hlen := r'.length
    exact Calls.call_len_list pl.isList (by simp only [List.size_toArray] <;> omega) ⟨.int ys.length, H, I.tok _, ⟨s.toks + 1, by rw [List.size_toArray, hlen]⟩, q⟩
  · obtain ⟨its, r', pl, hz⟩ := I.tuple hq
    have hlen := r'.length
    exact len_tuple pl (by simp only [List.size_toArray] <;> omega) ⟨.int ys.length, H, I.tok _, ⟨s.toks + 1, by rw [List.size_toArray, hlen]⟩, q⟩
theorem call_list_of : CallR X (.type "list") (fun xs H Q => ∃ p ys, xs = [.ref p] ∧ (SqL X.K H p ys ∨ SqT X.K H p ys) ∧ ∀ l, H l = none → Q (.ref l) (upd H l (.lst ys))) := by
  intro pins s σ H xs us Q I r h
  obtain ⟨p, ys, rfl, hq, q⟩ := h
  obtain ⟨u, rfl, rx⟩ := vals1 r
  cases rx
  have fin : ∀ (its : List Value), Vals ys its → ys.length ≤ sizeLine → ∀ (h' : Heap) (c' : Nat), (∀ b o', s.heap.get? b = some o' → h'.get? b = some o') →
      h'.get? s.heap.objs.size = some { cls := .type "list", dict := none, data := .seq its.toArray c', slots := #[] } → EP X pins σ Q (.ref s.heap.objs.size) { s with heap := h' } := fun its r' hz h' c' kp e =>
    ⟨.ref s.heap.objs.size, _, I.laid (t' := s.toks) kp (Nat.le_refl _) (show ObjOk X.prog X.w _ h' _ (.lst ys) from ⟨hz, its, c', r', e⟩), rfl, q _ (I.hok.fresh (Nat.le_refl _))⟩
  rcases hq with hq | hq
  · obtain ⟨its, r', pl, hz⟩ := I.list hq
    have hlen := r'.length
    obtain ⟨o, ho, hc, n, hd⟩ := pl.isList
    exact call_list_seq p (.inl rfl) ho hc hd (fun h' c' kp e => fin its r' hz h' c' kp e) (by simp only [List.size_toArray] <;> omega)
  · obtain ⟨its, r', pl, hz⟩ := I.tuple hq
    have hlen := r'.length
    obtain ⟨o, ho, hc, n, hd⟩ := pl
    exact call_list_seq p (.inr rfl) ho hc hd (fun h' c' kp e => fin its r' hz h' c' kp e) (by simp only [List.size_toArray] <;> omega)
def tyV (K : PySem.W.Frag) (T : String) (x : V) (H : Hp) : Prop := match x with
  | .str _ => T = "str"
  | .int _ => T = "int"
  | .ref p => (T = "list" ∧ ∃ xs, SqL K H p xs) ∨ (T = "tuple" ∧ ∃ o, K.lookup p = some o ∧ o.cls = .type "tuple" ∧ o.dict = none) ∨
      (T = "dict" ∧ ((∃ kvs, H p = some (.dK kvs)) ∨ ∃ kvs, H p = some (.dT kvs))) ∨ (T = "set" ∧ ∃ S n, H p = some (.set S n))
  | _ => False
theorem tyV_is {pins : List (Addr × Obj)} {σ : St} {H : Hp} {s : Shared} {T : String} {x : V} {v : Value} (I : Inv X pins σ H s) (r : RelV x v) (ty : tyV X.K T x H) :
    s.TypeIs v T ∧ ∀ a, v = .ref a → ∃ ob, s.heap.get? a = some ob ∧ ob.dict = none := by
  cases x with
  | str z =>
    obtain ⟨t, rfl⟩ := r
    cases (show T = "str" from ty)
    exact ⟨typeIs_str s z t, fun _ e => nomatch e⟩
  | int i =>
    obtain ⟨t, rfl⟩ := r
    cases (show T = "int" from ty)
    exact ⟨typeIs_int s i t, fun _ e => nomatch e⟩
  | ref p =>
    cases r
    rcases ty with ⟨rfl, xs, hq⟩ | ⟨rfl, o, hk, hc, hd⟩ | ⟨rfl, hk⟩ | ⟨rfl, S, n, hk⟩
    · obtain ⟨its, _, pl, _⟩ := I.list hq
      refine ⟨pl.isList.typeIs, fun a e => ?_⟩
      cases e
      obtain ⟨o, n, e, c, hd, _⟩ := pl
      exact ⟨o, e, hd⟩
    · refine ⟨⟨o, I.kIn p o hk, hc⟩, fun a e => ?_⟩
      cases e
      exact ⟨o, I.kIn _ o hk, hd⟩
    · have z : ∃ o, s.heap.get? p = some o ∧ o.ExactDict := by
        rcases hk with ⟨kvs, hk⟩ | ⟨kvs, hk⟩
        · obtain ⟨_, _, _, _, o, _, _, e, ex, _⟩ := I.hok p _ hk
          exact ⟨o, e, ex⟩
        · obtain ⟨_, _, _, _, o, _, _, e, ex, _⟩ := I.hok p _ hk
          exact ⟨o, e, ex⟩
      obtain ⟨o, e, ex⟩ := z
      refine ⟨⟨o, e, ex.1⟩, fun a e2 => ?_⟩
      cases e2
      exact ⟨o, e, ex.2.1⟩
    · obtain ⟨o, _, _, _, e, ex, _⟩ := I.hok p _ hk
      refine ⟨⟨o, e, ex.1⟩, fun a e2 => ?_⟩
      cases e2
      exact ⟨o, e, ex.2.1⟩
  | _ => exact False.elim ty
def tBM (K : PySem.W.Frag) (T : String) (r : V → List V → Hp → VK → Prop) (to : TE) (t : TA) : TE := fun σ H Q => to σ H fun x H1 => tyV K T x H1 ∧ t σ H1 fun xs H2 => r x xs H2 Q
variable {o e : Expr} {es : List Expr} {to : TE} {t : TA} {name : Str} {apos cpos : Pos} {T id : String} {r : V → List V → Hp → VK → Prop}
theorem pe_bm (pa : PlainAttrs T) (slot : Slot T name id) (hty : typeOf (.builtin id) = pure (.type "method_descriptor")) (hm : MtR X id r) (ho : PE X o to) (ha : PA X (e :: es) t)
    (hbase : attributeBase o name X.env (eval o X.env) = eval o X.env := by rfl)
    (hfew : ((backTo cpos (starEach (e :: es) X.env)).all (fun x => !x.1) && (backToKw cpos (keywordEach [] X.env)).all (fun x => x.1.isSome)
      && decide ((e :: es).length + ([] : List Keyword).length + (if ([] : List Keyword).isEmpty then 0 else 1) < 30)) = true := by rfl)
    (hline : (apos.endLine == cpos.line) = true := by rfl) (hs : starEach (e :: es) X.env = (false, eval e X.env) :: starEach es X.env := by rfl) (hplain : (backTo cpos (starEach es X.env)).any (·.1) = false := by rfl) :
    PE X (.Call (.Attribute o name apos) (e :: es) [] cpos) (tBM X.K T r to t) := by
  intro pins s σ H Q I h
  refine wpAny_Call_method_late hbase hfew hline rfl (thn (ho pins s σ H _ I h) fun v s1 ⟨x, H1, I1, r1, ty, q1⟩ => ?_)
  obtain ⟨h1, h2⟩ := tyV_is I1 r1 ty
  refine ⟨T, id, pa, slot, hty, h1, h2, ?_⟩
  have hA := ha cpos pins s1 σ H1 _ I1 q1
  rw [hs] at hA ⊢
  refine Calls.callWith_builtin (by show (false || (backTo cpos (starEach es X.env)).any (·.1)) = false; rw [hplain] <;> rfl) (Calls.evalArgs_plain ?_)
  exact thn hA fun us s2 ⟨vs, H2, I2, r2, q2⟩ => hm pins s2 σ H2 x vs v us Q I2 r1 r2 q2
end
end L2
namespace L2
open PySem PySem.Spec PyProof.Rows
def MtM (X : Cx) (id : String) (r : V → List V → Hp → VK → Prop) : Prop :=
  ∀ (pins : List (Addr × Obj)) (s : Shared) (σ : St) (H : Hp) (x : V) (xs : List V) (v : Value) (us : List Value) (Q : VK), Inv X pins σ H s → RelV x v → Vals xs us → r x xs H Q →
    wpAny (model X.prog X.w) X.A (call (.builtin id) (v :: us)) (EP X pins σ Q) X.xe s
theorem Vals.one : ∀ {x : V} {us : List Value}, Vals [x] us → ∃ u, us = [u] ∧ RelV x u
  | _, _, .cons r .nil => ⟨_, rfl, r⟩
theorem Vals.eraseIdx : ∀ {xs : List V} {us : List Value} (i : Nat), Vals xs us → Vals (xs.eraseIdx i) (us.eraseIdx i)
  | _, _, _, .nil => .nil
  | _, _, 0, .cons _ t => t
  | _, _, i + 1, .cons r t => .cons r (Vals.eraseIdx i t)
theorem len_erase {α : Type} : ∀ (l : List α) (i : Nat), (l.eraseIdx i).length ≤ l.length
  | [], _ => Nat.le_refl _
  | _ :: _, 0 => Nat.le_succ _
  | _ :: r, i + 1 => Nat.succ_le_succ (len_erase r i)
section
variable {X : Cx} {pins : List (Addr × Obj)} {σ : St} {H : Hp} {s : Shared} {l b : Addr} {xs ys zs : List V}
theorem Inv.lset {its its' : List Value} {n : Nat} {f : Array Value → Array Value} {t' : Nat} (I : Inv X pins σ H s) (hH : H l = some (.lst xs))
    (e : s.heap.get? l = some { cls := .type "list", data := .seq its.toArray n }) (hf : f its.toArray = its'.toArray) (hv : Vals ys its') (hz : ys.length ≤ sizeLine) :
    Inv X pins σ (upd H l (.lst ys)) { s with heap := s.heap.update l (Obj.mapSeq f), toks := t' } := by
  have q := PySem.IsL.update e f
  rw [hf] at q
  refine I.write (x := l) (e := l) (by rw [hH]; exact trivial) (.inl rfl) (fun b' u hb hu => (Heap.get?_update_other s.heap (Obj.mapSeq f) (Ne.symm hb)).trans hu) ⟨_, q⟩ ?_
  exact ⟨hz, its', _, hv, q⟩
theorem Inv.lnew {its : List Value} {t' : Nat} (I : Inv X pins σ H s) (hv : Vals ys its) (hz : ys.length ≤ sizeLine) :
    Inv X pins σ (upd H s.heap.objs.size (.lst ys)) { s with heap := s.heap.push { cls := .type "list", data := .seq its.toArray }, toks := t' } :=
  I.laid (fun _ _ q => Heap.get?_push_of_some _ q) (Nat.le_refl _) ⟨hz, its, 0, hv, Heap.get?_push_size _ rfl⟩
theorem Inv.fresh (I : Inv X pins σ H s) : H s.heap.objs.size = none := I.hok.fresh (Nat.le_refl _)
theorem Inv.lstM (I : Inv X pins σ H s) (hH : H l = some (.lst xs)) : xs.length ≤ sizeLine ∧ ∃ (its : List Value) (n : Nat), Vals xs its ∧ xs.length = its.length ∧ s.heap.get? l = some { cls := .type "list", data := .seq its.toArray n } := by
  obtain ⟨z, its, n, r, e⟩ := I.hok l _ hH
  exact ⟨z, its, n, r, r.length, e⟩
end
section
variable {X : Cx}
def rAppend : V → List V → Hp → VK → Prop := fun x vs H Q => ∃ l xs y, x = .ref l ∧ vs = [y] ∧ H l = some (.lst xs) ∧ xs.length < sizeLine ∧ Q .non (upd H l (.lst (xs ++ [y])))
theorem mt_append : MtM X "list.append" rAppend := by
  intro pins s σ H x vs v us Q I rx rv h
  obtain ⟨l, xs, y, rfl, rfl, hH, hz, q⟩ := h
  cases rx
  obtain ⟨u, rfl, ru⟩ := rv.one
  obtain ⟨z, its, n, r, hl, e⟩ := I.lstM hH
  refine call_meets F.slot_list_append ⟨_, e, rfl⟩ F.entry_list_append (F.args_list_append_2 _ _) (PySem.list_append l its.toArray n u (by rw [List.size_toArray]; omega)) ⟨e, ?_⟩
  refine ⟨.non, _, I.lset (its' := its ++ [u]) hH e (by simp) (r.append (.cons ru .nil)) ?_, rfl, q⟩
  rw [List.length_append, List.length_singleton]
  omega
def rCat : R2 := fun x y H Q => ∃ l b xs zs, x = .ref l ∧ y = .ref b ∧ H l = some (.lst xs) ∧ H b = some (.lst zs) ∧ xs.length + zs.length ≤ sizeLine ∧ ∀ p, H p = none → Q (.ref p) (upd H p (.lst (xs ++ zs)))
theorem op_cat : OpR X (binaryOp .Add) rCat := by
  intro pins s σ H x y v u Q I rx ry h
  obtain ⟨l, b, xs, zs, rfl, rfl, hH, hB, hz, q⟩ := h
  cases rx
  cases ry
  obtain ⟨z, its, n, r, hl, e⟩ := I.lstM hH
  obtain ⟨z2, its2, n2, r2, hl2, e2⟩ := I.lstM hB
  refine PySem.P.add_list e e2 ?_ (by rw [List.size_toArray, List.size_toArray]; omega)
  have ea : its.toArray ++ its2.toArray = (its ++ its2).toArray := by simp
  rw [ea]
  exact ⟨.ref _, _, I.lnew (t' := s.toks) (r.append r2) (by rw [List.length_append]; omega), rfl, q _ I.fresh⟩
end
section
variable {prog : Program} {w : World} {A : Around} {E : Value → Shared → Prop} {s : Shared}
end
section
variable {X : Cx}
end
end L2
namespace Att
open PySem PySem.W PySem.Calls PyProof.Rows
theorem ints_of_wellAll {P : Params} {h : Heap} : ∀ (ns : List Int) (vs : List Value), WellAll P h vs (ns.map WData.int) → IntsAre vs ns := by
  intro ns
  induction ns with
  | nil =>
    intro vs w
    rw [List.map_nil] at w
    cases w
    exact .nil
  | cons n ns ih =>
    intro vs w
    rw [List.map_cons] at w
    cases w with
    | cons a b =>
      cases a
      exact .cons _ _ (ih _ b)
theorem script_of {l : OpenLaw} {n : Nat} (hn : l.most = some n) {P : Params} {h : Heap} {args : List WData} {vals : List Value}
    (hpre : l.row.toRowW.claim.pre args = true) (hwl : WellAll P h vals args) :
    ∃ a vs ns, vals = [Value.ref a] ∧ args = [WData.list (ns.map WData.int)] ∧ h.get? a = some { cls := .type "list", data := .seq vs.toArray } ∧ IntsAre vs ns ∧ ns.length ≤ n := by
  have hsh : WShape.hasAll [] args [.list .int] = true := (pre_splitW hpre).1
  have hc : l.pre.holds [] { args := args } = true := (pre_splitW hpre).2
  obtain ⟨d, r, rfl, h1, h2⟩ := hasAllW_cons hsh
  obtain rfl := hasAllW_nil h2
  obtain ⟨xs, rfl, h3⟩ := hasW_list h1
  obtain ⟨ns, rfl⟩ := items_int h3
  have hlen : ns.length ≤ n := by
    unfold OpenLaw.pre at hc
    have h4 : (WTm.not (.lt (.lit (.int (n : Int))) (.len (.arg 0)))).holds [] { args := [.list (ns.map .int)] } = true := by
      have h4 := (holds_andW hc).1
      rw [hn] at h4
      exact h4
    have h5 := condW_of h4 (w_not (w_lt w_lit (w_len_list (w_arg rfl))))
    rw [List.length_map] at h5
    refine Nat.le_of_not_lt fun q => ?_
    have q' : (n : Int) < ((ns.length : Nat) : Int) := by omega
    first
      | (rw [decide_eq_true q'] at h5; exact absurd h5 (by decide))
      | (simp at h5; omega)
  cases hwl with
  | cons w1 w2 =>
    cases w2
    cases w1 with
    | list ho hall => exact ⟨_, _, ns, rfl, rfl, ho, ints_of_wellAll ns _ hall, hlen⟩
theorem post_true (l : OpenLaw) (args : List WData) : l.row.toRowW.claim.post args (.bool true) args = true :=
  postW_of (r := l.row.toRowW) (X := (true == true))
    (show WShape.has [] (.bool true) .bool = true by first | rfl | decide | simp [WShape.has, WShape.arms, WShape.armsAll])
    (show (WTm.eq .res (.lit (.bool true))).value [] { args := args, res := some (.bool true), after := args } = some (.bool (true == true)) from w_eq_bool (w_res rfl) w_lit) rfl
theorem attach_call {l : OpenLaw} {n : Nat} {q : Program} {loose : List Str} {XP : (Str → Option Value) → Heap → Prop} {YP : World → Heap → Prop} {d : DefRec}
    (hn : l.most = some n) (hdf : d.params.defaults = [])
    (call : ∀ (w : World) (s₀ s₁ : Shared) (mg mb : Str → Option Value) (fa : Addr) (o : Obj) (pm cd doc : Value) (a : Addr) (vs : List Value) (ns : List Int),
      Ground q loose [] XP w s₀ mg mb s₁.heap → YP w s₁.heap →
      s₁.heap.get? fa = some o → o.data = .func (docDef d.name d.params d.body d.scope pm cd doc) → s₁.heap.CodeRec cd d.name → mg d.name = some (.ref fa) →
      s₁.heap.get? a = some { cls := .type "list", data := .seq vs.toArray } → IntsAre vs ns → ns.length ≤ n → s₁.gens = #[] →
      codeAny (model l.prog w) callerA (.call (.ref fa) ⟨[.ref a], []⟩) (fun r s' => r = .ok (.ret (.bool true)) ∧ OldK s₁.heap s'.heap ∧ s'.os = s₁.os ∧ AllBare s'.gens) s₁) :
    WalkO q loose XP YP l.row.toRowW d [] (fun f vs => PySem.call f vs) := by
  intro w s₀ s₁ mg mb G Y fa o pm cd doc dV kV ho hd hcd hD hmg hg args vals as hpre hlay hrd hwl hlo
  obtain rfl : dV = .none := Dflts.none hD hdf
  obtain rfl : kV = .none := Dflts.noKw hD
  obtain ⟨a, vs, ns, rfl, rfl, hobj, hints, hlen⟩ := script_of hn hpre hwl
  refine enter_call (codeAny_mono (call w s₀ s₁ mg mb fa o pm cd doc a vs ns G Y ho (fd_plain hd) hcd hmg hobj hints hlen hg) fun r s' hq => ?_)
  obtain ⟨rfl, h2, h3, h4⟩ := hq
  exact ⟨.inl ⟨.bool true, .bool true, [], rfl, fun _ => rfl, .bool true, post_true l _, fun _ => ⟨List.Pairwise.nil, fun _ hm => (nomatch hm)⟩⟩, h2, h3, h4⟩
section
variable {prog : Program} {w : World} {A : Around} {E : Value → Shared → Prop} {s : Shared} {K : Frag}
end
end Att
namespace L2
open PySem PySem.Spec PyProof.Rows
theorem vals_ints : ∀ {vs : List Value} {ns : List Int}, IntsAre vs ns → Vals (ns.map V.int) vs
  | _, _, .nil => .nil
  | _, _, .cons n t h => .cons ⟨t, rfl⟩ (vals_ints h)
def Only (H : Hp) : Prop := ∀ b, H b = none ∨ ∃ o xs, H b = some (.frz o (.lst xs))
theorem law_call {P : Program} {w : World} {K : PySem.W.Frag} {mg mb : Str → Option Value} {CX : CXT} {k : Nat} {fa a : Addr} {fd : FuncData} {x : Str} {sp : Sp} {s₁ : Shared} {vs : List Value} {ns : List Int}
    (KX : K.In s₁.heap) (hns : s₁.heap.Ns mainGlobals mg) (hb : s₁.heap.Ns builtinsNs mb) (hbb : ∀ x : Str, x ≠ "__name__" → mb x = bootBuiltins x) (hlim : s₁.heap.NoLimit) (hg : s₁.gens = #[])
    (ha : s₁.heap.get? a = some { cls := .type "list", data := .seq vs.toArray }) (hi : IntsAre vs ns) (hl : ns.length ≤ sizeLine) (hr : Room k callerA)
    (F : ∀ base : Heap, K.In base → base.Ns mainGlobals mg → FnOk P w K mg base CX k fa fd [x] sp) (hbind : ∀ (s : Shared) (u : Value), BindsTo s fd ⟨[u], []⟩ [(x, u)])
    (hsp : ∀ H : Hp, Only H → SqL K H a (ns.map V.int) → sp [.ref a] H (fun v _ => v = .bl true) fun _ _ _ => False)
    (hCX : ∀ H e s', CX [] H s₁ (fun _ _ _ => False) e s' → False) :
    codeAny (model P w) callerA (.call (.ref fa) ⟨[.ref a], []⟩) (fun r s' => r = .ok (.ret (.bool true)) ∧ OldK s₁.heap s'.heap ∧ s'.os = s₁.os ∧ AllBare s'.gens) s₁ := by
  have rv := vals_ints hi
  have lenV := hi.length
  -- from an abstract heap in which nothing but the script may be tracked
  have core : ∀ H : Hp, Only H → SqL K H a (ns.map V.int) → HOk P w H s₁.heap → (∀ b, H b ≠ none → b = a) → (H a ≠ none → K.lookup a = none) →
      codeAny (model P w) callerA (.call (.ref fa) ⟨[.ref a], []⟩) (fun r s' => r = .ok (.ret (.bool true)) ∧ OldK s₁.heap s'.heap ∧ s'.os = s₁.os ∧ AllBare s'.gens) s₁ := by
    intro H hO hS hok hA hK
    have base_of : ∀ {b : Addr} {o : Obj}, s₁.heap.get? b = some o → H b = none → (hidT s₁.heap H).get? b = some o := fun e n => hidT_get e n
    have noA : ∀ {b : Addr} {o : Obj} {es : Array DictEntry} {ep : Nat}, s₁.heap.get? b = some o → o.data = .dict es ep → H b = none := fun {b o es ep} e d => by
      cases q : H b with
      | none => rfl
      | some u =>
        have e' : b = a := hA b (by rw [q]; simp)
        subst e'
        rw [ha] at e; cases e
        have d' : Data.seq vs.toArray _ = Data.dict es ep := d
        cases d'
    have nsK : ∀ {b : Addr} {m : Str → Option Value}, s₁.heap.Ns b m → (hidT s₁.heap H).Ns b m := fun {b m} ⟨o, es, ep, e, d, r⟩ => ⟨o, es, ep, base_of e (noA e d), d, r⟩
    have hKb : K.In (hidT s₁.heap H) := fun b o e => base_of (KX b o e) (by
      cases q : H b with
      | none => rfl
      | some u =>
        have e' : b = a := hA b (by rw [q]; simp)
        subst e'
        rw [hK (by rw [q]; simp)] at e; cases e)
    have hM : Mod K mg (hidT s₁.heap H) := ⟨hKb, nsK hns, ⟨mb, nsK hb, hbb⟩, let ⟨mc, h1, h2⟩ := hlim; ⟨mc, nsK h1, h2⟩⟩
    have e0 : Env0 P w K mg (hidT s₁.heap H) callerA [] s₁ H := ⟨rfl, hM, fun b o e => of_hidT e, Nat.le_of_eq (hidT_size _ _), trivial, fun b hb => absurd (show b ∈ ([] : List Addr) from hb) (by simp), hok, .of_eq hg⟩
    refine codeAny_mono ((F _ hKb (nsK hns)).run callerA [] s₁ H ⟨[.ref a], []⟩ [.ref a] [.ref a] _ _ hr e0 (hbind s₁ (.ref a)) (.cons rfl .nil) (hsp H hO hS)) fun r s' h => ?_
    cases r with
    | error e => exact (hCX H e s' h).elim
    | ok fl =>
      cases fl with
      | next => exact False.elim h
      | brk => exact False.elim h
      | cont => exact False.elim h
      | ret u =>
        obtain ⟨v, H', os, bare, un, hok', r', q⟩ := h
        have q' : v = .bl true := q
        subst q'
        obtain rfl : u = Value.bool true := r'
        refine ⟨rfl, OldK.of_keep fun b o e => ?_, os, bare⟩
        cases q : H b with
        | none => exact un.keep b o e q (by intro z; exact absurd (show b ∈ ([] : List Addr) from z) (by simp)) (by simp)
        | some u =>
          rcases hO b with z | ⟨ob, xs, z⟩
          · rw [q] at z; cases z
          · have z2 := un.frzs b ob _ z
            obtain ⟨e1, _⟩ := hok b _ z
            obtain ⟨e2, _⟩ := hok' b _ z2
            rw [e] at e1; cases e1
            exact e2
  cases hk : K.lookup a with
  | some o =>
    -- the script is one of the module's own objects
    have e := KX a o hk
    rw [ha] at e
    cases e
    refine core (fun _ => none) (fun _ => .inl rfl) (.inr ⟨_, vs.toArray, _, hk, rfl, rfl, rfl, by rw [List.size_toArray, lenV]; exact hl, by simpa using rv⟩) (fun b u z => by have z' : (none : Option HO) = some u := z; cases z') (fun b z => absurd rfl z) fun z => absurd rfl z
  | none =>
    refine core (fun b => if b = a then some (.frz { cls := .type "list", data := .seq vs.toArray } (.lst (ns.map V.int))) else none) (fun b => ?_) (.inl (.inr ⟨{ cls := .type "list", data := .seq vs.toArray }, if_pos rfl⟩)) (fun b u z => ?_) (fun b z => ?_) fun _ => hk
    · by_cases hb : b = a
      · exact .inr ⟨_, _, if_pos hb⟩
      · exact .inl (if_neg hb)
    · by_cases hb : b = a
      · have z' := (if_pos hb).symm.trans z
        cases z'
        subst hb
        exact ⟨ha, by rw [List.length_map]; exact hl, vs, _, rv, ha⟩
      · have z' := (if_neg hb).symm.trans z
        cases z'
    · by_cases hb : b = a
      · exact hb
      · exact absurd (if_neg hb) z
end L2
namespace L2
open PySem PySem.Spec PyProof.Rows
abbrev KOf {K : PySem.W.Frag} {h : Heap} (_ : K.In h) : PySem.W.Frag := K
theorem walk_of {l : PySem.W.OpenLaw} {n k : Nat} {q : Program} {loose : List Str} {XP : (Str → Option Value) → Heap → Prop} {YP : World → Heap → Prop} {d : DefRec} {K : Params → PySem.W.Frag} {CX : World → CXT} {sp : World → Sp} {x : Str}
    (hn : l.most = some n) (hn2 : n ≤ sizeLine) (hdf : d.params.defaults = []) (hr : Room k callerA)
    (hY : ∀ (w : World) (h : Heap), YP w h → (K w.params).In h)
    (F : ∀ (w : World) (mg : Str → Option Value) (fa : Addr) (h : Heap), (K w.params).In h → h.Ns mainGlobals mg → mg d.name = some (.ref fa) →
      ∃ fd : FuncData, (∀ (s : Shared) (u : Value), BindsTo s fd ⟨[u], []⟩ [(x, u)]) ∧
        ∀ base : Heap, (K w.params).In base → base.Ns mainGlobals mg → FnOk l.prog w (K w.params) mg base (CX w) k fa fd [x] (sp w))
    (hsp : ∀ (w : World) (H : Hp) (a : Addr) (ns : List Int), ns.length ≤ n → Only H → SqL (K w.params) H a (ns.map V.int) → sp w [.ref a] H (fun v _ => v = .bl true) fun _ _ _ => False)
    (hCX : ∀ (w : World) (H : Hp) (s : Shared) (e : Value) (s' : Shared), CX w [] H s (fun _ _ _ => False) e s' → False) :
    PySem.W.WalkO q loose XP YP l.row.toRowW d [] (fun f vs => PySem.call f vs) := by
  refine Att.attach_call hn hdf fun w s₀ s₁ mg mb fa o pm cd doc a vs ns G Y ho hd hcd hmg hobj hints hlen hg => ?_
  have KX := hY w _ Y
  obtain ⟨fd, hb, hF⟩ := F w mg fa _ KX G.T.g hmg
  exact law_call KX G.T.g G.T.b G.T.builtins G.T.nolimit hg hobj hints (Nat.le_trans hlen hn2) hr hF hb (fun H hO hS => hsp w H a ns hlen hO hS) fun H e s' => hCX w H s₁ e s'
theorem walk_ofK {l : PySem.W.OpenLaw} {n k : Nat} {q : Program} {loose : List Str} {XP : (Str → Option Value) → Heap → Prop} {YP : World → Heap → Prop} {d : DefRec} {K : Params → PySem.W.Frag} {CX : CXT} {sp : PySem.W.Frag → Sp} {x : Str}
    (hn : l.most = some n) (hn2 : n ≤ sizeLine) (hdf : d.params.defaults = []) (hr : Room k callerA)
    (hY : ∀ (w : World) (h : Heap), YP w h → (K w.params).In h)
    (F : ∀ (w : World) (mg : Str → Option Value) (fa : Addr) (h : Heap), (K w.params).In h → h.Ns mainGlobals mg → mg d.name = some (.ref fa) →
      ∃ fd : FuncData, (∀ (s : Shared) (u : Value), BindsTo s fd ⟨[u], []⟩ [(x, u)]) ∧
        ∀ base : Heap, (K w.params).In base → base.Ns mainGlobals mg → FnOk l.prog w (K w.params) mg base CX k fa fd [x] (sp (K w.params)))
    (hsp : ∀ (K : PySem.W.Frag) (H : Hp) (a : Addr) (ns : List Int), ns.length ≤ n → Only H → SqL K H a (ns.map V.int) → sp K [.ref a] H (fun v _ => v = .bl true) fun _ _ _ => False)
    (hCX : ∀ (H : Hp) (s : Shared) (e : Value) (s' : Shared), CX [] H s (fun _ _ _ => False) e s' → False) :
    PySem.W.WalkO q loose XP YP l.row.toRowW d [] (fun f vs => PySem.call f vs) :=
  walk_of (K := K) (CX := fun _ => CX) (sp := fun w => sp (K w.params)) hn hn2 hdf hr hY F (fun w H a ns h1 h2 h3 => hsp (K w.params) H a ns h1 h2 h3) fun _ H s e s' => hCX H s e s'
end L2
namespace L2
open PySem PySem.Spec PyProof.Rows
def inClass (s : Stmt) (j : Nat) : Stmt := match s with
  | .ClassDef _ _ _ body _ _ _ _ _ _ _ => body.getD j (.Pass ⟨0, 0, 0, 0⟩)
  | _ => .Pass ⟨0, 0, 0, 0⟩
def defArgs (s : Stmt) : Arguments := match s with
  | .FunctionDef _ a _ _ _ _ _ _ _ _ => a
  | _ => { posonlyargs := [], args := [], vararg := none, kwonlyargs := [], kw_defaults := [], kwarg := none, defaults := [] }
def defBody (s : Stmt) : List Stmt := match s with
  | .FunctionDef _ _ b _ _ _ _ _ _ _ => b
  | _ => []
def defScope (s : Stmt) : Scope := match s with
  | .FunctionDef _ _ _ _ _ _ sc _ _ _ => sc
  | _ => { kind := .function, names := [], isGenerator := false, isCoroutine := false }
abbrev CX0 : CXT := fun _ _ _ _ _ _ => False
abbrev E0 : XK := fun _ _ _ => False
theorem pass0 {X : Cx} : Passes CX0 X E0 := fun _ _ _ _ _ _ _ h => h.elim
structure Fun (K : PySem.W.Frag) (x qual : Str) (st : Stmt) (f : Addr) (fd : FuncData) : Prop where
  ex : ∃ (oc : Value) (od : Option Addr) (kV doc pm : Value) (an : Option Addr) (cdv ct : Value) (osl : Array (Option Value)),
    fd = PySem.W.fnOf x qual (defArgs st) (defBody st) (defScope st) .none kV doc pm an cdv ct ∧ K.lookup f = some ⟨oc, od, .func fd, osl⟩ ∧ PySem.W.codeIn K cdv qual = true
  kp : PySem.W.keepIn K (.ref f) = true
section
variable {P : Program} {w : World} {K : PySem.W.Frag} {mg : Str → Option Value} {base : Heap}
theorem Fun.ok {x qual : Str} {st : Stmt} {f : Addr} {fd : FuncData} {N ps : List Str} {k : Nat} {sp : Sp} (F : Fun K x qual st f fd) (S : FnScope N ps (defScope st)) (len : ∀ vs H Q E, sp vs H Q E → vs.length = ps.length)
    (hbody : ∀ (cdv : Value) (A : Around) (outer : List Env) (s : Shared) (H : Hp) (vs : List V) (Q : VK) (E : XK), Room k (A.deeper (envOfC qual (defScope st) s.heap.objs.size f cdv)) → sp vs H Q E →
      ∃ t, PSs (cxOf CX0 P w K mg base N qual (defScope st) f cdv A outer s H E).nox (defBody st) t ∧ t { nx := fun _ H' => Q .non H', rt := Q } (start N vs) H) : FnOk P w K mg base CX0 (k + 1) f fd ps sp := by
  obtain ⟨oc, od, kV, doc, pm, an, cdv, ct, osl, rfl, lk, hcd⟩ := F.ex
  refine fn_of lk hcd S len fun A outer s H vs Q E hr hsp => ?_
  obtain ⟨t, h, q⟩ := hbody cdv A outer s H vs Q E hr hsp
  exact ⟨t, h.nox, q⟩
theorem Fun.binds {x qual : Str} {st : Stmt} {f : Addr} {fd : FuncData} {ps : List Str} (F : Fun K x qual st f fd)
    (h : ∀ (kV doc pm : Value) (an : Option Addr) (cdv ct : Value) (us : List Value), us.length = ps.length → bindArgs (PySem.W.fnOf x qual (defArgs st) (defBody st) (defScope st) .none kV doc pm an cdv ct) ⟨us, []⟩ = pure (ps.zip us)) : Binds K fd ps [] := by
  obtain ⟨oc, od, kV, doc, pm, an, cdv, ct, osl, rfl, lk, hcd⟩ := F.ex
  exact .all (h kV doc pm an cdv ct)
theorem fun_mk {x qual : Str} {st : Stmt} {f : Addr} {oc : Value} {od an : Option Addr} {osl : Array (Option Value)} {kV doc pm cdv ct : Value} (l : K.lookup f = some ⟨oc, od, .func (PySem.W.fnOf x qual (defArgs st) (defBody st) (defScope st) .none kV doc pm an cdv ct), osl⟩)
    (c : PySem.W.codeIn K cdv qual = true) (k : PySem.W.keepIn K (.ref f) = true) : Fun K x qual st f (PySem.W.fnOf x qual (defArgs st) (defBody st) (defScope st) .none kV doc pm an cdv ct) := ⟨⟨oc, od, kV, doc, pm, an, cdv, ct, osl, rfl, l, c⟩, k⟩
end
theorem hu_of {A : Around} {k : Nat} (hr : Room k A) : A.units + 1 < cLine := Nat.lt_of_le_of_lt (Nat.add_le_add_left (by decide : 1 ≤ 64) _) hr.units
section
variable {X : Cx}
theorem pv (i : Nat) {x : Str} {pos : Pos} (hN : X.N[i]? = some x := by rfl) (hv : Vis X.env.scope x := by first | exact Or.inl rfl | exact Or.inr (Or.inl rfl) | exact Or.inr (Or.inr rfl)) (hd : (x == ("__debug__" : Str)) = false := by decide)
    (hcd : (x == ("__classdict__" : Str)) = false := by decide) : PE X (.Name x pos) (tVar i) := pe_var hN hv hd hcd
theorem call_lenD : CallR X (.builtin "len") (fun xs H Q => ∃ a kvs, xs = [V.ref a] ∧ H a = some (.dK kvs) ∧ Q (.int kvs.length) H) := by
  intro pins s σ H xs us Q I r h
  obtain ⟨a, kvs, rfl, ha, q⟩ := h
  obtain ⟨u, rfl, ru⟩ := vals1 r
  cases ru
  exact d_len I (.inl ha) fun t s' I' => ⟨.int kvs.length, H, I', ⟨t, rfl⟩, q⟩
end
theorem iteF {A B : Prop} (h : B) : if false = true then A else B := by
  rw [if_neg Bool.false_ne_true]
  exact h
theorem iteT {A B : Prop} (h : A) : if true = true then A else B := by
  rw [if_pos rfl]
  exact h
theorem ite2 {c A B : Prop} [Decidable c] (h1 : c → A) (h2 : ¬ c → B) : if c then A else B := by
  by_cases h : c
  · rw [if_pos h]
    exact h1 h
  · rw [if_neg h]
    exact h2 h
def Same (H H' : Hp) : Prop := ∀ b o, H b = some o → H' b = some o
theorem Same.refl (H : Hp) : Same H H := fun _ _ h => h
theorem Same.trans {H H1 H2 : Hp} (a : Same H H1) (b : Same H1 H2) : Same H H2 := fun c o h => b c o (a c o h)
theorem Same.free {H H' : Hp} (e : Same H H') {l : Addr} (h : H' l = Option.none) : H l = Option.none := by
  cases q : H l with
  | none => rfl
  | some o =>
    rw [e l o q] at h
    cases h
section
variable {κ : Type} [DecidableEq κ]
end
end L2
set_option Elab.async false
set_option linter.all false
set_option maxRecDepth 100000
namespace L2
open PySem PySem.Spec PyProof.Rows
def clGo (env : Env) : List (Str × NameKind) → List (Str × Addr) → List (Str × Addr)
  | [], cs => cs
  | (n, k) :: r, cs => clGo env r (if (k == NameKind.free) = true then (n, (env.cells.lookup n).getD 0) :: cs else cs)
theorem clGo_pure {env : Env} : ∀ (ns : List (Str × NameKind)) (cs : List (Str × Addr)), (∀ y ∈ ns, y.2 = .free → ∃ c, env.cells.lookup y.1 = some c) →
    (forIn (m := Sem) ns cs fun y cs => if (y.2 == NameKind.free) = true then (do let a ← cellOf env y.1; pure (ForInStep.yield ((y.1, a) :: cs))) else pure (ForInStep.yield cs)) = pure (clGo env ns cs)
  | [], cs, _ => rfl
  | (n, k) :: r, cs, h => by
    rw [List.forIn_cons]
    have hr : ∀ y ∈ r, y.2 = .free → ∃ c, env.cells.lookup y.1 = some c := fun y hy => h y (List.mem_cons_of_mem _ hy)
    by_cases hk : (k == NameKind.free) = true
    · obtain ⟨c, hc⟩ := h (n, k) List.mem_cons_self (beq_iff_eq.mp hk)
      have e1 : cellOf env n = pure c := by unfold cellOf; rw [show env.cells.lookup n = some c from hc]
      simp only [hk, if_true, e1, pure_bind]
      rw [clGo_pure r _ hr]
      show _ = pure (clGo env r (if (k == NameKind.free) = true then (n, (env.cells.lookup n).getD 0) :: cs else cs))
      rw [if_pos hk, show env.cells.lookup n = some c from hc]
      rfl
    · simp only [hk, Bool.false_eq_true, if_false, pure_bind]
      rw [clGo_pure r _ hr]
      show _ = pure (clGo env r (if (k == NameKind.free) = true then (n, (env.cells.lookup n).getD 0) :: cs else cs))
      rw [if_neg hk]
theorem closure_of {scope : Scope} {env : Env} (h : ∀ y ∈ scope.names, y.2 = .free → ∃ c, env.cells.lookup y.1 = some c) : closureFor scope env = pure (clGo env scope.names []) := by
  have e := clGo_pure scope.names [] h
  unfold closureFor
  refine Eq.trans ?_ (e.trans rfl)
  first
    | rfl
    | (simp only [bind_pure]; rfl)
    | simp
theorem clGo_look {env : Env} {x : Str} {c : Addr} : ∀ (ns : List (Str × NameKind)) (cs : List (Str × Addr)), (∀ y ∈ ns, y.2 = .free → ∃ c, env.cells.lookup y.1 = some c) →
    (∀ c, cs.lookup x = some c → env.cells.lookup x = some c) → (clGo env ns cs).lookup x = some c → env.cells.lookup x = some c
  | [], cs, _, hc, e => hc c e
  | (n, k) :: r, cs, h, hc, e => by
    refine clGo_look r _ (fun y hy => h y (List.mem_cons_of_mem _ hy)) (fun c' e' => ?_) e
    by_cases hk : (k == NameKind.free) = true
    · rw [if_pos hk] at e'
      rw [List.lookup_cons] at e'
      cases hx : x == n with
      | true =>
        rw [hx] at e'
        obtain ⟨c2, h2⟩ := h (n, k) List.mem_cons_self (beq_iff_eq.mp hk)
        have h2' : env.cells.lookup n = some c2 := h2
        rw [h2'] at e'
        rw [beq_iff_eq.mp hx, h2']
        exact e'
      | false =>
        rw [hx] at e'
        exact hc c' e'
    · rw [if_neg hk] at e'
      exact hc c' e'
theorem clGo_has {env : Env} {x : Str} : ∀ (ns : List (Str × NameKind)) (cs : List (Str × Addr)), ((x, NameKind.free) ∈ ns ∨ (∃ c, cs.lookup x = some c)) → ∃ c, (clGo env ns cs).lookup x = some c
  | [], cs, h => by
    rcases h with h | h
    · cases h
    · exact h
  | (n, k) :: r, cs, h => by
    refine clGo_has r _ ?_
    rcases h with h | ⟨c, h⟩
    · rcases List.mem_cons.mp h with e | e
      · cases e
        refine .inr ⟨(env.cells.lookup x).getD 0, ?_⟩
        rw [if_pos (by rfl), List.lookup_cons]
        simp
      · exact .inl e
    · right
      by_cases hk : (k == NameKind.free) = true
      · rw [if_pos hk, List.lookup_cons]
        cases hx : x == n with
        | true => exact ⟨_, rfl⟩
        | false => exact ⟨c, h⟩
      · rw [if_neg hk]
        exact ⟨c, h⟩
def blk (X : Cx) (scope : Scope) (Nc : List Str) (C : Addr) (s₂ : Shared) (H₂ : Hp) (ex : List Addr) (pins : List (Addr × Obj)) : Cx :=
  { prog := X.prog, w := X.w, K := X.K, mg := X.mg, base := X.base, A := X.A, N := Nc, s₀ := s₂, H₀ := H₂, env := compEnvC scope (clGo X.env scope.names []) C X.env, outer := X.stack, stack := X.stack, ex := ex,
    fn := fun _ => false, calm := X.calm, pn := X.pn ++ pins, xe := fun _ _ => False }
structure BlkScope (X : Cx) (scope : Scope) (x : Str) (Nf : List Str) (js : List Nat) : Prop where
  kind : scope.kind = .function
  nocell : ∀ y ∈ scope.names, y.2 ≠ .cell
  loc : ∀ y ∈ scope.names, y.2 = .local → scope.names.lookup y.1 = some .local
  own : scope.names.lookup x = some .local
  nd : (x :: Nf).Nodup
  free : ∀ y ∈ scope.names, y.2 = .free → X.env.kindOf y.1 = some .cell
  slots : Nf.length = js.length
  at_ : ∀ (i : Nat) (z : Str), Nf[i]? = some z → ∃ j : Nat, js[i]? = some j ∧ X.N[j]? = some z ∧ scope.names.lookup z = some .free ∧ X.env.scope.names.lookup z = some .cell
section
variable {X : Cx} {scope : Scope} {x : Str} {Nf : List Str} {js : List Nat} {C : Addr} {s₂ : Shared} {H₂ : Hp} {ex : List Addr} {pins : List (Addr × Obj)} {σ : St}
theorem BlkScope.hasCell (B : BlkScope X scope x Nf js) (ok : X.Ok) : ∀ y ∈ scope.names, y.2 = .free → ∃ c, X.env.cells.lookup y.1 = some c := fun y hy hf => ok.has y.1 (.inl (B.free y hy hf))
theorem BlkScope.look (B : BlkScope X scope x Nf js) (ok : X.Ok) {z : Str} {c : Addr} (e : (clGo X.env scope.names []).lookup z = some c) : X.env.cells.lookup z = some c :=
  clGo_look scope.names [] (B.hasCell ok) (fun c h => by simp at h) e
theorem relabel_free {sc : Scope} {env : Env} {z : Str} : ∀ {ns : List (Str × NameKind)}, (∀ y ∈ ns, y.2 ≠ .cell) →
    ((ns.map fun (n, k) => if (k == NameKind.free && env.scope.kind == .function && env.kindOf n == some .cell) then (n, NameKind.cell) else (n, k)).lookup z = some .cell ∨
     (ns.map fun (n, k) => if (k == NameKind.free && env.scope.kind == .function && env.kindOf n == some .cell) then (n, NameKind.cell) else (n, k)).lookup z = some .free) → (z, NameKind.free) ∈ ns
  | [], _, h => by simp at h
  | (n, k) :: r, hc, h => by
    have ih := @relabel_free sc env z r fun y hy => hc y (List.mem_cons_of_mem _ hy)
    rw [List.map_cons, List.lookup_cons] at h
    by_cases hk : (k == NameKind.free && env.scope.kind == .function && env.kindOf n == some .cell) = true
    · have kf : k = .free := by
        rw [Bool.and_eq_true, Bool.and_eq_true] at hk
        exact beq_iff_eq.mp hk.1.1
      subst kf
      simp only [hk, if_true] at h
      cases hz : z == n with
      | true => rw [beq_iff_eq.mp hz]; exact List.mem_cons_self
      | false => rw [hz] at h; exact List.mem_cons_of_mem _ (ih h)
    · simp only [hk, Bool.false_eq_true, if_false] at h
      cases hz : z == n with
      | true =>
        rw [hz] at h
        have h' : k = .cell ∨ k = .free := by
          rcases h with h | h
          · exact .inl (Option.some.inj h)
          · exact .inr (Option.some.inj h)
        rcases h' with e | e
        · exact absurd e (hc (n, k) List.mem_cons_self)
        · rw [beq_iff_eq.mp hz, e]; exact List.mem_cons_self
      | false => rw [hz] at h; exact List.mem_cons_of_mem _ (ih h)
theorem relabel_cell {env : Env} {z : Str} (hk : env.scope.kind = .function) (hz : env.kindOf z = some .cell) : ∀ {ns : List (Str × NameKind)}, (∀ y ∈ ns, y.2 = .local → ns.lookup y.1 = some .local) → (∀ y ∈ ns, y.2 ≠ .cell) → ns.lookup z = some .free →
    (ns.map fun (n, k) => if (k == NameKind.free && env.scope.kind == .function && env.kindOf n == some .cell) then (n, NameKind.cell) else (n, k)).lookup z = some .cell
  | [], _, _, h => by simp at h
  | (n, k) :: r, _, _, h => by
    have ih : ∀ {ns : List (Str × NameKind)}, ns.lookup z = some .free → (ns.map fun (n, k) => if (k == NameKind.free && env.scope.kind == .function && env.kindOf n == some .cell) then (n, NameKind.cell) else (n, k)).lookup z = some .cell := by
      intro ns
      induction ns with
      | nil => intro h; simp at h
      | cons p ps ihp =>
        intro h
        obtain ⟨n', k'⟩ := p
        rw [List.lookup_cons] at h
        rw [List.map_cons, List.lookup_cons]
        cases hx : z == n' with
        | true =>
          rw [hx] at h
          have e : k' = .free := Option.some.inj h
          subst e
          rw [← beq_iff_eq.mp hx]
          simp [hk, hz]
        | false =>
          rw [hx] at h
          by_cases hc : (k' == NameKind.free && env.scope.kind == .function && env.kindOf n' == some .cell) = true
          · simp only [hc, if_true, hx]; exact ihp h
          · simp only [hc, Bool.false_eq_true, if_false, hx]; exact ihp h
    exact ih h
theorem BlkScope.ok (B : BlkScope X scope x Nf js) {H : Hp} {s : Shared} (I : Inv X pins σ H s) (hC : s.heap.objs.size ≤ C) {fp : List Addr} (hf : ∀ b ∈ fp, FpOk X pins H b) (ho : ∀ b ∈ fp, ∃ o, s.heap.get? b = some o ∧ ∀ v, o.data ≠ .cell v) :
    (blk X scope (x :: Nf) C s H fp pins).Ok where
  mod := I.ok.mod
  kind := B.kind
  glob := I.ok.glob
  blt := I.ok.blt
  above := hC
  inj := fun y z c h1 h2 => I.ok.inj y z c (B.look I.ok h1) (B.look I.ok h2)
  has := fun z hz => clGo_has scope.names [] (.inl (relabel_free (sc := scope) B.nocell hz))
  cab := fun y c h _ => Bool.noConfusion h
  hd := fun h => I.ok.hd h
  frames := I.ok.frames
  stk := .inl rfl
  exf := fun b hb => by
    obtain ⟨o, e, d⟩ := ho b hb
    refine ⟨Nat.ne_of_lt (Nat.lt_of_lt_of_le (Heap.lt_size e) hC), fun z c h => (hf b hb).2.2.2.2.1 z c (B.look I.ok h)⟩
  bs := I.bs
  bsz := Nat.le_trans I.ok.bsz I.sz
  noex := fun b o e hb => by
    rcases (hf b hb).2.2.2.1 with z | z
    · exact I.ok.noex b o e z
    · exact absurd (Nat.lt_of_lt_of_le (Heap.lt_size e) (Nat.le_trans I.ok.bsz z)) (Nat.lt_irrefl _)
  exfs := fun b hb hs => by
    rcases List.mem_cons.mp (I.stkSub b hs) with e | e
    · exact (hf b hb).2.1 e
    · exact (hf b hb).2.2.1 e
  funs := I.stack
  frf := I.stkFree
end
end L2
set_option Elab.async false
set_option linter.all false
set_option maxRecDepth 100000
namespace L2
open PySem PySem.Spec PyProof.Rows
section
variable {X : Cx} {scope : Scope} {x : Str} {Nf : List Str} {js : List Nat} {pins : List (Addr × Obj)} {σ : St}
def blkSt (js : List Nat) (σ : St) (v : Option V) : St := v :: js.map fun j => (σ[j]?).getD none
theorem BlkScope.inv (B : BlkScope X scope x Nf js) {H : Hp} {s : Shared} (I : Inv X pins σ H s) {fp : List Addr} (hf : ∀ b ∈ fp, FpOk X pins H b) (ho : ∀ b ∈ fp, ∃ o, s.heap.get? b = some o ∧ ∀ v, o.data ≠ .cell v)
    {h₁ : Heap} {tk : Nat} (hn : h₁.Ns (s.heap.objs.size + 1) (fun _ => none)) (hs : Heap.SameBut (s.heap.objs.size + 1) ((s.heap.push { cls := .type "list", data := .seq #[] }).push { cls := .type "dict", data := .dict #[] }) h₁) :
    Inv (blk X scope (x :: Nf) (s.heap.objs.size + 1) s H fp pins) [] (blkSt js σ none) (upd H s.heap.objs.size (.lst [])) { s with heap := h₁, toks := tk } := by
  have old : ∀ b o, s.heap.get? b = some o → h₁.get? b = some o := fun b o e =>
    hs.extBut b o (Nat.ne_of_lt (Nat.lt_succ_of_lt (Heap.lt_size e))) (Heap.get?_push_of_some _ (Heap.get?_push_of_some _ e))
  have hD : h₁.get? s.heap.objs.size = some { cls := .type "list", data := .seq #[] } := hs.extBut _ _ (Nat.ne_of_lt (Nat.lt_succ_self _)) (Heap.get?_push_of_some _ (Heap.get?_push_size _ rfl))
  have fD : H s.heap.objs.size = none := I.hok.fresh (Nat.le_refl _)
  have fC : H (s.heap.objs.size + 1) = none := I.hok.fresh (Nat.le_succ _)
  have cellAt : ∀ z c, (clGo X.env scope.names []).lookup z = some c → c < s.heap.objs.size := fun z c e => by
    obtain ⟨v, q⟩ := I.cell z c (B.look I.ok e)
    exact q.lt
  have J := I.laid (a := s.heap.objs.size) (o := .lst []) (h' := h₁) (t' := tk) old (Nat.le_refl _) ⟨Nat.zero_le _, [], 0, .nil, hD⟩
  refine ⟨B.ok I (Nat.le_succ _) hf ho, rfl, I.bare, Un.laid old (Nat.le_refl _) fD, ⟨_, hn, fun i z v h1 h2 h3 => ?_⟩, fun z c e => ?_, ?_, fun z c e => ?_, fun p hp => ?_, J.hok, ?_⟩
  · -- a name of the block that has a value: one of the def's
    cases i with
    | zero =>
      have h2' : some (none : Option V) = some (some v) := h2
      cases h2'
    | succ i =>
      have h1' : Nf[i]? = some z := h1
      have h2' : (js.map fun j => (σ[j]?).getD none)[i]? = some (some v) := h2
      obtain ⟨j, e1, e2, e3, e4⟩ := B.at_ i z h1'
      rw [List.getElem?_map, e1] at h2'
      have h2'' : (σ[j]?).getD none = some v := Option.some.inj h2'
      have e5 : σ[j]? = some (some v) := by
        cases q : σ[j]? with
        | none => rw [q] at h2''; cases h2''
        | some y => rw [q] at h2''; exact congrArg some h2''
      obtain ⟨m, hm, hl⟩ := I.loc
      obtain ⟨u, r, l⟩ := hl j z v e2 e5 (.inr (.inl e4))
      refine ⟨u, r, .inr ⟨.inl ?_, ?_⟩⟩
      · exact relabel_cell I.ok.kind e4 B.loc B.nocell e3
      · rcases l with ⟨k, _⟩ | ⟨_, c, hc, q⟩
        · rw [show X.env.kindOf z = X.env.scope.names.lookup z from rfl, e4] at k; cases k
        · obtain ⟨c', hc'⟩ := clGo_has (env := X.env) (x := z) scope.names [] (.inl (PySem.mem_of_lookup e3))
          have e6 := B.look I.ok hc'
          rw [hc] at e6
          cases e6
          exact ⟨c, hc', q.keeps old⟩
  · obtain ⟨v, q⟩ := I.cell z c (B.look I.ok e)
    exact ⟨v, q.keeps old⟩
  · show upd H s.heap.objs.size (.lst []) (s.heap.objs.size + 1) = none
    rw [upd_ne (Nat.ne_of_gt (Nat.lt_succ_self _))]
    exact fC
  · rw [upd_ne (Nat.ne_of_lt (cellAt z c e))]
    exact I.freeC z c (B.look I.ok e)
  · have hp' : p ∈ X.pn ++ pins := by
      have : p ∈ (X.pn ++ pins) ++ [] := hp
      rwa [List.append_nil] at this
    obtain ⟨e, n, ne, nf, d⟩ := I.pin p hp'
    refine ⟨old _ _ e, ?_, Nat.ne_of_lt (Nat.lt_succ_of_lt (Heap.lt_size e)), fun z => ?_, d⟩
    · rw [upd_ne (Nat.ne_of_lt (Heap.lt_size e))]; exact n
    · rcases List.mem_cons.mp (I.stkSub p.1 z) with q | q
      · exact ne q
      · exact nf q
  · show (none :: js.map _).length = (x :: Nf).length
    rw [List.length_cons, List.length_map, List.length_cons, B.slots]
theorem BlkScope.back (B : BlkScope X scope x Nf js) {H H' : Hp} {s s' : Shared} {fp : List Addr} {C : Addr} {pl : List (Addr × Obj)} {τ : St} (I : Inv X pins σ H s) (hf : ∀ b ∈ fp, FpOk X pins H b) (hC : s.heap.objs.size ≤ C)
    (J : Inv (blk X scope (x :: Nf) C s H fp pins) pl τ H' s') {h' : Heap} (hs : Heap.SameBut C s'.heap h') : Inv X pins σ H' { s' with heap := h' } := by
  have nC : H' C = none := J.free
  refine I.call' (s' := { s' with heap := h' }) (ch := fp) J.os ⟨fun b o e n hb hx => ?_, fun b o e n hb hx => ?_, J.base.free, fun b o e hx => ?_, J.base.tups, J.base.frzs, J.base.tbls⟩ ?_ J.bare (fun b hb => ?_)
  · exact hs.extBut b o (Nat.ne_of_lt (Nat.lt_of_lt_of_le (Heap.lt_size e) hC)) (J.base.keep b o e n hb hx)
  · obtain ⟨sl, e1⟩ := J.base.slot b o e n hb hx
    exact ⟨sl, hs.extBut b _ (Nat.ne_of_lt (Nat.lt_of_lt_of_le (Heap.lt_size e) hC)) e1⟩
  · obtain ⟨o', e1⟩ := J.base.there b o e hx
    exact ⟨o', hs.extBut b _ (Nat.ne_of_lt (Nat.lt_of_lt_of_le (Heap.lt_size e) hC)) e1⟩
  · intro a o e
    refine (J.hok a o e).stay (fun b u hb q => hs.extBut b u ?_ q) (fun _ q => q) fun _ _ q => q
    rcases hb with rfl | hb
    · exact fun z => by rw [z, nC] at e; cases e
    · exact fun z => by rw [z, nC] at hb; cases hb
  · obtain ⟨_, f1, f2, f3, f4, f5⟩ := hf b hb
    exact ⟨f3, f1, f4, f5⟩
end
end L2
set_option Elab.async false
set_option linter.all false
set_option maxRecDepth 100000
namespace L2
open PySem PySem.Spec PyProof.Rows
inductive PTs (X : Cx) : List Expr → TT → Prop where
  | nil : PTs X [] (fun _ H Q => Q true H)
  | one {c : Expr} {t : TT} (h : PT X c t) : PTs X [c] t
theorem PTs.run {X : Cx} {ifs : List Expr} {t : TT} (h : PTs X ifs t) {pins : List (Addr × Obj)} {s : Shared} {σ : St} {H : Hp} {Q : Bool → Hp → Prop} (I : Inv X pins σ H s) (q : t σ H Q) :
    wpAny (model X.prog X.w) X.A (forIn ifs true fun c r => if r = true then do let ok ← isTrue c X.env (eval c X.env); pure (ForInStep.yield ok) else pure (ForInStep.yield r)) (TP X pins σ Q) X.xe s := by
  cases h with
  | nil => exact wpAny_pure ⟨H, I, q⟩
  | @one c t h =>
    rw [List.forIn_cons]
    refine wpAny_bind ?_
    rw [if_pos rfl]
    refine wpAny_bind (thn (h pins s σ H Q I q) fun b s1 q1 => wpAny_pure ?_)
    exact wpAny_pure q1
def tComp (js : List Nat) (wi : TI) (tc : TT) (te : TE) : TE := fun σ H Q => wi σ H fun J H1 => ∀ D, H1 D = none → ∃ W : Nat → Nat → Hp → Prop, (∃ m, W 0 m (upd H1 D (.lst []))) ∧ ∀ i m H2, W i m H2 →
  (J.stop i H2 ∧ Q (.ref D) H2) ∨ (J.go i H2 ∧ ∀ v H3, J.yld i H2 v H3 → tc (blkSt js σ (some v)) H3 fun b H4 =>
    if b = true then te (blkSt js σ (some v)) H4 fun y H5 => ∃ ys, H5 D = some (.lst ys) ∧ ys.length < sizeLine ∧ ∃ m', m' < m ∧ W (i + 1) m' (upd H5 D (.lst (ys ++ [y])))
    else ∃ m', m' < m ∧ W (i + 1) m' H4)
section
variable {X : Cx} {scope : Scope} {x : Str} {Nf : List Str} {js : List Nat} {wi : TI} {tc : TT} {te : TE} {elt iter : Expr} {ifs : List Expr} {px pos : Pos}
theorem comp_core (use : Option (Value → Sem Unit)) {pins : List (Addr × Obj)} {s₂ : Shared} {σ : St} {H₂ : Hp} {it : Addr} {fp : List Addr} {tn : Nat → Heap → Prop} {J : It} {E : Value → Shared → Prop} {QQ : Value → Addr → Result → Shared → Prop} {Q : VK} {tg0 : Expr} (htg : tg0 = .Name x px)
    (B : BlkScope X scope x Nf js) (hc : X.calm = true)
    (ht : ∀ C s₂ H₂ ex pins, PTs (blk X scope (x :: Nf) C s₂ H₂ ex pins) ifs tc) (he : ∀ C s₂ H₂ ex pins, PE (blk X scope (x :: Nf) C s₂ H₂ ex pins) elt te)
    (I : Inv X pins σ H₂ s₂) (T : Turn X.prog X.w X.K tg0 J fp it tn) (st : tn 0 s₂.heap) (hf : ∀ b ∈ fp, FpOk X pins H₂ b)
    (hW : ∀ D, H₂ D = none → ∃ W : Nat → Nat → Hp → Prop, (∃ m, W 0 m (upd H₂ D (.lst []))) ∧ ∀ i m H2, W i m H2 →
      (J.stop i H2 ∧ Q (.ref D) H2) ∨ (J.go i H2 ∧ ∀ v H3, J.yld i H2 v H3 → tc (blkSt js σ (some v)) H3 fun b H4 =>
        if b = true then te (blkSt js σ (some v)) H4 fun y H5 => ∃ ys, H5 D = some (.lst ys) ∧ ys.length < sizeLine ∧ ∃ m', m' < m ∧ W (i + 1) m' (upd H5 D (.lst (ys ++ [y])))
        else ∃ m', m' < m ∧ W (i + 1) m' H4))
    (hQ : ∀ s' H', (∀ h', Heap.SameBut (s₂.heap.objs.size + 1) s'.heap h' → Inv X pins σ H' { s' with heap := h' }) → (∃ m, s'.heap.Ns (s₂.heap.objs.size + 1) m) → H' (s₂.heap.objs.size + 1) = none → Q (.ref s₂.heap.objs.size) H' → QQ (.ref s₂.heap.objs.size) (s₂.heap.objs.size + 1) (.ok .next) s') :
    wpAny (model X.prog X.w) X.A (newList []) (fun acc s₃ => wpAny (model X.prog X.w) X.A (newFunctionEnv scope X.env.globals (clGo X.env scope.names []) [] X.env.qual none .none (some X.env)) (fun cenv s₄ =>
      codeAny (model X.prog X.w) X.A (.compStart (.ListComp elt [⟨.Name x px, iter, ifs, 0⟩] scope pos) 0 (.ref it) acc { cenv with scope := relabel scope X.env }) (QQ acc cenv.locals) s₄) E s₃) E s₂ := by
  subst htg
  refine wpAny_newObj_type (wpAny_newFunctionEnv B.nocell (by intro y hy; simp at hy) (fun h₁ hns₁ hsb₁ => ?_) B.kind)
  dsimp only at hns₁ hsb₁ ⊢
  have hsz : (s₂.heap.push { cls := .type "list", dict := none, data := .seq ([] : List Value).toArray }).objs.size = s₂.heap.objs.size + 1 := Heap.size_push _ _
  rw [hsz] at hns₁ hsb₁ ⊢
  have ho : ∀ b ∈ fp, ∃ o, s₂.heap.get? b = some o ∧ ∀ v, o.data ≠ .cell v := T.obj 0 _ st
  have hD0 : H₂ s₂.heap.objs.size = none := I.hok.fresh (Nat.le_refl _)
  obtain ⟨W, ⟨m0, w0⟩, turn⟩ := hW _ hD0
  have old : ∀ b o, s₂.heap.get? b = some o → h₁.get? b = some o := fun b o e =>
    hsb₁.extBut b o (Nat.ne_of_lt (Nat.lt_succ_of_lt (Heap.lt_size e))) (Heap.get?_push_of_some _ (Heap.get?_push_of_some _ e))
  have st1 : tn 0 h₁ := T.keep _ _ _ st fun b _ o e => old b o e
  have I1 : ∀ tk, Inv (blk X scope (x :: Nf) (s₂.heap.objs.size + 1) s₂ H₂ fp pins) [] (blkSt js σ none) (upd H₂ s₂.heap.objs.size (.lst [])) { s₂ with heap := h₁, toks := tk } := fun tk => B.inv I hf ho hns₁ hsb₁
  have fpD : ∀ b ∈ fp, b ≠ s₂.heap.objs.size := fun b hb => by
    obtain ⟨o, e, _⟩ := ho b hb
    exact Nat.ne_of_lt (Heap.lt_size e)
  have fp0 : ∀ b ∈ fp, upd H₂ s₂.heap.objs.size (.lst []) b = none := fun b hb => by rw [upd_ne (fpD b hb)]; exact (hf b hb).1
  -- what the block's context says of the iterator's objects
  have stat : ∀ {H' : Hp}, (∀ b ∈ fp, H' b = none) → ∀ b ∈ fp, FpOk (blk X scope (x :: Nf) (s₂.heap.objs.size + 1) s₂ H₂ fp pins) [] H' b := fun {H'} hn b hb => by
    obtain ⟨_, f1, f2, f3, f4, f5⟩ := hf b hb
    obtain ⟨o, e, _⟩ := ho b hb
    refine ⟨hn b hb, Nat.ne_of_lt (Nat.lt_succ_of_lt (Heap.lt_size e)), fun z => ?_, .inl hb, fun z c h => f4 z c (B.look I.ok h), fun p hp => ?_⟩
    · rcases List.mem_cons.mp (I.stkSub b z) with q | q
      · exact f1 q
      · exact f2 q
    · have hp' : p ∈ (X.pn ++ pins) ++ [] := hp
      rw [List.append_nil] at hp'
      exact f5 p hp'
  have loop : ∀ sL : Shared, sL = { s₂ with heap := h₁, toks := s₂.toks + ([] : List (Str × Value)).length } →
      codeAny (model X.prog X.w) X.A (.compLoop (.ListComp elt [⟨.Name x px, iter, ifs, 0⟩] scope pos) 0 (.ref it) (.ref s₂.heap.objs.size) (compEnvC scope (clGo X.env scope.names []) (s₂.heap.objs.size + 1) X.env))
        (QQ (.ref s₂.heap.objs.size) (s₂.heap.objs.size + 1)) sL := by
    rintro sL rfl
    refine codeAny_compLoop_tests (fun n s' => ∃ i v H', Inv (blk X scope (x :: Nf) (s₂.heap.objs.size + 1) s₂ H₂ fp pins) [] (blkSt js σ v) H' s' ∧ tn i s'.heap ∧ (∀ b ∈ fp, H' b = none) ∧ W i n H') ?_ m0 ⟨0, none, _, I1 _, st1, fp0, w0⟩
    rintro n s3 ⟨i, v3, H3, I3, st3, fr3, w3⟩
    rcases turn i n H3 w3 with ⟨stop, qn⟩ | ⟨go, step⟩
    · refine thn (T.done (blk X scope (x :: Nf) (s₂.heap.objs.size + 1) s₂ H₂ fp pins) rfl rfl rfl hc i [] s3 _ H3 _ I3 (stat fr3) st3 stop) fun r s4 ⟨hr, I4⟩ => ?_
      subst hr
      obtain ⟨m4, hm4, _⟩ := I4.loc
      exact hQ s4 H3 (fun h' hs => B.back I hf (Nat.le_succ _) I4 hs) ⟨m4, hm4⟩ I4.free qn
    · refine thn (T.item (blk X scope (x :: Nf) (s₂.heap.objs.size + 1) s₂ H₂ fp pins) rfl rfl rfl hc i [] s3 _ H3 _ I3 (stat fr3) st3 go) fun r s4 ⟨u, hr, h4⟩ => ?_
      subst hr
      refine (show wpAny (model X.prog X.w) X.A (letOwnedTupleGo (Expr.Name x px) (.ref it) u >>= fun _ => assign (.Name x px) (compEnvC scope (clGo X.env scope.names []) (s₂.heap.objs.size + 1) X.env) u) _ _ s4 from wpAny_bind (thn h4 fun _ s5 ⟨y5, H5, I5, r5, yl5, st5, fr5⟩ => ?_))
      have I5' := I5.pinned (stat fr5) (T.obj _ _ st5)
      have hnm : (blk X scope (x :: Nf) (s₂.heap.objs.size + 1) s₂ H₂ fp pins).env.scope.names.lookup x = some .local := lookup_relabel_local B.own
      have hg : PG (blk X scope (x :: Nf) (s₂.heap.objs.size + 1) s₂ H₂ fp pins) (.Name x px) (gName 0) := pg_name B.nd rfl (.inl hnm) (.inr hnm)
      refine wpAny_mono (hg _ s5 _ H5 y5 u (fun σ' H' => σ' = blkSt js σ (some y5) ∧ H' = H5) I5' r5 ⟨rfl, rfl⟩) (fun _ s6 ⟨σ6, H6, I6, q6⟩ => ?_) fun _ _ z => False.elim z
      obtain ⟨e6, e6'⟩ := q6
      subst e6 e6'
      refine wpAny_mono ((ht _ _ _ _ _).run I6 (step y5 _ yl5)) (fun b s7 ⟨H7, I7, q7⟩ => ?_) fun _ _ z => False.elim z
      have again : ∀ {s8 : Shared} {σ8 : St} {H8 : Hp}, Inv (blk X scope (x :: Nf) (s₂.heap.objs.size + 1) s₂ H₂ fp pins) ([] ++ pinsAt fp s5.heap) σ8 H8 s8 → tn (i + 1) s8.heap ∧ ∀ b ∈ fp, H8 b = none := fun {s8 σ8 H8} I8 => by
        refine ⟨T.keep _ _ _ st5 fun b hb o e => (I8.pin (b, o) (List.mem_append_right _ (List.mem_append_right _ (mem_pinsAt hb e)))).1, fun b hb => ?_⟩
        obtain ⟨o, e, d⟩ := T.obj _ _ st5 b hb
        exact (I8.pin (b, o) (List.mem_append_right _ (List.mem_append_right _ (mem_pinsAt hb e)))).2.1
      cases b with
      | false =>
        simp only [Bool.false_eq_true, if_false] at q7 ⊢
        obtain ⟨m', hm, w7⟩ := q7
        exact ⟨m', hm, i + 1, _, H7, I7.unpinned, (again I7).1, (again I7).2, w7⟩
      | true =>
        simp only [if_true] at q7 ⊢
        refine wpAny_mono (he _ _ _ _ _ _ s7 _ H7 _ I7 q7) (fun yv s8 ⟨y8, H8, I8, r8, ys, hD8, hl8, m', hm, w8⟩ => ?_) fun _ _ z => False.elim z
        obtain ⟨a1, a2⟩ := again I8
        refine wpAny_mono (mt_append (X := blk X scope (x :: Nf) (s₂.heap.objs.size + 1) s₂ H₂ fp pins) _ s8 _ H8 (.ref s₂.heap.objs.size) [y8] (.ref s₂.heap.objs.size) [yv] (fun _ H' => H' = upd H8 s₂.heap.objs.size (.lst (ys ++ [y8]))) I8 rfl (.cons r8 .nil)
          ⟨_, _, _, rfl, rfl, hD8, hl8, rfl⟩) (fun _ s9 ⟨_, H9, I9, _, q9⟩ => ?_) fun _ _ z => False.elim z
        subst q9
        obtain ⟨b1, b2⟩ := again I9
        exact ⟨m', hm, i + 1, _, _, I9.unpinned, b1, b2, w8⟩
  exact codeAny_compStart_list (loop _ rfl) (T.self _ 0 _ _ _ st1 (loop _ rfl))
theorem pe_comp (B : BlkScope X scope x Nf js) (hc : X.calm = true) (hi : PI X (.Name x px) iter wi)
    (ht : ∀ C s₂ H₂ ex pins, PTs (blk X scope (x :: Nf) C s₂ H₂ ex pins) ifs tc) (he : ∀ C s₂ H₂ ex pins, PE (blk X scope (x :: Nf) C s₂ H₂ ex pins) elt te)
    (hs : ∀ v, foldedSetIterable iter X.env v = pure v := by intro _; rfl) : PE X (.ListComp elt [⟨.Name x px, iter, ifs, 0⟩] scope pos) (tComp js wi tc te) := by
  intro pins s σ H Q I h
  rw [eval_ListComp]
  refine wpAny_comprehension_free (use := none) rfl hs (closure_of (B.hasCell I.ok)) B.kind B.loc (thn (hi pins s σ H _ I h) fun v s1 h1 => thn h1 fun itv s2 h2 => ?_)
  obtain ⟨it, fp, tn, J, H2, e, I2, T, st2, f2, hW⟩ := h2
  subst e
  refine comp_core (QQ := fun acc C => compPost (model X.prog X.w) X.A X.xe none (EP X pins σ Q) acc C) none rfl B hc ht he I2 T st2 f2 hW fun s' H' hI hn _ hq => ?_
  obtain ⟨m, hm⟩ := hn
  exact ⟨m, hm, fun h' hs' => ⟨.ref s2.heap.objs.size, H', hI h' hs', rfl, hq⟩⟩
end
end L2
set_option Elab.async false
set_option linter.all false
set_option maxRecDepth 100000
namespace L2
open PySem PySem.Spec PyProof.Rows
section
variable {X : Cx} {pins : List (Addr × Obj)} {σ : St} {H : Hp} {s : Shared}
theorem op_fdivL : OpR X (binaryOp .FloorDiv) (rI (fun _ j => 0 < j ∧ j.natAbs.log2 < 9000) fun i j => .int (i / j)) := opI fun i j _ _ _ _ _ hc q => by
  have e : i.fdiv j = i / j := Int.fdiv_eq_ediv_of_nonneg i (Int.le_of_lt hc.1)
  exact floordiv_int (by omega) (by rw [e]; exact q) (.inl (PyProof.noPylong_of_log2 hc.2))
def plainV : V → Bool
  | .non => true | .bl _ => true | .int _ => true | .str _ => true | .ref _ => true
  | _ => false
def okP (x y : V) : Prop := (x = y ∧ plainV x = true) ∨ (flatV x = true ∧ flatV y = true)
def eqP (x y : V) : Bool := decide (x = y) || eqV x y
theorem eqV_self : ∀ {x : V}, flatV x = true → eqV x x = true
  | .non, _ => rfl
  | .bl b, _ => by cases b <;> rfl
  | .int i, _ => by simp [eqV]
  | .str z, _ => by simp [eqV]
theorem eqAt_P {A : Around} {s : Shared} {x y : V} {u v : Value} (ru : RelV x u) (rv : RelV y v) (h : okP x y) : SeqAt.EqAt A s u v (eqP x y) := by
  rcases h with ⟨e, p⟩ | ⟨f, g⟩
  · subst e
    have e1 : eqP x x = true := by unfold eqP; simp
    rw [e1]
    cases x with
    | non => cases ru; cases rv; exact SeqAt.EqAt.same _
    | bl b => cases ru; cases rv; exact SeqAt.EqAt.same _
    | int i => have := eqAt_V (A := A) (s := s) ru rv rfl rfl; rwa [eqV_self rfl] at this
    | str z => have := eqAt_V (A := A) (s := s) ru rv rfl rfl; rwa [eqV_self rfl] at this
    | ref a => cases ru; cases rv; exact SeqAt.EqAt.same _
    | _ => exact absurd (show false = true from p) Bool.false_ne_true
  · have e1 : eqP x y = eqV x y := by
      unfold eqP
      by_cases e : x = y
      · subst e; rw [eqV_self f]; simp
      · simp [e]
    rw [e1]
    exact eqAt_V ru rv f g
def eqPs (xs ys : List V) : Bool := decide (xs.length = ys.length) && (List.zipWith eqP xs ys).all id
def okPs (xs ys : List V) : Prop := xs.length = ys.length → ∀ (j : Nat) (x y : V), xs[j]? = some x → ys[j]? = some y → okP x y
theorem eqPs_nil {xs : List V} : eqPs xs [] = decide (xs = []) := by cases xs <;> simp [eqPs]
theorem okPs_nil {xs : List V} : okPs xs [] := fun _ j x y _ h => by simp at h
theorem eqPs_self {xs : List V} : eqPs xs xs = true := by
  unfold eqPs
  rw [Bool.and_eq_true]
  refine ⟨by simp, ?_⟩
  induction xs with
  | nil => rfl
  | cons x r ih => rw [List.zipWith_cons_cons, List.all_cons, ih]; simp [eqP]
def ans (xs ys : List V) (j : Nat) : Bool := match xs[j]?, ys[j]? with
  | some x, some y => eqP x y
  | _, _ => true
theorem zip_ans : ∀ (xs ys : List V), xs.length = ys.length → (List.range xs.length).all (ans xs ys) = (List.zipWith eqP xs ys).all id
  | [], [], _ => rfl
  | [], _ :: _, h => by simp at h
  | _ :: _, [], h => by simp at h
  | x :: xs, y :: ys, h => by
    have ih := zip_ans xs ys (by simpa using h)
    rw [List.length_cons, List.range_succ_eq_map, List.all_cons, List.zipWith_cons_cons, List.all_cons, ← ih, List.all_map]
    rfl
theorem ans_at {xs ys : List V} {us ws : List Value} (r : Vals xs us) (r' : Vals ys ws) (ok : okPs xs ys) (hl : xs.length = ys.length) {A : Around} {s : Shared} (j : Nat) (h1 : j < us.toArray.size) (h2 : j < ws.toArray.size) :
    SeqAt.EqAt A s us.toArray[j] ws.toArray[j] (ans xs ys j) := by
  have l1 := r.length
  have l2 := r'.length
  have j1 : j < xs.length := by simp at h1; omega
  have j2 : j < ys.length := by omega
  have e1 : xs[j]? = some xs[j] := by simp [j1]
  have e2 : ys[j]? = some ys[j] := by simp [j2]
  obtain ⟨u, eu, ru⟩ := r.get e1
  obtain ⟨w, ew, rw'⟩ := r'.get e2
  have a1 : us.toArray[j] = u := by
    have : us[j]? = some u := eu
    simp at h1
    simpa [h1] using this
  have a2 : ws.toArray[j] = w := by
    have : ws[j]? = some w := ew
    simp at h2
    simpa [h2] using this
  have a3 : ans xs ys j = eqP xs[j] ys[j] := by unfold ans; rw [e1, e2]
  rw [a1, a2, a3]
  exact eqAt_P ru rw' (ok hl j _ _ e1 e2)
def rEqL (K : PySem.W.Frag) (neg : Bool) : R2 := fun x y H Q => ∃ p q xs ys, x = .ref p ∧ y = .ref q ∧ SqL K H p xs ∧ SqL K H q ys ∧ okPs xs ys ∧ Q (.bl (if neg then !eqPs xs ys else eqPs xs ys)) H
theorem op_eqL (hu : X.A.units < cLine) : OpR X (compareOp .Eq) (rEqL X.K false) := by
  intro pins s σ H x y v u Q I rx ry h
  obtain ⟨p, q, xs, ys, rfl, rfl, hp, hq, ok, hQ⟩ := h
  cases rx
  cases ry
  obtain ⟨us, r, pl, hz⟩ := I.list hp
  obtain ⟨ws, r', pl', hz'⟩ := I.list hq
  have l1 := r.length
  have l2 := r'.length
  by_cases hl : xs.length = ys.length
  · refine SeqAt.RcAt.lists (e := ans xs ys) pl.isList pl'.isList (by simp; omega) hu (fun j h1 h2 => ans_at r r' ok hl j h1 h2) _ _ _ _ ⟨.bl _, H, I, rfl, ?_⟩
    rw [show us.toArray.size = xs.length by simp; omega, zip_ans xs ys hl]
    unfold eqPs at hQ
    rw [decide_eq_true hl, Bool.true_and] at hQ
    exact hQ
  · refine SeqAt.RcAt.lists_lengths pl.isList pl'.isList (by simp; omega) hu _ _ _ _ ⟨.bl _, H, I, rfl, ?_⟩
    unfold eqPs at hQ
    rw [decide_eq_false hl, Bool.false_and] at hQ
    exact hQ
theorem op_neL (hu : X.A.units < cLine) : OpR X (compareOp .NotEq) (rEqL X.K true) := by
  intro pins s σ H x y v u Q I rx ry h
  obtain ⟨p, q, xs, ys, rfl, rfl, hp, hq, ok, hQ⟩ := h
  cases rx
  cases ry
  obtain ⟨us, r, pl, hz⟩ := I.list hp
  obtain ⟨ws, r', pl', hz'⟩ := I.list hq
  have l1 := r.length
  have l2 := r'.length
  by_cases hl : xs.length = ys.length
  · refine SeqAt.RcNeAt.lists (e := ans xs ys) pl.isList pl'.isList (by simp; omega) hu (fun j h1 h2 => ans_at r r' ok hl j h1 h2) _ _ _ _ ⟨.bl _, H, I, rfl, ?_⟩
    rw [show us.toArray.size = xs.length by simp; omega, zip_ans xs ys hl]
    unfold eqPs at hQ
    rw [decide_eq_true hl, Bool.true_and] at hQ
    exact hQ
  · refine SeqAt.RcNeAt.lists_lengths pl.isList pl'.isList (by simp; omega) hu _ _ _ _ ⟨.bl _, H, I, rfl, ?_⟩
    unfold eqPs at hQ
    rw [decide_eq_false hl, Bool.false_and] at hQ
    exact hQ
end
end L2
set_option Elab.async false
set_option linter.all false
set_option maxRecDepth 100000
namespace L2
open PySem PySem.Spec PyProof.Rows
abbrev bmV : List Value := [.type "ValueError", .type "Exception", .type "BaseException", .type "object"]
def strK (es : Array DictEntry) : Bool := es.all fun e => match e.key with | .str _ _ => true | _ => false
theorem strK_ok {es : Array DictEntry} (x : strK es = true) : StrKeys es := fun e he => by
  have hx := Array.all_eq_true_iff_forall_mem.mp x e he
  cases hk : e.key with
  | str a b => exact ⟨a, b, rfl⟩
  | _ => rw [hk] at hx; cases hx
structure ExC (K : PySem.W.Frag) (C T fI : Addr) : Prop where
  cls : ∃ (nm q : Str) (N : Addr) (bs : List Value) (hdct : Bool) (sn : List Str) (sub : List Value) (ab : Bool) (col : Option Bool) (dd : Option Addr) (k0 k1 k2 k3 k5 : Option Value),
    K.lookup C = some (excClassObj nm q C N bs (.ref T :: bmV) hdct sn sub ab col dd k0 k1 k2 k3 k5 "ValueError.__new__")
  top : ∃ (c0 : Value) (dd : Option Addr) (cd : ClassData) (sl : Array (Option Value)), K.lookup T = some ⟨c0, dd, .cls cd, sl⟩ ∧
    ∃ (d0 : Value) (d1 : Option Addr) (es : Array DictEntry) (n : Nat) (sl' : Array (Option Value)), K.lookup cd.ns = some ⟨d0, d1, .dict es n, sl'⟩ ∧ strK es = true ∧ nsFind es "__init__" = none
  init : PySem.W.findIn K (.ref C) "__init__" = some (some (.ref fI))
  fn : PySem.W.isFn K (.ref fI) = true
  kp : PySem.W.keepIn K (.ref C) = true
theorem ExC.tail {K : PySem.W.Frag} {C T fI : Addr} (x : ExC K C T fI) {h : Heap} (X : K.In h) : OwnTail h bmV (.ref T :: bmV) := by
  obtain ⟨c0, dd, cd, sl, h1, d0, d1, es, n, sl', h2, h3, h4⟩ := x.top
  exact .own (X _ _ h1) ⟨_, es, n, X _ _ h2, rfl, strK_ok h3, fun _ => rfl⟩ h4 .base
section
variable {prog : Program} {w : World} {A : Around} {E : Value → Shared → Prop} {K : PySem.W.Frag} {C T fI : Addr} {h : Heap} {g : Array GenState} {d : Drawn} {t : Nat} {os : OsState}
theorem exc_tc (x : ExC K C T fI) (X : K.In h) {us : List Value} {Q : Fin → Shared → Prop}
    (hq : ∀ h' e, Heap.MadeExcOf h h' e (.ref C) us → h.objs.size ≤ e → wpAny (model prog w) A (call (.ref fI) (.ref e :: us)) (fun r s' => r = .none ∧ Q (.done (.ret (.ref e))) s') E ⟨h', g, d, t, os⟩) (hz : us.length ≤ sizeLine) :
    wpAny (model prog w) A (Builtin.«type.__call__» ⟨.ref C :: us, []⟩) Q E ⟨h, g, d, t, os⟩ := by
  have F := PySem.F.excBase_ValueError
  have OT := x.tail X
  obtain ⟨nm, q, N, bs, hdct, sn, sub, ab, col, dd, k0, k1, k2, k3, k5, lk⟩ := x.cls
  have hC := X _ _ lk
  repeat (first
    | with_reducible exact wpAny_loadPart_at hC ‹_›
    | with_reducible refine wpAny_loadPart_at hC ?_
    | with_reducible refine wpAny_madeBy_exc hC ?_
    | wp_step)
  refine codeAny_call_builtin_code (Code.quiet_builtin _ F.quiet) (wpAny_check_new_subU F F.hasB OT hC ?_)
  refine codeAny_exc_new_subU F F.hasB F OT hC ?_ hz
  show wpAny _ _ _ _ _ _
  generalize hg1 : h.push { cls := .type "tuple", data := .seq us.toArray } = h1
  have z1 : h1.objs.size = h.objs.size + 1 := by rw [← hg1]; exact Heap.size_push _ _
  have k1' : ∀ b o, h.get? b = some o → h1.get? b = some o := fun b o e => by rw [← hg1]; exact Heap.get?_push_of_some _ e
  generalize hg2 : h1.push { cls := .ref C, data := .fields #[.ref h.objs.size, .none, .none, .none, .bool false, .none] } = h2
  have k2' : ∀ b o, h1.get? b = some o → h2.get? b = some o := fun b o e => by rw [← hg2]; exact Heap.get?_push_of_some _ e
  have X2 : K.In h2 := X.keeps fun b o e => k2' b o (k1' b o e)
  have hC2 := X2 _ _ lk
  have he : h2.get? (h.objs.size + 1) = some { cls := .ref C, data := .fields #[.ref h.objs.size, .none, .none, .none, .bool false, .none] } := by
    rw [← hg2, ← z1]; exact Heap.get?_push_size _ rfl
  have ht : h2.get? h.objs.size = some { cls := .type "tuple", data := .seq us.toArray } := k2' _ _ (by rw [← hg1]; exact Heap.get?_push_size _ rfl)
  have hcC : (Value.ref C :: Value.ref T :: bmV).contains (.ref C) = true := by simp
  unfold isInstance
  repeat (first | with_reducible refine wpAny_loadPart_at he ?_ | (with_reducible refine wpAny_isSubtype_exc hC2 ?_; rw [hcC]) | wp_step)
  refine (PySem.W.looks_findIn X2 x.init).at (wpAny_holding ?_)
  refine wpAny_bind ?_
  unfold bindSpecial
  refine wpAny_bind ((PySem.W.looks_typeIn X2 (beq_iff_eq.mp x.fn)).at ?_)
  rw [if_pos (by decide)]
  refine wpAny_pure (wpAny_bind (wpAny_mono (hq h2 (h.objs.size + 1) ⟨fun b o e => k2' b o (k1' b o e), Heap.get?_none_of_le (Nat.le_succ _), h.objs.size, he, Heap.get?_none_of_le (Nat.le_refl _), ht⟩ (Nat.le_succ _)) (fun r s' hr => ?_) fun _ _ z => z))
  obtain ⟨rfl, hQ⟩ := hr
  wp_walk
  exact hQ
theorem exc_call (x : ExC K C T fI) (X : K.In h) {us : List Value} {Q : Value → Shared → Prop}
    (hq : ∀ h' e, Heap.MadeExcOf h h' e (.ref C) us → h.objs.size ≤ e → wpAny (model prog w) (A.under (.builtin "type.__call__" ⟨.ref C :: us, []⟩)) (call (.ref fI) (.ref e :: us)) (fun r s' => r = .none ∧ Q (.ref e) s') E ⟨h', g, d, t, os⟩) (hz : us.length ≤ sizeLine) :
    wpAny (model prog w) A (call (.ref C) us) Q E ⟨h, g, d, t, os⟩ := by
  obtain ⟨nm, q, N, bs, hdct, sn, sub, ab, col, dd, k0, k1, k2, k3, k5, lk⟩ := x.cls
  have hC := X _ _ lk
  have f1 := tc_lookup
  have f2 := tc_bind (.ref C)
  have ty : Shared.TypeIs ⟨h, g, d, t, os⟩ (.ref C) "type" := ⟨_, hC, rfl⟩
  refine wpAny_call ?_
  refine codeAny_of_tree ?_
  show wpAny (model prog w) _ (callAny (.ref C) _) _ _ _
  repeat (any_goals (first
    | assumption
    | with_reducible refine wpAny_loadPart_at hC ?_
    | wp_step))
  refine ⟨rfl, ?_⟩
  exact codeAny_call_builtin_at (Code.quiet_builtin _ (by decide +kernel)) entry_typeCall (wpAny_check_type_call_sub hC (exc_tc x X hq hz))
end
end L2
set_option Elab.async false
set_option linter.all false
set_option maxRecDepth 100000
namespace L2
open PySem PySem.Spec PyProof.Rows PySem.Builtin.ObjectAttr
def tbV (tb : Option Addr) : Value := match tb with | none => .none | some b => .ref b
def ExAt (C e : Addr) (dx ar tb : Option Addr) (h : Heap) : Prop := ∃ (o : Obj) (vs : Array Value), h.get? e = some o ∧ o.cls = .ref C ∧ o.dict = dx ∧ o.data = .fields vs ∧ 0 < vs.size ∧ (∀ t, ar = some t → vs[0]? = some (.ref t)) ∧ vs[1]? = some (tbV tb)
def ExO (C e : Addr) (dx ar tb : Option Addr) : HO := .ext (ExAt C e dx ar tb)
def XdAt (a : Addr) (fs : List (Str × V)) (h : Heap) : Prop := fs.length ≤ 1000 ∧ ∃ mA, h.Ns1 a mA ∧ (∀ f, RelO (fs.lookup f) (mA f)) ∧ PySem.Within mA (fs.map (·.1))
def XdO (a : Addr) (fs : List (Str × V)) : HO := .ext (XdAt a fs)
theorem ExAt.stay {C e : Addr} {dx ar tb : Option Addr} {h h' : Heap} (x : ExAt C e dx ar tb h) (k : ∀ o, h.get? e = some o → h'.get? e = some o) : ExAt C e dx ar tb h' :=
  let ⟨o, vs, e1, r⟩ := x; ⟨o, vs, k o e1, r⟩
theorem XdAt.stay {a : Addr} {fs : List (Str × V)} {h h' : Heap} (x : XdAt a fs h) (k : ∀ o, h.get? a = some o → h'.get? a = some o) : XdAt a fs h' :=
  let ⟨z, mA, hn, r⟩ := x; ⟨z, mA, hn.at k, r⟩
section
variable {P : Program} {w : World} {H : Hp} {h : Heap}
theorem exO_ok {C e : Addr} {dx ar tb : Option Addr} (x : ExAt C e dx ar tb h) : ObjOk P w H h e (ExO C e dx ar tb) := by
  refine ⟨x, ?_, fun h1 h2 q k => q.stay k⟩
  obtain ⟨o, _, e1, _⟩ := x
  exact ⟨o, e1⟩
theorem xdO_ok {a : Addr} {fs : List (Str × V)} (x : XdAt a fs h) : ObjOk P w H h a (XdO a fs) := by
  refine ⟨x, ?_, fun h1 h2 q k => q.stay k⟩
  obtain ⟨_, _, ⟨o, _, _, e, _⟩, _⟩ := x
  exact ⟨o, e⟩
end
structure ExF (K : PySem.W.Frag) (C T fI : Addr) : Prop extends ExC K C T fI where
  hd : PySem.W.hasDictIn K C = true
  sa : PySem.W.findIn K (.ref C) "__setattr__" = some (some (.builtin "object.__setattr__"))
section
variable {X : Cx} {pins : List (Addr × Obj)} {σ : St} {H : Hp} {s : Shared} {C T fI e : Addr} {A : Around} {E : Value → Shared → Prop}
theorem ex_get {dx ar tb : Option Addr} (I : Inv X pins σ H s) (he : H e = some (ExO C e dx ar tb)) : ExAt C e dx ar tb s.heap := (I.hok e _ he).1
structure BaseInit (K : PySem.W.Frag) (T : Addr) : Prop where
  ga : PySem.W.specialIn K (.ref T) "__getattribute__" = some (some (.builtin "type.__getattribute__"))
  rd : PySem.W.readsIn K T (.type "type") = true
  at_ : PySem.W.findCls K (.ref T) (.type "type") "__init__" = some (.val (.builtin "ValueError.__init__"))
theorem init_text {dx ar tb : Option Addr} {us : List Value} {rest : List V} {Q : Value → Shared → Prop} (x : ExF X.K C T fI) (I : Inv X pins σ H s) (he : H e = some (ExO C e dx ar tb)) (rv : Vals rest us) (hz : us.length ≤ sizeLine)
    (hq : ∀ t s', H t = none → t ≠ e → Inv X pins σ (upd (upd H t (.tup rest)) e (ExO C e dx (some t) tb)) s' → Q .none s') : wpAny (model X.prog X.w) A (call (.builtin "ValueError.__init__") (.ref e :: us)) Q E s := by
  have F := PySem.F.excBase_ValueError
  have OT := x.tail I.kIn
  obtain ⟨nm, q, N, bs, hdct, sn, sub, ab, col, dd, k0, k1, k2, k3, k5, lk⟩ := x.cls
  have hC := I.kIn _ _ lk
  obtain ⟨o, vs, e1, e2, e3, e4, e5, e6, eT⟩ := ex_get I he
  rcases s with ⟨hp, g, d, tk, os⟩
  refine wpAny_call (codeAny_call_builtin F.init.plain F.initEntry (wpAny_check_init_subU F OT hC e1 e2 ?_))
  show wpAny _ _ (Builtin.«BaseException.__init__» ⟨.ref e :: us, []⟩) _ _ _
  delta Builtin.«BaseException.__init__»
  dsimp only
  rw [if_neg (by simp)]
  unfold Builtin.BaseException.bexcPut newTuple
  have h0 : vs[0]? = some vs[0] := by simp [e5]
  have e1' := Heap.get?_push_of_some (h := hp) { cls := .type "tuple", data := .seq us.toArray } e1
  refine wpAny_bind (wpAny_newObj_type (wpAny_bind (wpAny_bind (wpAny_field e1' e4 h0 (wpAny_bind (wpAny_setField e1' e4 e5 ?_))))) hz)
  have nt : hp.objs.size ≠ e := Nat.ne_of_gt (Heap.lt_size e1)
  have ft : H hp.objs.size = none := I.hok.fresh (Nat.le_refl _)
  have key : Inv X pins σ (upd (upd H hp.objs.size (.tup rest)) e (ExO C e dx (some hp.objs.size) tb)) ⟨(hp.push { cls := .type "tuple", data := .seq us.toArray }).update e (Obj.mapFields (·.setIfInBounds 0 (.ref hp.objs.size))), g, d, tk, os⟩ := by
    have I1 := I.laid (a := hp.objs.size) (o := .tup rest) (h' := hp.push { cls := .type "tuple", data := .seq us.toArray }) (t' := tk) (fun b o q => Heap.get?_push_of_some _ q) (Nat.le_refl _) ⟨by rw [rv.length]; exact hz, _, rv, (by first | exact ⟨IsTup.new _ _, tup_nodict⟩ | exact IsTup.new _ _)⟩
    have e7 : ((hp.push { cls := .type "tuple", data := .seq us.toArray }).update e (Obj.mapFields (·.setIfInBounds 0 (.ref hp.objs.size)))).get? e = some (Obj.mapFields (·.setIfInBounds 0 (.ref hp.objs.size)) o) :=
      Heap.get?_update_self _ e1' (Obj.isFreed_of_fields (Obj.data_mapFields e4 _))
    refine I1.write (x := e) (e := e) (t' := tk) (by rw [upd_ne (Ne.symm nt), he]; trivial) (.inl rfl) (fun b u hb q => (Heap.get?_update_other _ _ (Ne.symm hb)).trans q) ⟨_, e7⟩ (exO_ok ⟨_, _, e7, (Obj.cls_mapFields ..).trans e2, ?_, Obj.data_mapFields e4 _, by simpa using e5, fun t ht => ?_, by rw [Array.getElem?_setIfInBounds_ne (by decide)]; exact eT⟩)
    · have : (Obj.mapFields (·.setIfInBounds 0 (.ref hp.objs.size)) o).dict = o.dict := by
        rcases o with ⟨oc, od, odt, osl⟩
        cases (show odt = _ from e4)
        rfl
      rw [this, e3]
    · cases ht
      simp [e5]
  have fin : wpAny (model X.prog X.w) A.in1 (ret Value.none) (fun fin s' => match fin with
      | Fin.done f => match (Except.ok f : Result) with
        | Except.ok (Flow.ret v) => Q v s'
        | Except.ok a => False
        | Except.error e => E e s'
      | Fin.again c' => c'.quiet = true ∧ codeAny (model X.prog X.w) A c' (fun r s' => match r with
        | Except.ok (Flow.ret v) => Q v s'
        | Except.ok a => False
        | Except.error e => E e s') s') (fun e s' => E e s') _ := wpAny_pure (hq _ _ ft nt key)
  cases vs[0] <;> first
    | exact wpAny_letGo fin
    | exact wpAny_pure fin
theorem exc_refuse (self : Value) : refuseLoop self "__setattr__" (.ref C :: .ref T :: bmV) = pure () := by
  rw [refuseLoop_ref, refuseLoop_ref]
  first
    | kernel_rfl
    | rfl
theorem exset_ok {ar tb : Option Addr} {f : Str} {y : V} {u : Value} {Q : Unit → Shared → Prop} (x : ExF X.K C T fI) (I : Inv X pins σ H s) (he : H e = some (ExO C e none ar tb)) (n : NoAttr X.K C f) (ry : RelV y u)
    (hq : ∀ dx s', H dx = none → dx ≠ e → Inv X pins σ (upd (upd H dx (XdO dx [(f, y)])) e (ExO C e (some dx) ar tb)) s' → Q () s') : wpAny (model X.prog X.w) A (setAttr (.ref e) f u) Q E s := by
  obtain ⟨o, vs, e1, e2, e3, e4, e5, e6, eT⟩ := ex_get I he
  have J : PySem.W.InstAt s.heap e o C none := ⟨e1, e2, by unfold PySem.W.notCls; rw [e4], by rw [e3]; trivial⟩
  refine PySem.W.set_plain I.kIn J x.sa ?_
  have SF : _ := PySem.F.store_object
  obtain ⟨cd, hc, hd'⟩ := PySem.W.any_some x.hd
  obtain ⟨nm, q, N, bs, hdct, sn, sub, ab, col, dd, k0, k1, k2, k3, k5, lk⟩ := x.cls
  have hcd : cd.mro = .ref C :: .ref T :: bmV := by
    unfold PySem.W.clsIn at hc
    rw [lk] at hc
    cases hc
    rfl
  have hm : PySem.W.Looks (model X.prog X.w) s.heap (mroOf (.ref C)) cd.mro := (PySem.W.looks_clsIn I.kIn hc).andThen .now
  have sub : PySem.W.Looks (model X.prog X.w) s.heap (isInstance (.ref e) (.type "object")) true :=
    J.type.andThen (PySem.W.looks_mroIn I.kIn (by unfold PySem.W.mroIn; rw [hc, Option.bind_some, hcd]; rfl))
  have hat := PySem.W.looks_findIn (M := model X.prog X.w) I.kIn (show PySem.W.findIn X.K (.ref C) f = some none from n)
  refine codeAny_call_builtin SF.slot.plain SF.entry (@PySem.W.check_slot (model X.prog X.w) _ _ { s with toks := s.toks + 1 } "object.__setattr__" "object" "__setattr__" (.ref e) [.str f s.toks, u] [] _ SF.kind SF.split sub (SF.args (.ref e) (.str f s.toks) u) ?_)
  rw [PySem.W.osa_eq, refuse_eq]
  refine wpAny_bind (wpAny_bind (PySem.W.Looks.here (s := { s with toks := s.toks + 1 }) J.type (wpAny_bind (PySem.W.Looks.here (s := { s with toks := s.toks + 1 }) hm ?_))))
  rw [hcd, exc_refuse]
  refine wpAny_pure (wpAny_bind (PySem.W.Looks.here (s := { s with toks := s.toks + 1 }) J.type (wpAny_bind (PySem.W.Looks.here (s := { s with toks := s.toks + 1 }) hat (wpAny_bind (wpAny_pure ?_))))))
  show wpAny _ _ (storeInOwnDict (.ref e) (.ref C) (.str f s.toks) f u false) _ _ _
  have e1b : s.heap.get? e = some ⟨.ref C, none, .fields vs, o.slots⟩ := by
    rcases o with ⟨oc, od, odt, osl⟩
    cases (show oc = _ from e2)
    cases (show od = _ from e3)
    cases (show odt = _ from e4)
    exact e1
  unfold storeInOwnDict
  refine wpAny_bind (wpAny_pure ?_)
  dsimp only
  rw [if_neg (by intro z; cases z)]
  refine wpAny_bind ?_
  unfold ownDictForStores instanceDict
  refine wpAny_bind (wpAny_loadPart (s := { s with toks := s.toks + 1 }) e1b ?_)
  dsimp only
  refine wpAny_bind (PySem.W.Looks.here (s := { s with toks := s.toks + 1 }) (PySem.W.looks_clsIn I.kIn hc) ?_)
  rw [hd', if_neg (by decide), if_neg (show ¬ (!true || !typeHasDict (.ref C)) = true from Bool.false_ne_true)]
  have nd : s.heap.objs.size ≠ e := Nat.ne_of_gt (Heap.lt_size e1)
  refine wpAny_bind (wpAny_alloc (wpAny_bind (wpAny_update (Heap.get?_push_of_some _ e1b) (wpAny_pure ?_))))
  show wpAny _ _ (storeInDict s.heap.objs.size (.str f s.toks) f u) _ _ _
  generalize hg1 : s.heap.push { cls := .type "dict", data := .dict #[] } = g1
  have p1 : ∀ b o, s.heap.get? b = some o → g1.get? b = some o := fun b o q => by rw [← hg1]; exact Heap.get?_push_of_some _ q
  have q1 : g1.get? s.heap.objs.size = some { cls := .type "dict", data := .dict #[] } := by rw [← hg1]; exact Heap.get?_push_size _ rfl
  have z1 : g1.objs.size = s.heap.objs.size + 1 := by rw [← hg1]; exact Heap.size_push _ _
  generalize hg2 : g1.update e (fun o => { cls := o.cls, dict := some s.heap.objs.size, data := o.data, slots := o.slots }) = g2
  have q2 : g2.get? s.heap.objs.size = some { cls := .type "dict", data := .dict #[] } := by rw [← hg2, Heap.get?_update_other _ _ (Ne.symm nd)]; exact q1
  have q2e : g2.get? e = some ⟨.ref C, some s.heap.objs.size, .fields vs, o.slots⟩ := by rw [← hg2, Heap.get?_update_self _ (p1 _ _ e1b) rfl]
  have q2o : ∀ b, b ≠ e → g2.get? b = g1.get? b := fun b hb => by rw [← hg2]; exact Heap.get?_update_other _ _ (Ne.symm hb)
  have n2 : g2.Ns s.heap.objs.size (fun _ => none) := ⟨_, #[], _, q2, rfl, (fun e he => absurd he (by simp)), fun _ => rfl⟩
  unfold storeInDict
  refine wpAny_bind (wpAny_pure (wpAny_bind (wpAny_nsSet1 (s := ⟨g2, s.gens, s.drawn, s.toks + 1, s.os⟩) (Heap.Ns1.of_empty n2) fun h3 hn3 hs3 => ?_)))
  have wi : PySem.Within (fun z => if z = f then some u else none) [f] := fun z hz => by
    by_cases q : z = f
    · simp [q]
    · exact absurd (if_neg q) hz
  obtain ⟨oD, esD, epD, hoD, hdD, hcD⟩ := hn3.count wi
  refine wpAny_bind (wpAny_lookBehind hoD (by rw [hdD]; exact pastItsLine_dict (Nat.le_trans hcD (by rw [sizeLine_eq, List.length_singleton]; decide))) ?_)
  refine wpAny_pure (hq s.heap.objs.size _ (I.hok.fresh (Nat.le_refl _)) nd ?_)
  -- the dict first, with what it holds; then the error that has it
  have kA : (s.heap.push oD).get? s.heap.objs.size = some oD := Heap.get?_push_size _ (Obj.isFreed_of_dict hdD)
  have I1 := I.laid (a := s.heap.objs.size) (o := XdO s.heap.objs.size [(f, y)]) (h' := s.heap.push oD) (t' := s.toks + 1 + 1) (fun b u q => Heap.get?_push_of_some _ q) (Nat.le_refl _)
    (xdO_ok ⟨Nat.le_of_ble_eq_true rfl, _, hn3.at fun o q => by rw [hoD] at q; cases q; exact kA, fun z => ?_, wi⟩)
  · refine I1.write (x := e) (e := e) (t' := s.toks + 1 + 1) (by rw [upd_ne (Ne.symm nd), he]; trivial) (.inl rfl) (fun b v hb q => ?_) ⟨_, hs3.extBut _ _ (Ne.symm nd) q2e⟩ (exO_ok ⟨_, vs, hs3.extBut _ _ (Ne.symm nd) q2e, rfl, rfl, rfl, e5, e6, eT⟩)
    by_cases hbd : b = s.heap.objs.size
    · subst hbd
      rw [kA] at q
      cases q
      exact hoD
    · have hlt : b < s.heap.objs.size := by
        have z := Heap.lt_size q
        have z2 : (s.heap.push oD).objs.size = s.heap.objs.size + 1 := Heap.size_push _ _
        have z3 : b < s.heap.objs.size + 1 := by rw [← z2]; exact z
        exact Nat.lt_of_le_of_ne (Nat.le_of_lt_succ z3) hbd
      have q' : s.heap.get? b = some v := by
        obtain ⟨a1, a2⟩ := Heap.get?_some_iff.mp q
        refine Heap.get?_some_iff.mpr ⟨?_, a2⟩
        have : (s.heap.objs.push oD)[b]? = some v := a1
        rw [Array.getElem?_push_lt hlt] at this
        simpa [hlt] using this
      exact hs3.extBut _ _ hbd (by rw [q2o b hb]; exact p1 _ _ q')
  · show RelO ([(f, y)].lookup z) (if z = f then some u else none)
    by_cases q : z = f
    · subst q
      rw [if_pos rfl, List.lookup_cons]
      simp
      exact ry
    · rw [if_neg q, List.lookup_cons]
      have : (z == f) = false := beq_eq_false_iff_ne.mpr q
      rw [this]
      trivial
end
end L2
set_option Elab.async false
set_option linter.all false
set_option maxRecDepth 100000
namespace L2
open PySem PySem.Spec PyProof.Rows PySem.Builtin.ObjectAttr
structure ExG (K : PySem.W.Frag) (C : Addr) : Prop where
  ga : PySem.W.findIn K (.ref C) "__getattribute__" = some (some (.builtin "BaseException.__getattribute__"))
  no : PySem.W.findIn K (.ref C) "__getattr__" = some none
  be : PySem.W.mroIn K C (.type "BaseException") = some true
  hd : PySem.W.hasDictIn K C = true
  ca : PySem.W.findIn K (.ref C) "__class__" = some (some (.builtin "object.__class__"))
  cn : PySem.W.specialIn K (.builtin "object.__class__") "__get__" = some (some (.builtin "getset_descriptor.__get__"))
  ct : PySem.W.takesIn K (.builtin "object.__class__") = some true
  ob : PySem.W.mroIn K C (.type "object") = some true
  ki : PySem.W.subIn K (.ref C) (.type "int") = some false
  kb : PySem.W.subIn K (.ref C) (.type "bool") = some false
  kl : PySem.W.subIn K (.ref C) (.type "list") = some false
  kt : PySem.W.subIn K (.ref C) (.type "tuple") = some false
def foundRun (r : Found) (e C : Addr) (name : Str) : Sem PySem.Fin := match r with
  | .value v => ret v
  | .bind g a => bindTo g a (.ref e) (.ref C)
  | .missing => noSuchAttribute (.ref e) name
section
variable {prog : Program} {w : World} {A : Around} {E : Value → Shared → Prop} {s : Shared} {K : PySem.W.Frag} {e C : Addr} {o : Obj} {od : Option Obj} {name : Str}
theorem exga_by {fill expr : Bool} {tk : Tok} {r : Found} {Q : Value → Shared → Prop} (x : ExG K C) (X : K.In s.heap) (I : PySem.W.InstAt s.heap e o C od) (hf : PySem.W.findObj K C od name = some r) (hr : r ≠ .missing)
    (h : wpAny (model prog w) A.in1 (foundRun r e C name) (fun fin s' => match fin with | .done (.ret v) => wpAny (model prog w) A (handedOut v) Q E s' | _ => False) (fun _ _ => False) s) :
    wpAny (model prog w) A (getAttrBy (.ref e) (.str name tk) fill expr) Q E s := by
  have SL := PySem.F.attr_ValueError.ga
  unfold getAttrBy
  refine wpAny_holding (wpAny_bind (I.type.here (wpAny_bind ((PySem.W.looks_findIn X x.ga).here ?_))))
  dsimp only
  rw [if_neg (by rw [show (Value.builtin "BaseException.__getattribute__" == Value.builtin "object.__getattribute__") = false from by decide +kernel, Bool.and_false]; decide)]
  unfold getAttrByItsOwn
  refine wpAny_bind ((PySem.W.looks_hook (mc := .ref C) X (r := none) (by rw [if_pos (by rfl)]; exact x.no)).here (wpAny_bind (wpAny_attempt (wpAny_holding ?_))))
  unfold callGetattribute
  rw [if_neg (by rw [show onTheHeap (Value.builtin "BaseException.__getattribute__") = false from rfl, Bool.and_false]; decide)]
  unfold boundAndCalled
  rw [SL.bind]
  refine wpAny_bind (wpAny_pure ?_)
  show wpAny _ _ (call (.builtin "BaseException.__getattribute__") [.ref e, .str name tk]) _ _ _
  refine wpAny_call (codeAny_call_builtin SL.plain PySem.F.entry_bexc_ga ?_)
  refine @PySem.W.check_slot (model prog w) _ _ s "BaseException.__getattribute__" "BaseException" "__getattribute__" (.ref e) [.str name tk] [] _ (by decide +kernel) (by decide +kernel) (I.type.andThen (PySem.W.looks_mroIn X x.be)) (PySem.F.args_bexc_ga (.ref e) (.str name tk)) ?_
  delta Builtin.«object.__getattribute__»
  refine wpAny_bind (wpAny_pure (wpAny_bind (wpAny_pure (wpAny_bind (I.type.here (wpAny_bind ((PySem.W.looks_find X I hf).here ?_)))))))
  refine wpAny_mono (show wpAny (model prog w) A.in1 _ (fun fin s' => match fin with | .done (.ret v) => wpAny (model prog w) A (handedOut v) Q E s' | _ => False) (fun _ _ => False) s from ?_) (fun fin s' z => ?_) fun _ _ z => z.elim
  · cases r with
    | value v => exact h
    | bind g a => exact h
    | missing => exact absurd rfl hr
  · rcases fin with (_ | _ | _ | _) | _ <;> first | exact z | exact z.elim
theorem exga_class {Q : Option Value → Shared → Prop} (x : ExG K C) (X : K.In s.heap) (I : PySem.W.InstAt s.heap e o C od) (h : Q (some (.ref C)) { s with toks := s.toks + 1 }) : wpAny (model prog w) A (getAttr? (.ref e) "__class__") Q E s := by
  have hf : PySem.W.findObj K C od "__class__" = some (.bind (.builtin "getset_descriptor.__get__") (.builtin "object.__class__")) := by
    obtain ⟨cd, hc, _⟩ := PySem.W.any_some x.hd
    unfold PySem.W.findObj
    rw [hc, Option.bind_some, x.ca, Option.bind_some]
    simp [x.cn, x.ct]
  unfold getAttr? getAttrBy?
  refine wpAny_bind (wpAny_mkText (wpAny_bind (wpAny_attempt (exga_by (s := { s with toks := s.toks + 1 }) x X I hf (fun z => nomatch z) ?_))))
  show wpAny _ _ (holding [.builtin "object.__class__"] (call (.builtin "getset_descriptor.__get__") [.builtin "object.__class__", .ref e, .ref C]) >>= ret) _ _ _
  refine wpAny_bind (wpAny_holding (wpAny_call (PySem.W.class_get (s := { s with toks := s.toks + 1 }) X I x.ob ?_)))
  refine wpAny_pure ?_
  show wpAny _ _ (handedOut (.ref C)) _ _ _
  rw [PySem.W.handedOut_of rfl]
  refine wpAny_pure ?_
  exact wpAny_pure h
theorem kitx_exc {dx ar tb : Option Addr} (x : ExG K C) : PySem.W.KitX K (.ref e) (.ref C) (fun h => ExAt C e dx ar tb h ∧ ∀ d, dx = some d → ∃ oD, h.get? d = some oD) where
  ty := fun _ h X p => by
    obtain ⟨⟨o, vs, e1, e2, _⟩, _⟩ := p
    exact e2 ▸ (PySem.W.Looks.ld e1).andThen .now
  it := fun _ _ X _ => by
    obtain ⟨cdD, hcD, _⟩ := PySem.W.any_some x.hd
    unfold PySem.W.clsIn at hcD
    split at hcD
    · rename_i c' d' cd' sl' ho
      intro A' Q' E' s' k q
      have hk := k _ _ (X _ _ ho)
      unfold isType loadHead
      exact wpAny_bind (wpAny_loadPart hk (wpAny_pure q))
    · cases hcD
  ne := fun _ tp _ _ _ _ X htp => by
    obtain ⟨cdD, hcD, _⟩ := PySem.W.any_some x.hd
    by_cases z : C = tp
    case neg => exact Bool.eq_false_iff.mpr (fun q => z (Value.ref.inj (beq_iff_eq.mp q)))
    subst z
    unfold PySem.W.clsIn at hcD
    split at hcD
    · rename_i c' d' cd' sl' ho
      exact nomatch (X _ _ ho).symm.trans htp
    · cases hcD
  ca := fun X p k => by
    obtain ⟨⟨o, vs, e1, e2, e3, e4, _⟩, hD⟩ := p
    cases dx with
    | none => exact exga_class (od := none) x X ⟨e1, e2, by unfold PySem.W.notCls; rw [e4], by rw [e3]; trivial⟩ k
    | some d =>
      obtain ⟨oD, q⟩ := hD d rfl
      exact exga_class (od := some oD) x X ⟨e1, e2, by unfold PySem.W.notCls; rw [e4], by rw [e3]; exact q⟩ k
end
end L2
set_option Elab.async false
set_option linter.all false
set_option maxRecDepth 100000
namespace L2
open PySem PySem.Spec PyProof.Rows
inductive Thg (K : PySem.W.Frag) (H : Hp) : V → Value → Prop where
  | non : Thg K H .non (.type "NoneType")
  | bl (x : Bool) : Thg K H (.bl x) (.type "bool")
  | int (i : Int) : Thg K H (.int i) (.type "int")
  | str (x : Str) : Thg K H (.str x) (.type "str")
  | lst {a : Addr} {xs : List V} (e : H a = some (.lst xs)) : Thg K H (.ref a) (.type "list")
  | frz {a : Addr} {o : Obj} {xs : List V} (e : H a = some (.frz o (.lst xs))) : Thg K H (.ref a) (.type "list")
  | tup {a : Addr} {xs : List V} (e : H a = some (.tup xs)) : Thg K H (.ref a) (.type "tuple")
  | dK {a : Addr} {kvs : List (Key × V)} (e : H a = some (.dK kvs)) : Thg K H (.ref a) (.type "dict")
  | exc {a C : Addr} {dx : Addr} {ar tb : Option Addr} {u : HO} (e : H a = some (ExO C a (some dx) ar tb)) (d : H dx = some u) (x : ExG K C) : Thg K H (.ref a) (.ref C)
  | exn {a C : Addr} {ar tb : Option Addr} (e : H a = some (ExO C a none ar tb)) (x : ExG K C) : Thg K H (.ref a) (.ref C)
section
variable {X : Cx} {pins : List (Addr × Obj)} {σ : St} {H : Hp} {s : Shared}
theorem ObjOk.there {P : Program} {w : World} {H : Hp} {h : Heap} {a : Addr} {o : HO} (x : ObjOk P w H h a o) : ∃ ob, h.get? a = some ob := by
  cases o with
  | lst xs => obtain ⟨_, _, _, _, e⟩ := x; exact ⟨_, e⟩
  | tup xs => obtain ⟨_, _, _, ⟨ob, e, _⟩, _⟩ := x; exact ⟨ob, e⟩
  | dK kvs => obtain ⟨_, _, _, _, o, _, _, e, _⟩ := x; exact ⟨o, e⟩
  | dT kvs => obtain ⟨_, _, _, _, o, _, _, e, _⟩ := x; exact ⟨o, e⟩
  | set S n => obtain ⟨o, _, _, _, e, _⟩ := x; exact ⟨o, e⟩
  | ins C dx fs => obtain ⟨_, _, _, e, _⟩ := x; exact ⟨_, e⟩
  | own y => exact x
  | xd fs => obtain ⟨_, ⟨o, _, _, e, _⟩, _⟩ := x; exact ⟨o, e⟩
  | rng lo hi => obtain ⟨_, _, _, e⟩ := x; exact ⟨_, e⟩
  | frz ob u => obtain ⟨e, _⟩ := x; exact ⟨ob, e⟩
  | tbl ps => exact ⟨_, x⟩
  | met f y => exact ⟨_, x⟩
  | ext φ => exact x.2.1
theorem Thg.kit {v : V} {u t : Value} (I : Inv X pins σ H s) (r : RelV v u) (x : Thg X.K H v t) : u ≠ .builtin "__main__.__loader__#opaque" ∧ ∃ φ, PySem.W.KitX X.K u t φ ∧ φ s.heap := by
  cases x with
  | non => cases (show u = Value.none from r); exact ⟨(fun z => nomatch z), _, PySem.W.kitx_none, True.intro⟩
  | bl y => cases (show u = Value.bool y from r); exact ⟨(fun z => nomatch z), _, PySem.W.kitx_bool, True.intro⟩
  | int i => obtain ⟨t, q⟩ := (show ∃ t, u = Value.int i t from r); cases q; exact ⟨(fun z => nomatch z), _, PySem.W.kitx_int, True.intro⟩
  | str y => obtain ⟨t, q⟩ := (show ∃ t, u = Value.str y t from r); cases q; exact ⟨(fun z => nomatch z), _, PySem.W.kitx_str, True.intro⟩
  | @lst a xs ea =>
    cases (show u = Value.ref a from r)
    obtain ⟨_, _, n, _, h1⟩ := (show ObjOk X.prog X.w H s.heap a (.lst xs) from I.hok a _ ea)
    exact ⟨(fun z => nomatch z), _, PySem.W.kitx_list, ⟨_, h1, rfl⟩⟩
  | @frz a ob xs ea =>
    cases (show u = Value.ref a from r)
    obtain ⟨_, _, _, n, _, h1⟩ := (show ObjOk X.prog X.w H s.heap a (.frz ob (.lst xs)) from I.hok a _ ea)
    exact ⟨(fun z => nomatch z), _, PySem.W.kitx_list, ⟨_, h1, rfl⟩⟩
  | @tup a xs ea =>
    cases (show u = Value.ref a from r)
    obtain ⟨_, _, _, p, _⟩ := (show ObjOk X.prog X.w H s.heap a (.tup xs) from I.hok a _ ea)
    obtain ⟨o, h1, h2, _⟩ := p
    exact ⟨(fun z => nomatch z), _, PySem.W.kitx_tuple, ⟨o, h1, h2⟩⟩
  | @dK a kvs ea =>
    cases (show u = Value.ref a from r)
    obtain ⟨_, _, vs, _, p⟩ := (show ObjOk X.prog X.w H s.heap a (.dK kvs) from I.hok a _ ea)
    obtain ⟨o, es, ep, h1, h2, _⟩ := p
    exact ⟨(fun z => nomatch z), _, PySem.W.kitx_dict, ⟨o, h1, h2.1⟩⟩
  | @exc a C dx ar tb w ea ed x =>
    cases (show u = Value.ref a from r)
    refine ⟨(fun z => nomatch z), _, kitx_exc (dx := some dx) x, (I.hok a _ ea).1, fun d hd => ?_⟩
    cases hd
    exact (I.hok dx _ ed).there
  | @exn a C ar tb ea x =>
    cases (show u = Value.ref a from r)
    exact ⟨(fun z => nomatch z), _, kitx_exc (dx := none) x, (I.hok a _ ea).1, fun d hd => nomatch hd⟩
def vOf : V → Value
  | .ty n => .type n
  | .ref a => .ref a
  | _ => .none
theorem vals_vOf : ∀ {cs : List V} {us : List Value}, Vals cs us → (∀ c ∈ cs, (∃ n, c = .ty n) ∨ ∃ a, c = .ref a) → us = cs.map vOf
  | _, _, .nil, _ => rfl
  | c :: cs, u :: us, .cons r t, h => by
    rw [List.map_cons, vals_vOf t fun c hc => h c (List.mem_cons_of_mem _ hc)]
    rcases h c List.mem_cons_self with ⟨n, rfl⟩ | ⟨a, rfl⟩
    · cases (show u = Value.type n from r); rfl
    · cases (show u = Value.ref a from r); rfl
def rInst (K : PySem.W.Frag) : List V → Hp → VK → Prop := fun xs H Q => ∃ v c t b, xs = [v, c] ∧ Thg K H v t ∧
  ((∃ T, c = .ty T ∧ PySem.W.kitOne K t (.type T) = some b) ∨ (∃ C, c = .ref C ∧ PySem.W.kitOne K t (.ref C) = some b) ∨
    ∃ tp cs, c = .ref tp ∧ H tp = some (.tup cs) ∧ (∀ c ∈ cs, (∃ n, c = .ty n) ∨ ∃ a, c = .ref a) ∧ PySem.W.kitAny K t (cs.map vOf) = some b) ∧ Q (.bl b) H
theorem call_inst : CallR X (.builtin "isinstance") (rInst X.K) := by
  intro pins s σ H xs us Q I r h
  obtain ⟨v, c, t, b, rfl, x, hc, q⟩ := h
  obtain ⟨u, u', rfl, ru, ru'⟩ := vals2 r
  obtain ⟨hx, φ, Z, p⟩ := x.kit I ru
  have fin : ∀ tk, EP X pins σ Q (.bool b) { s with toks := tk } := fun tk => ⟨.bl b, H, I.tok tk, rfl, q⟩
  rcases hc with ⟨T, rfl, e⟩ | ⟨C, rfl, e⟩ | ⟨tp, cs, rfl, ht, hcs, e⟩
  · cases (show u' = Value.type T from ru')
    exact PySem.W.kia_one Z I.kIn p e hx fin
  · cases (show u' = Value.ref C from ru')
    exact PySem.W.kia_one Z I.kIn p e hx fin
  · cases (show u' = Value.ref tp from ru')
    obtain ⟨_, its, rv, ⟨o, h1, h2, n, h3⟩, _⟩ := (show ObjOk X.prog X.w H s.heap tp (.tup cs) from I.hok tp _ ht)
    rcases o with ⟨oc, od, odt, osl⟩
    cases (show oc = _ from h2)
    cases (show odt = _ from h3)
    rw [← vals_vOf rv hcs] at e
    exact PySem.W.kia_tup Z I.kIn p h1 e hx fin
end
section
variable {X : Cx} {C T fI : Addr}
def tEx (C : Addr) (sp : Sp) (t : TA) : TE := fun σ H Q => t σ H fun vs H1 => vs.length ≤ sizeLine ∧ ∀ e, H1 e = none → sp (.ref e :: vs) (upd H1 e (ExO C e none none none)) (fun v H2 => v = .non ∧ Q (.ref e) H2) E0
theorem pe_exc {k : Nat} {fd : FuncData} {ps : List Str} {sp : Sp} {x : Str} {p pos : Pos} {e : Expr} {es : List Expr} {t : TA} (M : ExF X.K C T fI) (F : FnOk X.prog X.w X.K X.mg X.base CX0 k fI fd ps sp) (hr : Room (k + 1) X.A) (hg : Gl X x) (hm : X.mg x = some (.ref C))
    (hb : Binds X.K fd ps []) (ha : PA X (e :: es) t) (hdb : (x == ("__debug__" : Str)) = false := by decide) (he : starEach (e :: es) X.env = (false, eval e X.env) :: starEach es X.env := by rfl) (hpl : (backTo pos (starEach es X.env)).any (·.1) = false := by rfl) :
    PE X (.Call (.Name x p) (e :: es) [] pos) (tEx C sp t) := by
  intro pins s σ H Q I h
  refine wpAny_Call_Name_kw (ld_glob I hg hm ?_ hdb)
  refine PySem.W.callWith_K (h₀ := X.base) I.ok.mod.kin M.kp (thn (ha pos pins s σ H _ I h) fun us s1 ⟨vs, H1, I1, r, hz, q⟩ => ⟨I1.kIn, ?_⟩) he hpl
  obtain ⟨hp, g, d, tk, os⟩ := s1
  refine exc_call M.toExC I1.kIn (fun h' e hm hle => ?_) (by rw [List.nil_append, ← r.length]; exact hz)
  obtain ⟨hk, hn, tt, h1, _, h2⟩ := hm
  have I2 : Inv X pins σ (upd H1 e (ExO C e none none none)) ⟨h', g, d, tk, os⟩ := I1.laid (a := e) (o := ExO C e none none none) (h' := h') (t' := tk) hk hle (exO_ok ⟨_, _, h1, rfl, rfl, rfl, by show 0 < 6; decide, (fun t z => nomatch z), rfl⟩)
  have hq := q e (I1.hok.fresh hle)
  have r2 : Vals (V.ref e :: vs) (Value.ref e :: us) := .cons rfl r
  have hl : (Value.ref e :: us ++ []).length = ps.length := by
    have e1 := r2.length
    rw [F.len _ _ _ _ hq] at e1
    rw [List.append_nil]
    exact e1.symm
  have hbb := hb ⟨h', g, d, tk, os⟩ (Value.ref e :: us) I2.kIn hl
  rw [List.append_nil] at hbb
  refine wpAny_call (codeAny_mono (F.run _ X.stack _ _ ⟨Value.ref e :: us, []⟩ (Value.ref e :: us) _ _ E0 (hr.make C us []) (I2.env0.make C us []) hbb r2 hq) fun rr s' hq' => ?_)
  cases rr with
  | error e => exact False.elim hq'
  | ok fl =>
    cases fl with
    | ret u =>
      obtain ⟨v, H', I3, rv, ev, q3⟩ := I2.after hq'
      subst ev
      exact ⟨rv, ⟨V.ref e, H', I3, rfl, q3⟩⟩
    | next => exact False.elim hq'
    | brk => exact False.elim hq'
    | cont => exact False.elim hq'
def tBI (C : Addr) (t : TA) : TE := fun σ H Q => t σ H fun vs H1 => ∃ e dx ar tb rest, vs = .ref e :: rest ∧ rest.length ≤ sizeLine ∧ H1 e = some (ExO C e dx ar tb) ∧ ∀ t, H1 t = none → t ≠ e → Q .non (upd (upd H1 t (.tup rest)) e (ExO C e dx (some t) tb))
theorem pe_baseInit {pl : Sem Bool} {x : Str} {p apos pos : Pos} {e : Expr} {es : List Expr} {t : TA} (M : ExF X.K C T fI) (B : BaseInit X.K T) (hg : Gl X x) (hm : X.mg x = some (.ref T)) (ha : PA X (e :: es) t)
    (hdb : (x == ("__debug__" : Str)) = false := by decide) (he : starEach (e :: es) X.env = (false, eval e X.env) :: starEach es X.env := by rfl) (hpl : (backTo pos (starEach es X.env)).any (·.1) = false := by rfl)
    (ht : eval (.Call (.Attribute (.Name x p) "__init__" apos) (e :: es) [] pos) X.env = (do
      let ov ← eval (.Name x p) X.env
      standAt apos.atName
      let (f, first) ← holding [ov] (getMethod ov "__init__" pl)
      callWith pos f first (backTo pos (starEach (e :: es) X.env)) (backToKw pos (keywordEach [] X.env))) := by rfl) :
    PE X (.Call (.Attribute (.Name x p) "__init__" apos) (e :: es) [] pos) (tBI C t) := by
  intro pins s σ H Q I h
  refine PySem.W.methodCall_KW (pl := pl) (ld_glob I hg hm ?_ hdb) ht
  refine PySem.W.method_cls I.kIn B.ga (PySem.W.cls_value I.kIn B.rd B.at_ (by decide +kernel) ?_)
  refine PyProof.Rows.callWith_builtin1 (thn (ha pos pins { s with toks := s.toks + 1 } σ H _ (I.tok _) h) fun us s1 ⟨vs, H1, I1, r, q⟩ => ?_) he hpl
  obtain ⟨e', dx, ar, tb, rest, rfl, hz, hE, q⟩ := q
  cases r with
  | cons r1 r2 =>
    cases r1
    exact init_text M I1 hE r2 (by rw [← r2.length]; exact hz) fun t s' f1 f2 I' => ⟨.non, _, I', rfl, q t f1 f2⟩
def sExF (K : PySem.W.Frag) (C : Addr) (ta tv : TE) (f : Str) : TS := fun D σ H => tv σ H fun y H1 => ta σ H1 fun x H2 => ∃ e ar tb, x = .ref e ∧ H2 e = some (ExO C e none ar tb) ∧ NoAttr K C f ∧
  ∀ dx, H2 dx = none → dx ≠ e → D.nx σ (upd (upd H2 dx (XdO dx [(f, y)])) e (ExO C e (some dx) ar tb))
theorem ps_exf {o value : Expr} {f : Str} {pos pos' : Pos} {ta tv : TE} (M : ExF X.K C T fI) (ha : PE X o ta) (hv : PE X value tv) (hs : swapsWith value (some (.Attribute o f pos')) pos.line X.env = pure false) : PS X (.Assign [.Attribute o f pos'] value pos) (sExF X.K C ta tv f) := by
  intro pins s σ H D I h
  refine plainObj_wpAny_Assign_Attribute (thn (hv pins s σ H _ I h) fun u s1 ⟨y, H1, I1, ry, q⟩ => thn (ha pins s1 σ H1 _ I1 q) fun ov s2 ⟨x, H2, I2, rx, e, ar, tb, ex, ea, n, q2⟩ => ?_) hs
  subst ex
  obtain rfl : ov = Value.ref e := rx
  exact exset_ok M I2 ea n ry fun dx s3 h1 h2 I3 => ⟨σ, _, I3, q2 dx h1 h2⟩
end
end L2
set_option Elab.async false
set_option linter.all false
set_option maxRecDepth 100000
namespace L2
open PySem PySem.Spec PyProof.Rows
section
variable {prog : Program} {w : World} {A : Around} {E : Value → Shared → Prop} {s : Shared} {K : PySem.W.Frag} {e C t : Addr} {o : Obj} {od : Option Obj} {vs : Array Value} {m : Str} {tk : Tok} {nm : String}
variable {P : Program} {p : Addr} {H H' : Hp} {as as' : List Addr} {d d' : Nat} {v : V} {tx : Str}
end
end L2
set_option Elab.async false
set_option linter.all false
set_option maxRecDepth 100000
namespace L2
open PySem PySem.Spec PyProof.Rows
section
variable {w : World} {K : PySem.W.Frag} {P : Program} {p : Addr} {H H' : Hp} {as as' : List Addr} {d d' : Nat} {v : V} {tx : Str}
end
end L2
set_option Elab.async false
set_option linter.all false
set_option maxRecDepth 100000
namespace L2
open PySem PySem.Spec PyProof.Rows
section
variable {prog : Program} {w : World} {A : Around} {E : Value → Shared → Prop} {K : PySem.W.Frag} {T : Addr} {h : Heap} {g : Array GenState} {d : Drawn} {t : Nat} {os : OsState}
end
section
variable {X : Cx} {pins : List (Addr × Obj)} {σ : St} {H : Hp} {s : Shared} {T e : Addr} {A : Around} {E : Value → Shared → Prop}
end
end L2
set_option Elab.async false
set_option linter.all false
set_option maxRecDepth 100000
namespace L2
open PySem PySem.Spec PyProof.Rows
section
variable {X : Cx} {pins : List (Addr × Obj)} {σ : St} {H : Hp} {s : Shared} {h' : Heap} {C e : Addr} {A : Around} {E : Value → Shared → Prop}
theorem Inv.slots (I : Inv X pins σ H s) (x : Heap.SlotsOnly (frs X.stack) s.heap h') : Inv X pins σ H { s with heap := h' } := by
  have nf : ∀ b o, H b = some o → b ∉ frs X.stack := fun b o q m => by rw [I.stkFree b m] at q; cases q
  refine I.call (g' := s.gens) (t' := s.toks) (d' := s.drawn) (ch := []) ⟨fun b o q n hb _ => (x.2.1 b hb).trans q, fun b o q _ _ _ => x.2.2 b o q, fun _ _ _ n _ => n, fun b o q _ => let ⟨_, z⟩ := x.2.2 b o q; ⟨_, z⟩, fun _ _ q => q, fun _ _ _ q => q, fun b ps q => ⟨#[], by rw [q]; simp⟩⟩ (fun a o q => ?_) I.bare (fun _ z => nomatch z)
  refine (I.hok a o q).stay (fun b u hb z => ?_) (fun _ z => z) fun _ _ z => z
  rcases hb with rfl | hb
  · exact (x.2.1 _ (nf _ _ q)).trans z
  · exact (x.2.1 _ (nf _ _ hb)).trans z
def TbAt (b : Addr) (h : Heap) : Prop := ∃ (o : Obj) (ts : Array Value), h.get? b = some o ∧ o.data = .fields ts ∧ ts[3]? = some .none
def TbO (b : Addr) : HO := .ext (TbAt b)
theorem tbO_ok {P : Program} {w : World} {H : Hp} {h : Heap} {b : Addr} (x : TbAt b h) : ObjOk P w H h b (TbO b) := by
  refine ⟨x, ?_, fun h1 h2 q k => ?_⟩
  · obtain ⟨o, _, e1, _⟩ := x
    exact ⟨o, e1⟩
  · obtain ⟨o, ts, e1, r⟩ := q
    exact ⟨o, ts, k o e1, r⟩
theorem note_ok {dx ar tb : Option Addr} {Q : Unit → Shared → Prop} (hst : X.stack = X.env :: X.outer) (hfr : X.env.frame = some X.env.locals) (I : Inv X pins σ H s) (he : H e = some (ExO C e dx ar tb)) (ht : ∀ b, tb = some b → H b = some (TbO b) ∧ b ≠ e)
    (hA : A.frames = some X.stack) (hq : ∀ b' s', H b' = none → b' ≠ e → Inv X pins σ (upd (upd H b' (TbO b')) e (ExO C e dx ar (some b'))) s' → Q () s') : wpAny (model X.prog X.w) A (noteFrame (.ref e) X.env) (fun _ s' => wpAny (model X.prog X.w) A (setFlight (.ref e) none) Q E s') E s := by
  obtain ⟨o, vs, e1, e2, e3, e4, e5, e6, eT⟩ := ex_get I he
  have h1 : 1 < vs.size := (Array.getElem?_eq_some_iff.mp eT).1
  -- the entry is made, stored, and its flight is ended
  have tail : ∀ {s1 : Shared} {hd : Value} {nx : Bool}, Inv X pins σ H s1 → s1.heap.get? e = some o → wpAny (model X.prog X.w) A (do let a ← frameOf X.env; let pl ← entryPlaceOf X.env.locals nx; let b ← EntryCells.newEntry hd a .none (rawInt X.env.locals) .none pl; setField (.ref e) 1 b)
      (fun _ s2 => wpAny (model X.prog X.w) A (setFlight (.ref e) none) Q E s2) E s1 := fun {s1 hd nx} I1 q1 => by
    rw [hst] at hA
    have fr : s1.heap.FunFrames X.base (X.env :: X.outer) := by have := I1.stack; rw [hst] at this; exact this
    refine wpAny_bind (wpAny_frameOf_fun hA fr hfr fun h2 hs2 => ?_)
    have I2 : Inv X pins σ H { s1 with heap := h2 } := I1.slots (by rw [hst]; exact hs2)
    have ne : e ∉ (X.env :: X.outer).filterMap (·.frame) := fun m => by
      have := I1.stkFree e (by rw [hst]; exact m)
      rw [he] at this
      cases this
    have q2 : h2.get? e = some o := (hs2.2.1 e ne).trans q1
    refine wpAny_bind (wpAny_entryPlaceOf fun pl hpl => ?_)
    unfold EntryCells.newEntry newFields
    refine wpAny_bind (wpAny_newObj_type ?_ (hpl.sizeOk5 _ _ _ _ _))
    generalize hob : ({ cls := .type "traceback", data := .fields ([hd, .ref X.env.locals, .none, rawInt X.env.locals, .none] ++ (if pl.isEmpty then List.replicate 6 Value.none else pl)).toArray } : Obj) = ob
    have obd : ∃ ts, ob.data = .fields ts ∧ 3 < ts.size := by
      rw [← hob]
      exact ⟨_, rfl, by simp⟩
    obtain ⟨ts, d1, d2⟩ := obd
    have nb : h2.objs.size ≠ e := Nat.ne_of_gt (Heap.lt_size q2)
    have q3 := Heap.get?_push_of_some (h := h2) ob q2
    refine wpAny_setField q3 e4 h1 ?_
    have d3 := Obj.data_mapFields e4 (·.setIfInBounds 1 (Value.ref h2.objs.size))
    have q4 := Heap.get?_update_self (Obj.mapFields (·.setIfInBounds 1 (Value.ref h2.objs.size))) q3 (Obj.isFreed_of_fields d3)
    have q5 : ((h2.push ob).update e (Obj.mapFields (·.setIfInBounds 1 (Value.ref h2.objs.size)))).get? h2.objs.size = some ob := (Heap.get?_update_other _ _ (Ne.symm nb)).trans (Heap.get?_push_size h2 (Obj.isFreed_of_fields d1))
    unfold setFlight
    refine wpAny_bind (wpAny_field q4 d3 (x := .ref h2.objs.size) (by simp [h1]) ?_)
    rw [if_pos (show (Value.ref h2.objs.size != Value.none) = true from by simp)]
    refine wpAny_setField q5 d1 d2 ?_
    generalize hh3 : (h2.push ob).update e (Obj.mapFields (·.setIfInBounds 1 (Value.ref h2.objs.size))) = h3 at q4 q5
    have d5 := Obj.data_mapFields d1 (·.setIfInBounds 3 Value.none)
    have q6 := Heap.get?_update_self (Obj.mapFields (·.setIfInBounds 3 Value.none)) q5 (Obj.isFreed_of_fields d5)
    have q7 : (h3.update h2.objs.size (Obj.mapFields (·.setIfInBounds 3 Value.none))).get? e = some (Obj.mapFields (·.setIfInBounds 1 (Value.ref h2.objs.size)) o) := (Heap.get?_update_other _ _ nb).trans q4
    have fb : H h2.objs.size = none := I2.hok.fresh (Nat.le_refl _)
    refine hq h2.objs.size _ fb nb ?_
    -- first the entry, as it stands at last; then the error
    have obf : (Obj.mapFields (·.setIfInBounds 3 Value.none) ob).isFreed = false := Obj.isFreed_of_fields d5
    have I3 := I2.laid (a := h2.objs.size) (o := TbO h2.objs.size) (h' := h2.push (Obj.mapFields (·.setIfInBounds 3 Value.none) ob)) (t' := s1.toks) (fun b u q => Heap.get?_push_of_some _ q) (Nat.le_refl _)
      (tbO_ok ⟨_, _, Heap.get?_push_size h2 obf, d5, by simp [d2]⟩)
    refine I3.write (x := e) (e := e) (t' := s1.toks) (by rw [upd_ne (Ne.symm nb), he]; trivial) (.inl rfl) (fun b u hb q => ?_) ⟨_, q7⟩ (exO_ok ⟨_, _, q7, (Obj.cls_mapFields ..).trans e2, ?_, d3, by simpa using e5, fun t z => ?_, by simp [h1, tbV]⟩)
    · by_cases hbd : b = h2.objs.size
      · subst hbd
        rw [Heap.get?_push_size h2 obf] at q
        cases q
        exact q6
      · rw [Heap.get?_update_other _ _ (Ne.symm hbd), ← hh3, Heap.get?_update_other _ _ (Ne.symm hb)]
        have hlt : b < h2.objs.size := by
          have z := Heap.lt_size q
          have z2 : (h2.push (Obj.mapFields (·.setIfInBounds 3 Value.none) ob)).objs.size = h2.objs.size + 1 := Heap.size_push _ _
          have z3 : b < h2.objs.size + 1 := by rw [← z2]; exact z
          exact Nat.lt_of_le_of_ne (Nat.le_of_lt_succ z3) hbd
        have q' : h2.get? b = some u := by
          obtain ⟨a1, a2⟩ := Heap.get?_some_iff.mp q
          refine Heap.get?_some_iff.mpr ⟨?_, a2⟩
          have : (h2.objs.push (Obj.mapFields (·.setIfInBounds 3 Value.none) ob))[b]? = some u := a1
          rw [Array.getElem?_push_lt hlt] at this
          simpa [hlt] using this
        exact Heap.get?_push_of_some _ q'
    · have : (Obj.mapFields (·.setIfInBounds 1 (Value.ref h2.objs.size)) o).dict = o.dict := by
        rcases o with ⟨oc, od, odt, osl⟩
        cases (show odt = _ from e4)
        rfl
      rw [this, e3]
    · rw [Array.getElem?_setIfInBounds_ne (by decide)]
      exact e6 t z
  unfold noteFrame
  simp only [hfr]
  refine wpAny_bind (wpAny_field e1 e4 eT ?_)
  cases tb with
  | none =>
    rw [if_neg (show ¬ ((tbV none != Value.none) = true) from by simp [tbV])]
    exact tail I e1
  | some b =>
    obtain ⟨hb, nb⟩ := ht b rfl
    obtain ⟨ob, ts, b1, b2, b3⟩ := (show TbAt b s.heap from (I.hok b _ hb).1)
    have b4 : 3 < ts.size := (Array.getElem?_eq_some_iff.mp b3).1
    rw [if_pos (show (tbV (some b) != Value.none) = true from by simp [tbV])]
    refine wpAny_bind (wpAny_field b1 b2 b3 ?_)
    rw [if_neg (show ¬ ((Value.none == rawInt X.env.locals) = true) from by simp [rawInt])]
    refine wpAny_bind (wpAny_setField b1 b2 b4 ?_)
    have d5 := Obj.data_mapFields b2 (·.setIfInBounds 3 Value.none)
    have q6 := Heap.get?_update_self (Obj.mapFields (·.setIfInBounds 3 Value.none)) b1 (Obj.isFreed_of_fields d5)
    have I1 := I.write (x := b) (e := b) (o := TbO b) (t' := s.toks) (h' := s.heap.update b (Obj.mapFields (·.setIfInBounds 3 Value.none))) (by rw [hb]; trivial) (.inl rfl) (fun c u hc q => (Heap.get?_update_other _ _ (Ne.symm hc)).trans q) ⟨_, q6⟩ (tbO_ok ⟨_, _, q6, d5, by simp [b4]⟩)
    have eH : upd H b (TbO b) = H := by
      funext c
      by_cases hc : c = b
      · rw [hc, upd_same, hb]
      · rw [upd_ne hc]
    rw [eH] at I1
    exact tail I1 ((Heap.get?_update_other _ _ nb).trans e1)
theorem leave_ok {dx ar tb : Option Addr} {Q : Unit → Shared → Prop} (hst : X.stack = X.env :: X.outer) (hfr : X.env.frame = some X.env.locals) (I : Inv X pins σ H s) (he : H e = some (ExO C e dx ar tb)) (ht : ∀ b, tb = some b → H b = some (TbO b) ∧ b ≠ e)
    (hA : A.frames = some X.stack) (hq : ∀ b' s', H b' = none → b' ≠ e → Inv X pins σ (upd (upd H b' (TbO b')) e (ExO C e dx ar (some b'))) s' → Q () s') : wpAny (model X.prog X.w) A (leaving X.env (.ref e)) Q E s := by
  unfold leaving
  exact wpAny_bind (note_ok hst hfr I he ht hA hq)
end
end L2
set_option Elab.async false
set_option linter.all false
set_option maxRecDepth 100000
namespace L2
open PySem PySem.Spec PyProof.Rows
def CXo (P : Program) (w : World) : CXT := fun outer H s E e s' => CE outer P w H s (fun v H' => (∃ a, v = .ref a) ∧ E e none H') e s'
def Fly (C e : Addr) (dx ar tb : Option Addr) (H : Hp) : Prop := H e = some (ExO C e dx ar tb) ∧ ∀ b, tb = some b → H b = some (TbO b) ∧ b ≠ e
def past (H : Hp) (C e : Addr) (dx ar : Option Addr) (b : Addr) : Hp := upd (upd H b (TbO b)) e (ExO C e dx ar (some b))
def Outs (X : Cx) (E : XK) : Prop := ∀ (pins : List (Addr × Obj)) (σ : St) (H : Hp) (s : Shared) (C e : Addr) (dx ar tb : Option Addr), Inv X pins σ H s → Fly C e dx ar tb H → (∀ b, H b = none → b ≠ e → E (.ref e) none (past H C e dx ar b)) → X.xe (.ref e) s
theorem outs_def {P : Program} {w : World} {K : PySem.W.Frag} {mg : Str → Option Value} {base : Heap} {N : List Str} {qual : Str} {scope : Scope} {f : Addr} {cd : Value} {A : Around} {outer : List Env} {s₀ : Shared} {H₀ : Hp} {E : XK} :
    Outs (cxOf (CXo P w) P w K mg base N qual scope f cd A outer s₀ H₀ E) E := fun pins σ H s C e dx ar tb I fl h => by
  refine leave_ok (X := cxOf (CXo P w) P w K mg base N qual scope f cd A outer s₀ H₀ E) rfl rfl I fl.1 fl.2 I.ok.frames fun b s' f1 f2 J => ?_
  exact ⟨.ref e, _, J.os, J.bare, J.base, J.hok, rfl, ⟨e, rfl⟩, h b f1 f2⟩
structure ExR (K : PySem.W.Frag) (C : Addr) : Prop where
  be : PySem.W.mroIn K C (.type "BaseException") = some true
  ty : PySem.W.typeIn K (.ref C) = some (.type "type")
section
variable {X : Cx} {E : XK} {x : Expr} {tx : TE} {pos : Pos}
def tRaise (K : PySem.W.Frag) (E : XK) (tx : TE) : TS := fun D σ H => tx σ H fun v H1 => ∃ C e dx ar, v = .ref e ∧ ExR K C ∧ Fly C e dx ar none H1 ∧ ∀ b, H1 b = none → b ≠ e → E (.ref e) none (past H1 C e dx ar b)
theorem ps_raise (o : Outs X E) (hc : X.calm = true) (h : PE X x tx) : PS X (.Raise (some x) none pos) (tRaise X.K E tx) := by
  intro pins s σ H D I q
  rw [arm_exec_Raise]
  refine wpAny_bind (wpAny_standAt ?_)
  show wpAny _ _ (raiseStmt X.env (some (do let v ← eval x X.env; standAt pos; pure v)) none) _ _ _
  unfold raiseStmt
  refine wpAny_bind (wpAny_bind (thn (h pins s σ H _ I q) fun v s1 ⟨y, H1, I1, ry, C, e, dx, ar, ey, r, fl, k⟩ => wpAny_bind (wpAny_standAt (wpAny_pure ?_))))
  subst ey
  obtain rfl : v = Value.ref e := ry
  obtain ⟨ob, vs, e1, e2, e3, e4, e5, e6, eT⟩ := ex_get I1 fl.1
  have J : PySem.W.Looks (model X.prog X.w) s1.heap (typeOf (.ref e)) (.ref C) := e2 ▸ (PySem.W.Looks.ld e1).andThen .now
  have nt : ∀ {A : Around} {R : Bool → Shared → Prop} {E' : Value → Shared → Prop}, R false s1 → wpAny (model X.prog X.w) A (isType (.ref e)) R E' s1 := fun {A R E'} hr => by
    unfold isType loadHead
    refine wpAny_bind (wpAny_loadPart e1 ?_)
    rw [e4]
    exact wpAny_pure hr
  have inst : PySem.W.Looks (model X.prog X.w) s1.heap (isInstance (.ref e) (.type "BaseException")) true := J.andThen (PySem.W.looks_mroIn I1.kIn r.be)
  dsimp only
  refine wpAny_bind (wpAny_pure (wpAny_bind (wpAny_holding ?_)))
  unfold excFromValue isExcClass
  refine wpAny_bind (wpAny_bind (nt ?_))
  rw [if_neg Bool.false_ne_true]
  refine wpAny_pure ?_
  rw [if_neg Bool.false_ne_true]
  refine wpAny_bind (inst.here ?_)
  rw [if_pos rfl]
  refine wpAny_pure (wpAny_bind (nt ?_))
  rw [if_neg Bool.false_ne_true]
  refine wpAny_bind ?_
  unfold raisedInstance
  refine wpAny_bind (J.here (wpAny_bind ((PySem.W.looks_typeIn I1.kIn r.ty).here ?_)))
  rw [if_pos (by decide)]
  refine wpAny_pure (wpAny_bind ?_)
  unfold setFlight
  refine wpAny_bind (wpAny_field e1 e4 eT ?_)
  rw [if_neg (show ¬ ((tbV none != Value.none) = true) from by simp [tbV])]
  refine wpAny_pure ?_
  unfold raiseNew
  refine wpAny_bind (wpAny_handled ?_)
  rw [I1.ok.hd hc]
  have fin := o pins σ H1 s1 C e dx ar none I1 fl k
  first
    | exact wpAny_throw fin
    | exact wpAny_bind (wpAny_pure (wpAny_throw fin))
end
end L2
set_option Elab.async false
set_option linter.all false
set_option maxRecDepth 100000
namespace L2
open PySem PySem.Spec PyProof.Rows
section
variable {X : Cx} {pins : List (Addr × Obj)} {σ : St} {H : Hp} {s : Shared} {h' : Heap} {e : Addr}
structure ExM (K : PySem.W.Frag) (D : Addr) : Prop where
  be : PySem.W.mroIn K D (.type "BaseException") = some true
  ty : PySem.W.typeIn K (.ref D) = some (.type "type")
  cl : (PySem.W.clsIn K D).isSome = true
theorem fly_past {C : Addr} {dx ar : Option Addr} {b : Addr} (h : b ≠ e) : Fly C e dx ar (some b) (past H C e dx ar b) := by
  refine ⟨upd_same, fun b' z => ?_⟩
  cases z
  exact ⟨by show upd _ _ _ _ = _; rw [upd_ne h, upd_same], h⟩
end
end L2
set_option Elab.async false
set_option linter.all false
set_option maxRecDepth 100000
namespace L2
open PySem PySem.Spec PyProof.Rows
section
variable {prog : Program} {w : World} {A : Around} {E : Value → Shared → Prop} {s : Shared}
end
end L2
set_option Elab.async false
set_option linter.all false
set_option maxRecDepth 100000
namespace L2
open PySem PySem.Spec PyProof.Rows
section
variable {X : Cx}
end
end L2
set_option Elab.async false
set_option linter.all false
set_option maxRecDepth 100000
namespace L2
open PySem PySem.Spec PyProof.Rows
section
variable {prog : Program} {w : World} {A : Around} {E : Value → Shared → Prop}
end
section
variable {X : Cx} {pos : Pos}
end
end L2
set_option Elab.async false
set_option linter.all false
set_option maxRecDepth 100000
namespace L2
open PySem PySem.Spec PyProof.Rows
theorem bt_len : bootBuiltins "len" = some (.builtin "len") := by decide +kernel
theorem bt_max : bootBuiltins "max" = some (.builtin "max") := by decide +kernel
theorem bt_min : bootBuiltins "min" = some (.builtin "min") := by decide +kernel
theorem bt_isinstance : bootBuiltins "isinstance" = some (.builtin "isinstance") := by decide +kernel
theorem bt_list : bootBuiltins "list" = some (.type "list") := by decide +kernel
theorem bt_int : bootBuiltins "int" = some (.type "int") := by decide +kernel
theorem bt_bool : bootBuiltins "bool" = some (.type "bool") := by decide +kernel
structure Dn (K : PySem.W.Frag) (mg : Str → Option Value) (x qual : Str) (st : Stmt) (ps : List Str) (f : Addr) (fd : FuncData) : Prop where
  fn : Fun K x qual st f fd
  b : Binds K fd ps []
  m : mg x = some (.ref f)
theorem dn_mk {K : PySem.W.Frag} {h : Heap} {mg : Str → Option Value} (X : K.In h) (G : h.Ns mainGlobals mg) {x : Str} {st : Stmt} {ps : List Str} {f : Addr} {oc : Value} {od an : Option Addr} {osl : Array (Option Value)} {kV doc pm cdv ct : Value}
    (a : PySem.W.nsIn K mainGlobals x = some (some (.ref f))) (l : K.lookup f = some ⟨oc, od, .func (PySem.W.fnOf x x (defArgs st) (defBody st) (defScope st) .none kV doc pm an cdv ct), osl⟩)
    (c : PySem.W.codeIn K cdv x = true) (k : PySem.W.keepIn K (.ref f) = true)
    (b : ∀ (kV doc pm : Value) (an : Option Addr) (cdv ct : Value) (us : List Value), us.length = ps.length → bindArgs (PySem.W.fnOf x x (defArgs st) (defBody st) (defScope st) .none kV doc pm an cdv ct) ⟨us, []⟩ = pure (ps.zip us)) :
    ∃ f fd, Dn K mg x x st ps f fd := ⟨f, _, fun_mk (st := st) l c k, (fun_mk (st := st) l c k).binds b, PySem.W.mg_of X G a⟩
def isStar : Expr → Bool
  | .Starred _ _ => true
  | _ => false
theorem star_cons {e : Expr} {es : List Expr} {env : Env} (h : isStar e = false) : starEach (e :: es) env = (false, eval e env) :: starEach es env := by
  cases e with
  | Starred a b => exact Bool.noConfusion h
  | _ => kernel_rfl
theorem pa_c {X : Cx} {e : Expr} {es : List Expr} {te : TE} {t : TA} (ha : PE X e te) (hr : PA X es t) (h : isStar e = false := by rfl) : PA X (e :: es) (tCons te t) := pa_cons ha hr (star_cons h)
section
variable {X : Cx} {es : List Expr} {t : TA} {j : Nat} {p : Pos}
end
def blkOk (fs : Scope) (scope : Scope) (N : List Str) (x : Str) (Nf : List Str) (js : List Nat) : Bool :=
  (scope.kind == .function) && scope.names.all (fun y => y.2 != .cell) && scope.names.all (fun y => y.2 != .local || scope.names.lookup y.1 == some .local) && (scope.names.lookup x == some .local) &&
    decide (x :: Nf).Nodup && scope.names.all (fun y => y.2 != .free || fs.names.lookup y.1 == some .cell) && (Nf.length == js.length) &&
    (Nf.zip js).all (fun p => N[p.2]? == some p.1 && scope.names.lookup p.1 == some .free && fs.names.lookup p.1 == some .cell)
theorem blk_mk {X : Cx} {scope : Scope} {x : Str} (Nf : List Str) (js : List Nat) (h : blkOk X.env.scope scope X.N x Nf js = true := by kernel_rfl) : BlkScope X scope x Nf js := by
  unfold blkOk at h
  simp only [Bool.and_eq_true, beq_iff_eq, decide_eq_true_eq] at h
  obtain ⟨⟨⟨⟨⟨⟨⟨h1, h2⟩, h3⟩, h4⟩, h5⟩, h6⟩, h7⟩, h8⟩ := h
  refine ⟨h1, fun y hy => ?_, fun y hy hl => ?_, h4, h5, fun y hy hf => ?_, h7, fun i z hz => ?_⟩
  · have := List.all_eq_true.mp h2 y hy
    simpa using this
  · have := List.all_eq_true.mp h3 y hy
    rw [hl] at this
    simpa using this
  · have := List.all_eq_true.mp h6 y hy
    rw [hf] at this
    show X.env.scope.names.lookup y.1 = some .cell
    simpa using this
  · have hi : i < js.length := by rw [← h7]; exact (List.getElem?_eq_some_iff.mp hz).1
    have hm : (z, js[i]) ∈ Nf.zip js := by
      have e : (Nf.zip js)[i]? = some (z, js[i]) := by
        rw [List.getElem?_zip_eq_some]
        exact ⟨hz, by simp [hi]⟩
      exact List.mem_of_getElem? e
    have q := List.all_eq_true.mp h8 _ hm
    rw [Bool.and_eq_true, Bool.and_eq_true, beq_iff_eq, beq_iff_eq, beq_iff_eq] at q
    exact ⟨js[i], by simp [hi], q.1.1, q.1.2, q.2⟩
def ItB (K : PySem.W.Frag) (tp : Bool) (a : Addr) : It := if tp then Itt K a else Itl K a
def KB (p : Addr) (H H' : Hp) : Prop := ∀ b o, H b = some o → b ≠ p → H' b = some o
theorem KB.refl {p : Addr} {H : Hp} : KB p H H := fun _ _ h _ => h
theorem KB.trans {p : Addr} {H H1 H2 : Hp} (a : KB p H H1) (b : KB p H1 H2) : KB p H H2 := fun c o h n => b c o (a c o h n) n
theorem Same.kb {p : Addr} {H H' : Hp} (a : Same H H') : KB p H H' := fun b o h _ => a b o h
theorem Same.upd {H : Hp} {p : Addr} {o : HO} (h : H p = none) : Same H (upd H p o) := fun b u q => by rw [upd_ne (ne_of_none q h)]; exact q
theorem KB.updP {H H1 : Hp} {p : Addr} {o : HO} (k : KB p H H1) : KB p H (upd H1 p o) := fun b u z n => by rw [upd_ne n]; exact k b u z n
end L2
set_option Elab.async false
set_option linter.all false
set_option maxRecDepth 100000
namespace L2
open PySem PySem.Spec PyProof.Rows
def kD : Key → PyData
  | .inl i => .int i
  | .inr x => .str x
mutual
inductive DV (N : Addr → Prop) (H : Hp) : V → PyData → Prop
  | non : DV N H .non .none
  | bl (b : Bool) : DV N H (.bl b) (.bool b)
  | int (i : Int) : DV N H (.int i) (.int i)
  | str (x : Str) : DV N H (.str x) (.str x)
  | lst {a : Addr} {xs : List V} {ds : List PyData} : ¬ N a → H a = some (.lst xs) → DVs N H xs ds → DV N H (.ref a) (.list ds)
  | tup {a : Addr} {xs : List V} {ds : List PyData} : ¬ N a → H a = some (.tup xs) → DVs N H xs ds → DV N H (.ref a) (.tuple ds)
  | dct {a : Addr} {kvs : List (Key × V)} {ds : List (PyData × PyData)} : ¬ N a → H a = some (.dK kvs) → DKs N H kvs ds → DV N H (.ref a) (.dict ds)
inductive DVs (N : Addr → Prop) (H : Hp) : List V → List PyData → Prop
  | nil : DVs N H [] []
  | cons {v : V} {d : PyData} {vs : List V} {ds : List PyData} : DV N H v d → DVs N H vs ds → DVs N H (v :: vs) (d :: ds)
inductive DKs (N : Addr → Prop) (H : Hp) : List (Key × V) → List (PyData × PyData) → Prop
  | nil : DKs N H [] []
  | cons {k : Key} {v : V} {d : PyData} {vs : List (Key × V)} {ds : List (PyData × PyData)} : DV N H v d → DKs N H vs ds → DKs N H ((k, v) :: vs) ((kD k, d) :: ds)
end
def tyD : PyData → Value
  | .none => .type "NoneType" | .bool _ => .type "bool" | .int _ => .type "int" | .str _ => .type "str" | .list _ => .type "list" | .tuple _ => .type "tuple" | .dict _ => .type "dict"
theorem DV.thg {K : PySem.W.Frag} {N : Addr → Prop} {H : Hp} {v : V} {d : PyData} (x : DV N H v d) : Thg K H v (tyD d) := by
  cases x with
  | non => exact .non
  | bl b => exact .bl b
  | int i => exact .int i
  | str x => exact .str x
  | lst _ e _ => exact .lst e
  | tup _ e _ => exact .tup e
  | dct _ e _ => exact .dK e
section
variable {X : Cx} {pins : List (Addr × Obj)} {σ : St} {H : Hp} {s : Shared} {N : Addr → Prop}
end
theorem bt_all : bootBuiltins "all" = some (.builtin "all") := by decide +kernel
end L2
set_option Elab.async false
set_option linter.all false
set_option maxRecDepth 100000
namespace L2
open PySem PySem.Spec PyProof.Rows
section
variable {X : Cx}
theorem call_allB (hh : X.A.handled = none) : CallR X (.builtin "all") (fun xs H Q => ∃ (a : Addr) (bs : List Bool), xs = [.ref a] ∧ H a = some (.lst (bs.map V.bl)) ∧ Q (.bl (bs.all id)) H) := by
  intro pins s σ H xs us Q I r h
  obtain ⟨a, bs, rfl, hl, q⟩ := h
  obtain ⟨u, rfl, rx⟩ := vals1 r
  cases rx
  obtain ⟨hz, its, n, rv, g⟩ := (show ObjOk X.prog X.w H s.heap a (.lst (bs.map V.bl)) from I.hok a _ hl)
  have isl : s.heap.IsList a its.toArray := ⟨_, g, rfl, n, rfl⟩
  have lt := Heap.lt_size g
  refine call_all_walk (wpAny_pyIter_list isl ?_)
  have at_ : ∀ (i : Nat) (v : Value), its.toArray[i]? = some v → v = .bool (bs.getD i false) := fun i v e => by
    have e' : its[i]? = some v := by simpa using e
    obtain ⟨j1, j2⟩ := List.getElem?_eq_some_iff.mp e'
    have hi : i < bs.length := by have := rv.length; rw [List.length_map] at this; omega
    obtain ⟨u, u1, u2⟩ := rv.get (i := i) (x := .bl bs[i]) (by simp [hi])
    rw [e'] at u1
    cases u1
    rw [show v = Value.bool bs[i] from u2]
    simp [hi]
  refine ⟨_, _, _, _, _, _, fun i => bs.getD i false, rfl, Walks.list (by simp [hh]) _ a (Nat.ne_of_lt lt) its.toArray, ⟨⟨_, Heap.get?_push_size _ rfl, rfl, rfl⟩, isl.push _⟩, ?_, fun h' tk k => ?_⟩
  · intro i v s' R E' e hr
    rw [at_ i v e]
    exact wpAny_pure hr
  · have kk : ∀ b o, s.heap.get? b = some o → h'.get? b = some o := fun b o e => k b o (by
      intro z
      rw [List.mem_singleton.mp z] at e
      exact absurd (Heap.lt_size e) (Nat.lt_irrefl _)) (Heap.get?_push_of_some _ e)
    refine ⟨.bl (bs.all id), H, I.kept kk, ?_, q⟩
    show Value.bool _ = Value.bool _
    congr 1
    have e1 : its.toArray.size = bs.length := by have := rv.length; rw [List.length_map] at this; simp [← this]
    rw [e1]
    clear q rv hl isl g at_ e1
    rw [Bool.eq_iff_iff, List.all_eq_true, List.all_eq_true]
    constructor
    · intro f b hb
      obtain ⟨i, hi, e⟩ := List.getElem_of_mem hb
      have := f i (List.mem_range.mpr hi)
      simpa [hi, e] using this
    · intro f i hi
      have hi' := List.mem_range.mp hi
      have := f bs[i] (List.getElem_mem hi')
      simpa [hi'] using this
end
end L2
set_option Elab.async false
set_option linter.all false
set_option maxRecDepth 100000
namespace L2
open PySem PySem.Spec PyProof.Rows
section
variable {prog : Program} {w : World} {A : Around} {E : Value → Shared → Prop} {s : Shared}
end
section
variable {X : Cx}
end
end L2
set_option Elab.async false
set_option linter.all false
set_option maxRecDepth 100000
set_option maxHeartbeats 1000000
namespace L2
open PySem PyProof PyProof.Rows
theorem dict_len_at : typeLookup (.type "dict") "__len__" = pure (some (.builtin "dict.__len__")) := by rw [typeLookup_type, builtinLookup_eq_fast]; kernel_rfl
section
variable {prog : Program} {w : World} {A : Around} {E : Value → Shared → Prop} {s : Shared} {KK : Type} [DecidableEq KK] {knd : KeyKind prog w KK}
theorem go_in {R : Result → Shared → Prop} {id : String} {args : Args} {b : Builtin} (ent : entryFor table id = some b) (pl : plainId id = true) (k : wpAny (model prog w) A.in1 (b args) (fun fin t => match fin with | .done f => R (.ok f) t | .again c => c.quiet = true ∧ codeAny (model prog w) A c R t) (fun e t => R (.error e) t) s) : codeAny (model prog w) A (.builtin id args) R s :=
  codeAny_builtin ent (by rw [Around.under_plainId pl]; exact k)
theorem keys_of_dict {d : Addr} {kvs : List (KK × Value)} {ep : Nat} {Q : List Value → Shared → Prop} (hh : A.handled = none) (hS : (d == sysModules) = false) (hm : s.heap.DictAt knd d kvs ep) (hn : kvs.length ≤ sizeLine)
    (q : ∀ h' tk acc, s.heap.objs.size ≤ h'.objs.size → (∀ b o, s.heap.get? b = some o → h'.get? b = some o) → ItemsOf (fun i v => ∃ k x, kvs[i]? = some (k, x) ∧ knd.is k v = true) acc kvs.length → Q acc.toList { s with heap := h', toks := tk }) : wpAny (model prog w) A (collect (.ref d)) Q E s := by
  have dlt := hm.lt_size
  have T0 : s.TypeIs (.ref d) "dict" := hm.dictOf.typeIs
  refine show wpAny _ _ (runValue (.builtin "proto.collect" ⟨[.ref d], []⟩) >>= _) _ _ s from wpAny_bind (wpAny_runValue (go_in F.entry_proto_collect F.plain_proto_collect ?c0))
  refine wpAny_bind (m := newList []) (wpAny_newList (wpAny_pure ⟨plainId_quiet F.plain_list_iadd _, go_in F.entry_list_iadd F.plain_list_iadd (show wpAny _ A.in1 (typeOf (.ref d) >>= _) _ _ _ from ?c2)⟩))
  have m1 := hm.push { cls := .type "list", data := .seq ([] : List Value).toArray }
  have g1 : (s.heap.push { cls := .type "list", data := .seq ([] : List Value).toArray }).get? s.heap.objs.size = some { cls := .type "list", data := .seq ([] : List Value).toArray } := Heap.get?_push_size _ rfl
  have z1 : (s.heap.push { cls := .type "list", data := .seq ([] : List Value).toArray }).objs.size = s.heap.objs.size + 1 := by rw [Heap.size_push]
  have k1 : ∀ b o, s.heap.get? b = some o → (s.heap.push { cls := .type "list", data := .seq ([] : List Value).toArray }).get? b = some o := fun b o e => Heap.get?_push_of_some _ e
  generalize s.heap.push { cls := .type "list", data := .seq ([] : List Value).toArray } = h1 at *
  refine wpAny_bind (wpAny_typeOf (T := "dict") (s := { s with heap := h1 }) m1.dictOf.typeIs ?c3)
  have nd : s.heap.objs.size ≠ d := fun e => Nat.lt_irrefl _ (e ▸ dlt)
  have e1 : Builtin.List.listSameRef (.ref s.heap.objs.size) (.ref d) = false := by simp [Builtin.List.listSameRef, nd]
  rw [if_neg (by rw [e1]; decide)]
  refine wpAny_bind (wpAny_pyIter_dict (s := { s with heap := h1 }) hS m1 ?c4)
  dsimp only
  have m2 := m1.push { cls := .type "dict_keyiterator", data := .fields #[.ref d, .int 0 0, .int kvs.length 0, .int ep 0] }
  have i2 : (h1.push { cls := .type "dict_keyiterator", data := .fields #[.ref d, .int 0 0, .int kvs.length 0, .int ep 0] }).IsKeyIter h1.objs.size d 0 kvs.length ep := ⟨_, Heap.get?_push_size _ rfl, rfl, rfl⟩
  have g2 := Heap.get?_push_of_some { cls := .type "dict_keyiterator", data := .fields #[.ref d, .int 0 0, .int kvs.length 0, .int ep 0] } g1
  have k2 : ∀ b o, s.heap.get? b = some o → (h1.push { cls := .type "dict_keyiterator", data := .fields #[.ref d, .int 0 0, .int kvs.length 0, .int ep 0] }).get? b = some o := fun b o e => Heap.get?_push_of_some _ (k1 b o e)
  have n2 : s.heap.objs.size ≠ h1.objs.size := by rw [z1]; exact Nat.ne_of_lt (Nat.lt_succ_self _)
  have dI : d ≠ h1.objs.size := by rw [z1]; exact Nat.ne_of_lt (Nat.lt_succ_of_lt dlt)
  generalize hI : h1.objs.size = It at *
  generalize h1.push { cls := .type "dict_keyiterator", data := .fields #[.ref d, .int 0 0, .int kvs.length 0, .int ep 0] } = h2 at *
  refine wpAny_bind (wpAny_holding ?c5); unfold Builtin.List.listLengthHint
  refine wpAny_bind (wpAny_specialOf (T := "dict") (s := { s with heap := h2 }) m2.dictOf.typeIs dict_len_at ?c6)
  wp_delta
  refine wpAny_bind (wpAny_isInstance (T := "dict") (s := { s with heap := h2 }) (b := true) m2.dictOf.typeIs (by rw [isSubtype_type]; kernel_rfl) ?c7)
  show wpAny _ A.in1 (typeOf (Value.ref d) >>= _) _ _ _
  refine wpAny_bind (wpAny_typeOf (T := "dict") (s := { s with heap := h2 }) m2.dictOf.typeIs ?c8)
  refine wpAny_pure ?c9
  rw [if_pos (by decide +kernel)]
  refine wpAny_bind (wpAny_rule ?c10)
  refine wpAny_bind ?c11
  show wpAny _ _ (updateSeq s.heap.objs.size (·.push .none) >>= fun _ => updateSeq s.heap.objs.size (·.pop)) _ _ _
  refine wpAny_bind (wpAny_updateSeq (s := { s with heap := h2 }) g2 rfl ?c12)
  have g3 := Heap.get?_update_self (Obj.mapSeq (·.push Value.none)) g2 rfl
  refine wpAny_updateSeq (hz := by seq_fits) g3 rfl ?c13
  have g4 := Heap.get?_update_self (Obj.mapSeq (·.pop)) g3 rfl
  have o4 : ∀ b o, b ≠ s.heap.objs.size → h2.get? b = some o → ((h2.update s.heap.objs.size (Obj.mapSeq (·.push Value.none))).update s.heap.objs.size (Obj.mapSeq (·.pop))).get? b = some o := fun b o n e =>
    (Heap.get?_update_other _ _ (Ne.symm n)).trans ((Heap.get?_update_other _ _ (Ne.symm n)).trans e)
  generalize (h2.update s.heap.objs.size (Obj.mapSeq (·.push Value.none))).update s.heap.objs.size (Obj.mapSeq (·.pop)) = h4 at *
  have W := (Walks.dictKeys (prog := prog) (w := w) (A := A.in1) (knd := knd) hh It d dI kvs ep).toS
  have out : s.heap.objs.size ∉ [It, d] := fun z => by
    rcases List.mem_cons.mp z with z | z
    · exact n2 z
    · exact nd (List.mem_singleton.mp z)
  refine wpAny_pure ⟨plainId_quiet F.plain_extend_loop _, codeAny_extend_loopS W hn s.heap.objs.size out _ kvs.length 0 _ _ _ rfl (Nat.zero_le _) ⟨i2.at fun o e => o4 _ _ (Ne.symm n2) e, m2.at' fun o e => o4 _ _ (Ne.symm nd) e⟩ g4 (ItemsOf.nil _) fun s' acc' c' mv gS it => ?c14⟩
  refine show wpAny _ A (load s.heap.objs.size >>= _) _ _ s' from wpAny_bind (wpAny_load gS ?c15)
  have eq := Moved.eq_with mv
  have kp : ∀ b o, s.heap.get? b = some o → s'.heap.get? b = some o := fun b o e => by
    have lt := Heap.lt_size e
    have b1 : b ≠ s.heap.objs.size := Nat.ne_of_lt lt
    refine mv.heap b o (fun z => ?_) (o4 b o b1 (k2 b o e))
    rcases List.mem_cons.mp z with z | z
    · exact b1 z
    · rw [List.mem_singleton.mp z, z1] at lt
      exact absurd lt (Nat.not_lt.mpr (Nat.le_succ _))
  have sz := Nat.le_of_lt (Heap.lt_size gS)
  rw [eq]
  exact wpAny_pure (q s'.heap s'.toks acc' sz kp it)
end
theorem ints_by {us : List Value} {ns : List Int} (l : us.length = ns.length) (f : ∀ (i : Nat) (u : Value) (n : Int), us[i]? = some u → ns[i]? = some n → ∃ t, u = .int n t) : IntsAre us ns := by
  induction us generalizing ns with
  | nil =>
    have e : ns = [] := List.length_eq_zero_iff.mp l.symm
    rw [e]
    exact .nil
  | cons u us ih =>
    obtain ⟨n, ns, rfl⟩ := List.exists_cons_of_length_eq_add_one (n := us.length) l.symm
    obtain ⟨t, rfl⟩ := f 0 u n rfl rfl
    exact .cons n t (ih (Nat.succ.inj l) fun i u' n' a b => f (i + 1) u' n' a b)
section
variable {X : Cx}
end
end L2
set_option Elab.async false
set_option linter.all false
set_option maxRecDepth 100000
set_option maxHeartbeats 1000000
namespace L2
open PySem PyProof PyProof.Rows
section
variable {s : Shared} {E : Value → Shared → Prop} {A : Around} {prog : Program} {w : World}
end
section
variable {X : Cx}
end
end L2
set_option Elab.async false
set_option linter.all false
set_option maxRecDepth 100000
set_option maxHeartbeats 1000000
namespace L2
open PySem PyProof PyProof.Rows
section
variable {s : Shared} {E : Value → Shared → Prop} {A : Around} {prog : Program} {w : World}
end
section
variable {X : Cx} {o e : Expr} {es : List Expr} {to : TE} {t : TA} {name : Str} {apos cpos : Pos} {id : String} {r : V → List V → Hp → VK → Prop}
end
end L2
set_option Elab.async false
set_option linter.all false
set_option maxRecDepth 100000
set_option maxHeartbeats 1000000
namespace L2
open PySem PyProof PyProof.Rows
section
variable {X : Cx}
end
end L2
set_option Elab.async false
set_option linter.all false
set_option maxRecDepth 100000
set_option maxHeartbeats 1000000
namespace L2
open PySem PyProof PyProof.Rows
section
variable {X : Cx}
theorem op_inD (hu : X.A.units + 1 < cLine) : OpR X (compareOp .In) (fun x y H Q => ∃ a o, y = .ref a ∧ DGet H a x o ∧ Q (.bl o.isSome) H) := by
  intro pins s σ H x y v u Q I rx ry h
  obtain ⟨a, o, rfl, g, q⟩ := h
  cases ry
  exact d_in hu I g rx fun s' I' => ⟨.bl _, H, I', rfl, q⟩
theorem op_notInD (hu : X.A.units + 1 < cLine) : OpR X (compareOp .NotIn) (fun x y H Q => ∃ a o, y = .ref a ∧ DGet H a x o ∧ Q (.bl (!o.isSome)) H) := by
  intro pins s σ H x y v u Q I rx ry h
  obtain ⟨a, o, rfl, g, q⟩ := h
  cases ry
  exact d_notIn hu I g rx fun s' I' => ⟨.bl _, H, I', rfl, q⟩
end
end L2
set_option Elab.async false
set_option linter.all false
set_option maxRecDepth 100000
set_option maxHeartbeats 400000
namespace L2
open PySem
def Ag (B : List Addr) (h h' : Heap) : Prop := h'.objs.size = h.objs.size ∧ ∀ c, c ∉ B → h'.get? c = h.get? c
section
variable {prog : Program} {w : World} {A : Around} {E : Value → Shared → Prop} {s : Shared} {z TI TO i1 i2 l1 l2 : Addr} {n1 n2 i : Nat} {P1 P2 : Nat → Value → Prop} {St1 St2 : Nat → Heap → Prop}
end
end L2
set_option Elab.async false
set_option linter.all false
set_option maxRecDepth 100000
set_option maxHeartbeats 400000
namespace L2
open PySem
section
variable {prog : Program} {w : World} {A : Around} {E : Value → Shared → Prop} {s : Shared} {z TI TO i1 i2 l1 l2 : Addr} {n1 n2 i : Nat} {P1 P2 : Nat → Value → Prop} {St1 St2 : Nat → Heap → Prop}
end
end L2
set_option Elab.async false
set_option linter.all false
set_option maxRecDepth 100000
set_option maxHeartbeats 400000
namespace L2
open PySem
section
variable {prog : Program} {w : World} {A : Around} {E : Value → Shared → Prop} {s : Shared} {z TI TO i1 i2 l1 l2 : Addr} {n1 n2 i : Nat} {P1 P2 : Nat → Value → Prop} {St1 St2 : Nat → Heap → Prop}
end
end L2
set_option Elab.async false
set_option linter.all false
set_option maxRecDepth 100000
set_option maxHeartbeats 1000000
namespace L2
open PySem
section
variable {prog : Program} {w : World} {A : Around} {E : Value → Shared → Prop} {s : Shared} {z TI TO : Addr} {f0 f1 : Value}
end
end L2
set_option Elab.async false
set_option linter.all false
set_option maxRecDepth 100000
set_option maxHeartbeats 1000000
namespace L2
open PySem
section
variable {s : Shared} {E : Value → Shared → Prop} {A : Around} {prog : Program} {w : World}
variable {z TI TO i1 i2 l1 l2 : Addr} {n1 n2 i : Nat} {P1 P2 : Nat → Value → Prop} {St1 St2 : Nat → Heap → Prop}
end
end L2
set_option Elab.async false
set_option linter.all false
set_option maxRecDepth 100000
set_option maxHeartbeats 1000000
namespace L2
open PySem PyProof PyProof.Rows
section
variable {prog : Program} {w : World} {A : Around} {KK : Type} [DecidableEq KK] {knd : KeyKind prog w KK} {R : Result → Shared → Prop}
variable {z TI TO i1 i2 l1 l2 : Addr} {n : Nat} {P1 P2 : Nat → Value → Prop} {St1 St2 : Nat → Heap → Prop}
end
section
variable {prog : Program} {w : World} {A : Around} {E : Value → Shared → Prop} {s : Shared} {KK : Type} [DecidableEq KK] {knd : KeyKind prog w KK}
end
section
variable {X : Cx} {a b : Expr} {t : TA} {p p' pos pos' : Pos} {tp : Bool}
end
end L2
set_option Elab.async false
set_option linter.all false
set_option maxRecDepth 100000
set_option maxHeartbeats 1000000
namespace L2
open PySem PyProof PyProof.Rows
section
variable {X : Cx}
end
end L2
set_option Elab.async false
set_option linter.all false
set_option maxRecDepth 100000
set_option maxHeartbeats 1000000
namespace L2
open PySem PyProof PyProof.Rows
theorem Inv.turnT {X : Cx} {pins : List (Addr × Obj)} {σ : St} {H : Hp} {s : Shared} {h' : Heap} {t' : Nat} {T : Addr} {xs : List V} {us : List Value} (ch : List Addr) (I : Inv X pins σ H s) (hf : ∀ b ∈ ch, FpOk X pins H b) (k : ∀ b o, b ∉ ch → s.heap.get? b = some o → h'.get? b = some o)
    (lT : s.heap.objs.size ≤ T) (r : Vals xs us) (hz : xs.length ≤ sizeLine) (hT : h'.get? T = some { cls := .type "tuple", data := .seq us.toArray }) : Inv X pins σ (upd H T (.tup xs)) { s with heap := h', toks := t' } := by
  have fT : H T = none := I.hok.fresh lT
  have nT : ∀ b o, s.heap.get? b = some o → b ≠ T := fun b o q => Nat.ne_of_lt (Nat.lt_of_lt_of_le (Heap.lt_size q) lT)
  have nH : ∀ b u, H b = some u → b ∉ ch := fun b u q z => by rw [(hf b z).1] at q; cases q
  refine I.step (g' := s.gens) (d' := s.drawn) (ch := ch) (fun b hb => ?_) (fun b o _ _ hc q _ => k b o hc q) (fun b o _ _ hc q _ => ⟨o.slots, k b o hc q⟩)
    (fun b o _ q n => by rw [upd_ne (nT b o q)]; exact n) (fun b o hc q => ⟨o, k b o hc q⟩) (fun b ys q => by rw [upd_ne (ne_of_none q fT)]; exact q) (fun b o u q => by rw [upd_ne (ne_of_none q fT)]; exact q)
    (fun b ps q => ⟨#[], by rw [upd_ne (ne_of_none q fT), q]; simp⟩) (fun m hm => ?_) (fun b u q => ?_) I.bare
  · obtain ⟨_, f1, _, f3, f4, f5⟩ := hf b hb
    exact ⟨f3, f1, f4, f5⟩
  · obtain ⟨o, es, ep, ho, r⟩ := hm
    exact ⟨o, es, ep, k _ o (fun z => (hf _ z).2.1 rfl) ho, r⟩
  · by_cases hb : b = T
    · subst hb
      rw [upd_same] at q
      cases q
      exact ⟨hz, us, r, ⟨_, hT, rfl, _, rfl⟩, fun o z => by rw [hT] at z; cases z; rfl⟩
    · rw [upd_ne hb] at q
      refine (I.hok b u q).stay (fun c v hc z => ?_) (fun c z => by rw [upd_ne (ne_of_none z fT)]; exact z) fun c ys z => by rw [upd_ne (ne_of_none z fT)]; exact z
      rcases hc with rfl | hc
      · exact k _ v (nH _ _ q) z
      · exact k _ v (nH _ _ hc) z
section
variable {X : Cx}
end
end L2
set_option Elab.async false
set_option linter.all false
set_option maxRecDepth 100000
namespace L2
open PySem PySem.Spec PyProof.Rows
section
variable {s : Shared} {R : Result → Shared → Prop} {A : Around} {prog : Program} {w : World}
abbrev testsOf (ifs : List Expr) (env : Env) : Sem Bool := forIn ifs true fun c r => if r = true then do let ok ← isTrue c env (eval c env); pure (ForInStep.yield ok) else pure (ForInStep.yield r)
def Less (J : Nat → Shared → Prop) (n : Nat) (t : Shared) : Prop := ∃ m, m < n ∧ J m t
theorem comp_turns {elt target iter : Expr} {ifs : List Expr} {scope : Scope} {pos : Pos} {it acc : Value} {env : Env} {N : Value → Shared → Prop} (eN : N = notedBy (model prog w) A env fun e s' => R (.error e) s') (J : Nat → Shared → Prop)
    (turn : ∀ n s, J n s → wpAny (model prog w) A (pyNext it) (fun r s1 => (r = none → R (.ok .next) s1) ∧ ∀ v, r = some v → wpAny (model prog w) A (letOwnedTupleGo target it v) (fun _ s0 => wpAny (model prog w) A (assign target env v) (fun _ s2 => wpAny (model prog w) A (testsOf ifs env)
      (fun ok s3 => (ok = false → Less J n s3) ∧ (ok = true → wpAny (model prog w) A (eval elt env) (fun x s4 => wpAny (model prog w) A (call (.builtin "list.append") [acc, x]) (fun _ s5 => Less J n s5) N s4) N s3)) N s2) N s0) N s1) N s)
    (n : Nat) (h : J n s) : codeAny (model prog w) A (.compLoop (.ListComp elt [⟨target, iter, ifs, 0⟩] scope pos) 0 it acc env) R s := by
  subst eN
  refine codeAny_loop rfl J (fun n s hJ => ?_) n h
  refine (show wpAny _ A ((compTurn (.ListComp elt [⟨target, iter, ifs, 0⟩] scope pos) 0 it acc env).onRaise (fun x => do noteFrame x env; theTreesLotGoes x)) _ _ s from wpAny_noted ?_)
  rw [compTurn_list]
  refine wpAny_bind (wpAny_standAt (wpAny_bind (thn (turn n s hJ) fun r s1 ⟨q0, q1⟩ => ?_)))
  cases r with
  | none => exact wpAny_pure (q0 rfl)
  | some v =>
    refine wpAny_bind (thn (q1 v rfl) fun _ s0 q2 => wpAny_bind (thn q2 fun _ s2 q3 => wpAny_bind (thn q3 fun ok s3 ⟨no, yes⟩ => ?_)))
    cases ok with
    | false => exact wpAny_pure ⟨rfl, no rfl⟩
    | true => exact wpAny_bind (wpAny_bind (thn (yes rfl) fun x s4 q4 => wpAny_bind (thn q4 fun _ s5 q5 => wpAny_pure (wpAny_pure ⟨rfl, q5⟩))))
end
structure BlkScope2 (X : Cx) (scope : Scope) (x x' : Str) (Nf : List Str) (js : List Nat) : Prop where
  kind : scope.kind = .function
  nocell : ∀ y ∈ scope.names, y.2 ≠ .cell
  loc : ∀ y ∈ scope.names, y.2 = .local → scope.names.lookup y.1 = some .local
  own : scope.names.lookup x = some .local
  own' : scope.names.lookup x' = some .local
  nd : (x :: x' :: Nf).Nodup
  free : ∀ y ∈ scope.names, y.2 = .free → X.env.kindOf y.1 = some .cell
  slots : Nf.length = js.length
  at_ : ∀ (i : Nat) (z : Str), Nf[i]? = some z → ∃ j : Nat, js[i]? = some j ∧ X.N[j]? = some z ∧ scope.names.lookup z = some .free ∧ X.env.scope.names.lookup z = some .cell
section
variable {X : Cx} {scope : Scope} {x x' : Str} {Nf : List Str} {js : List Nat} {C : Addr} {s₂ : Shared} {H₂ : Hp} {ex : List Addr} {pins : List (Addr × Obj)} {σ : St}
theorem BlkScope2.hasCell (B : BlkScope2 X scope x x' Nf js) (ok : X.Ok) : ∀ y ∈ scope.names, y.2 = .free → ∃ c, X.env.cells.lookup y.1 = some c := fun y hy hf => ok.has y.1 (.inl (B.free y hy hf))
theorem BlkScope2.look (B : BlkScope2 X scope x x' Nf js) (ok : X.Ok) {z : Str} {c : Addr} (e : (clGo X.env scope.names []).lookup z = some c) : X.env.cells.lookup z = some c :=
  clGo_look scope.names [] (B.hasCell ok) (fun c h => by simp at h) e
theorem BlkScope2.ok (B : BlkScope2 X scope x x' Nf js) {H : Hp} {s : Shared} (I : Inv X pins σ H s) (hC : s.heap.objs.size ≤ C) {fp : List Addr} (hf : ∀ b ∈ fp, FpOk X pins H b) (ho : ∀ b ∈ fp, ∃ o, s.heap.get? b = some o ∧ ∀ v, o.data ≠ .cell v) :
    (blk X scope (x :: x' :: Nf) C s H fp pins).Ok where
  mod := I.ok.mod
  kind := B.kind
  glob := I.ok.glob
  blt := I.ok.blt
  above := hC
  inj := fun y z c h1 h2 => I.ok.inj y z c (B.look I.ok h1) (B.look I.ok h2)
  has := fun z hz => clGo_has scope.names [] (.inl (relabel_free (sc := scope) B.nocell hz))
  cab := fun y c h _ => Bool.noConfusion h
  hd := fun h => I.ok.hd h
  frames := I.ok.frames
  stk := .inl rfl
  exf := fun b hb => by
    obtain ⟨o, e, d⟩ := ho b hb
    refine ⟨Nat.ne_of_lt (Nat.lt_of_lt_of_le (Heap.lt_size e) hC), fun z c h => (hf b hb).2.2.2.2.1 z c (B.look I.ok h)⟩
  bs := I.bs
  bsz := Nat.le_trans I.ok.bsz I.sz
  noex := fun b o e hb => by
    rcases (hf b hb).2.2.2.1 with z | z
    · exact I.ok.noex b o e z
    · exact absurd (Nat.lt_of_lt_of_le (Heap.lt_size e) (Nat.le_trans I.ok.bsz z)) (Nat.lt_irrefl _)
  exfs := fun b hb hs => by
    rcases List.mem_cons.mp (I.stkSub b hs) with e | e
    · exact (hf b hb).2.1 e
    · exact (hf b hb).2.2.1 e
  funs := I.stack
  frf := I.stkFree
end
section
variable {X : Cx} {scope : Scope} {x x' : Str} {Nf : List Str} {js : List Nat} {pins : List (Addr × Obj)} {σ : St}
def blkSt2 (js : List Nat) (σ : St) (v v' : Option V) : St := v :: v' :: js.map fun j => (σ[j]?).getD none
theorem BlkScope2.inv (B : BlkScope2 X scope x x' Nf js) {H : Hp} {s : Shared} (I : Inv X pins σ H s) {fp : List Addr} (hf : ∀ b ∈ fp, FpOk X pins H b) (ho : ∀ b ∈ fp, ∃ o, s.heap.get? b = some o ∧ ∀ v, o.data ≠ .cell v)
    {h₁ : Heap} {tk : Nat} (hn : h₁.Ns (s.heap.objs.size + 1) (fun _ => none)) (hs : Heap.SameBut (s.heap.objs.size + 1) ((s.heap.push { cls := .type "list", data := .seq #[] }).push { cls := .type "dict", data := .dict #[] }) h₁) :
    Inv (blk X scope (x :: x' :: Nf) (s.heap.objs.size + 1) s H fp pins) [] (blkSt2 js σ none none) (upd H s.heap.objs.size (.lst [])) { s with heap := h₁, toks := tk } := by
  have old : ∀ b o, s.heap.get? b = some o → h₁.get? b = some o := fun b o e =>
    hs.extBut b o (Nat.ne_of_lt (Nat.lt_succ_of_lt (Heap.lt_size e))) (Heap.get?_push_of_some _ (Heap.get?_push_of_some _ e))
  have hD : h₁.get? s.heap.objs.size = some { cls := .type "list", data := .seq #[] } := hs.extBut _ _ (Nat.ne_of_lt (Nat.lt_succ_self _)) (Heap.get?_push_of_some _ (Heap.get?_push_size _ rfl))
  have fD : H s.heap.objs.size = none := I.hok.fresh (Nat.le_refl _)
  have fC : H (s.heap.objs.size + 1) = none := I.hok.fresh (Nat.le_succ _)
  have cellAt : ∀ z c, (clGo X.env scope.names []).lookup z = some c → c < s.heap.objs.size := fun z c e => by
    obtain ⟨v, q⟩ := I.cell z c (B.look I.ok e)
    exact q.lt
  have J := I.laid (a := s.heap.objs.size) (o := .lst []) (h' := h₁) (t' := tk) old (Nat.le_refl _) ⟨Nat.zero_le _, [], 0, .nil, hD⟩
  refine ⟨B.ok I (Nat.le_succ _) hf ho, rfl, I.bare, Un.laid old (Nat.le_refl _) fD, ⟨_, hn, fun i z v h1 h2 h3 => ?_⟩, fun z c e => ?_, ?_, fun z c e => ?_, fun p hp => ?_, J.hok, ?_⟩
  · -- a name of the block that has a value: one of the def's
    cases i with
    | zero =>
      have h2' : some (none : Option V) = some (some v) := h2
      cases h2'
    | succ i =>
     cases i with
     | zero =>
      have h2' : some (none : Option V) = some (some v) := h2
      cases h2'
     | succ i =>
      have h1' : Nf[i]? = some z := h1
      have h2' : (js.map fun j => (σ[j]?).getD none)[i]? = some (some v) := h2
      obtain ⟨j, e1, e2, e3, e4⟩ := B.at_ i z h1'
      rw [List.getElem?_map, e1] at h2'
      have h2'' : (σ[j]?).getD none = some v := Option.some.inj h2'
      have e5 : σ[j]? = some (some v) := by
        cases q : σ[j]? with
        | none => rw [q] at h2''; cases h2''
        | some y => rw [q] at h2''; exact congrArg some h2''
      obtain ⟨m, hm, hl⟩ := I.loc
      obtain ⟨u, r, l⟩ := hl j z v e2 e5 (.inr (.inl e4))
      refine ⟨u, r, .inr ⟨.inl ?_, ?_⟩⟩
      · exact relabel_cell I.ok.kind e4 B.loc B.nocell e3
      · rcases l with ⟨k, _⟩ | ⟨_, c, hc, q⟩
        · rw [show X.env.kindOf z = X.env.scope.names.lookup z from rfl, e4] at k; cases k
        · obtain ⟨c', hc'⟩ := clGo_has (env := X.env) (x := z) scope.names [] (.inl (PySem.mem_of_lookup e3))
          have e6 := B.look I.ok hc'
          rw [hc] at e6
          cases e6
          exact ⟨c, hc', q.keeps old⟩
  · obtain ⟨v, q⟩ := I.cell z c (B.look I.ok e)
    exact ⟨v, q.keeps old⟩
  · show upd H s.heap.objs.size (.lst []) (s.heap.objs.size + 1) = none
    rw [upd_ne (Nat.ne_of_gt (Nat.lt_succ_self _))]
    exact fC
  · rw [upd_ne (Nat.ne_of_lt (cellAt z c e))]
    exact I.freeC z c (B.look I.ok e)
  · have hp' : p ∈ X.pn ++ pins := by
      have : p ∈ (X.pn ++ pins) ++ [] := hp
      rwa [List.append_nil] at this
    obtain ⟨e, n, ne, nf, d⟩ := I.pin p hp'
    refine ⟨old _ _ e, ?_, Nat.ne_of_lt (Nat.lt_succ_of_lt (Heap.lt_size e)), fun z => ?_, d⟩
    · rw [upd_ne (Nat.ne_of_lt (Heap.lt_size e))]; exact n
    · rcases List.mem_cons.mp (I.stkSub p.1 z) with q | q
      · exact ne q
      · exact nf q
  · show (none :: none :: js.map _).length = (x :: x' :: Nf).length
    rw [List.length_cons, List.length_cons, List.length_map, List.length_cons, List.length_cons, B.slots]
theorem BlkScope2.back (B : BlkScope2 X scope x x' Nf js) {H H' : Hp} {s s' : Shared} {fp : List Addr} {C : Addr} {pl : List (Addr × Obj)} {τ : St} (I : Inv X pins σ H s) (hf : ∀ b ∈ fp, FpOk X pins H b) (hC : s.heap.objs.size ≤ C)
    (J : Inv (blk X scope (x :: x' :: Nf) C s H fp pins) pl τ H' s') {h' : Heap} (hs : Heap.SameBut C s'.heap h') : Inv X pins σ H' { s' with heap := h' } := by
  have nC : H' C = none := J.free
  refine I.call' (s' := { s' with heap := h' }) (ch := fp) J.os ⟨fun b o e n hb hx => ?_, fun b o e n hb hx => ?_, J.base.free, fun b o e hx => ?_, J.base.tups, J.base.frzs, J.base.tbls⟩ ?_ J.bare (fun b hb => ?_)
  · exact hs.extBut b o (Nat.ne_of_lt (Nat.lt_of_lt_of_le (Heap.lt_size e) hC)) (J.base.keep b o e n hb hx)
  · obtain ⟨sl, e1⟩ := J.base.slot b o e n hb hx
    exact ⟨sl, hs.extBut b _ (Nat.ne_of_lt (Nat.lt_of_lt_of_le (Heap.lt_size e) hC)) e1⟩
  · obtain ⟨o', e1⟩ := J.base.there b o e hx
    exact ⟨o', hs.extBut b _ (Nat.ne_of_lt (Nat.lt_of_lt_of_le (Heap.lt_size e) hC)) e1⟩
  · intro a o e
    refine (J.hok a o e).stay (fun b u hb q => hs.extBut b u ?_ q) (fun _ q => q) fun _ _ q => q
    rcases hb with rfl | hb
    · exact fun z => by rw [z, nC] at e; cases e
    · exact fun z => by rw [z, nC] at hb; cases hb
  · obtain ⟨_, f1, f2, f3, f4, f5⟩ := hf b hb
    exact ⟨f3, f1, f4, f5⟩
end
def tComp2 (K : PySem.W.Frag) (js : List Nat) (wi : TI) (tc : TT) (te : TE) : TE := fun σ H Q => wi σ H fun J H1 => ∀ D, H1 D = none → ∃ W : Nat → Nat → Hp → Prop, (∃ m, W 0 m (upd H1 D (.lst []))) ∧ ∀ i m H2, W i m H2 →
  (J.stop i H2 ∧ Q (.ref D) H2) ∨ (J.go i H2 ∧ ∀ v H3, J.yld i H2 v H3 → ∃ t y y', v = .ref t ∧ SqT K H3 t [y, y'] ∧ tc (blkSt2 js σ (some y) (some y')) H3 fun b H4 =>
    if b = true then te (blkSt2 js σ (some y) (some y')) H4 fun y H5 => ∃ ys, H5 D = some (.lst ys) ∧ ys.length < sizeLine ∧ ∃ m', m' < m ∧ W (i + 1) m' (upd H5 D (.lst (ys ++ [y])))
    else ∃ m', m' < m ∧ W (i + 1) m' H4)
section
variable {X : Cx} {scope : Scope} {x x' : Str} {Nf : List Str} {js : List Nat} {wi : TI} {tc : TT} {te : TE} {elt iter : Expr} {ifs : List Expr} {px px' ptg pos : Pos} {ktg : Nat}
theorem comp_core2 (use : Option (Value → Sem Unit)) {pins : List (Addr × Obj)} {s₂ : Shared} {σ : St} {H₂ : Hp} {it : Addr} {fp : List Addr} {tn : Nat → Heap → Prop} {J : It} {E : Value → Shared → Prop} {QQ : Value → Addr → Result → Shared → Prop} {Q : VK} {tg0 : Expr} (htg : tg0 = .Tuple [.Name x px, .Name x' px'] ktg ptg)
    (B : BlkScope2 X scope x x' Nf js) (hc : X.calm = true)
    (ht : ∀ C s₂ H₂ ex pins, PTs (blk X scope (x :: x' :: Nf) C s₂ H₂ ex pins) ifs tc) (he : ∀ C s₂ H₂ ex pins, PE (blk X scope (x :: x' :: Nf) C s₂ H₂ ex pins) elt te)
    (I : Inv X pins σ H₂ s₂) (T : Turn X.prog X.w X.K tg0 J fp it tn) (st : tn 0 s₂.heap) (hf : ∀ b ∈ fp, FpOk X pins H₂ b)
    (hW : ∀ D, H₂ D = none → ∃ W : Nat → Nat → Hp → Prop, (∃ m, W 0 m (upd H₂ D (.lst []))) ∧ ∀ i m H2, W i m H2 →
      (J.stop i H2 ∧ Q (.ref D) H2) ∨ (J.go i H2 ∧ ∀ v H3, J.yld i H2 v H3 → ∃ t y y', v = .ref t ∧ SqT X.K H3 t [y, y'] ∧ tc (blkSt2 js σ (some y) (some y')) H3 fun b H4 =>
        if b = true then te (blkSt2 js σ (some y) (some y')) H4 fun y H5 => ∃ ys, H5 D = some (.lst ys) ∧ ys.length < sizeLine ∧ ∃ m', m' < m ∧ W (i + 1) m' (upd H5 D (.lst (ys ++ [y])))
        else ∃ m', m' < m ∧ W (i + 1) m' H4))
    (hQ : ∀ s' H', (∀ h', Heap.SameBut (s₂.heap.objs.size + 1) s'.heap h' → Inv X pins σ H' { s' with heap := h' }) → (∃ m, s'.heap.Ns (s₂.heap.objs.size + 1) m) → H' (s₂.heap.objs.size + 1) = none → Q (.ref s₂.heap.objs.size) H' → QQ (.ref s₂.heap.objs.size) (s₂.heap.objs.size + 1) (.ok .next) s') :
    wpAny (model X.prog X.w) X.A (newList []) (fun acc s₃ => wpAny (model X.prog X.w) X.A (newFunctionEnv scope X.env.globals (clGo X.env scope.names []) [] X.env.qual none .none (some X.env)) (fun cenv s₄ =>
      codeAny (model X.prog X.w) X.A (.compStart (.ListComp elt [⟨.Tuple [.Name x px, .Name x' px'] ktg ptg, iter, ifs, 0⟩] scope pos) 0 (.ref it) acc { cenv with scope := relabel scope X.env }) (QQ acc cenv.locals) s₄) E s₃) E s₂ := by
  subst htg
  refine wpAny_newObj_type (wpAny_newFunctionEnv B.nocell (by intro y hy; simp at hy) (fun h₁ hns₁ hsb₁ => ?_) B.kind)
  dsimp only at hns₁ hsb₁ ⊢
  have hsz : (s₂.heap.push { cls := .type "list", dict := none, data := .seq ([] : List Value).toArray }).objs.size = s₂.heap.objs.size + 1 := Heap.size_push _ _
  rw [hsz] at hns₁ hsb₁ ⊢
  have ho : ∀ b ∈ fp, ∃ o, s₂.heap.get? b = some o ∧ ∀ v, o.data ≠ .cell v := T.obj 0 _ st
  have hD0 : H₂ s₂.heap.objs.size = none := I.hok.fresh (Nat.le_refl _)
  obtain ⟨W, ⟨m0, w0⟩, turn⟩ := hW _ hD0
  have old : ∀ b o, s₂.heap.get? b = some o → h₁.get? b = some o := fun b o e =>
    hsb₁.extBut b o (Nat.ne_of_lt (Nat.lt_succ_of_lt (Heap.lt_size e))) (Heap.get?_push_of_some _ (Heap.get?_push_of_some _ e))
  have st1 : tn 0 h₁ := T.keep _ _ _ st fun b _ o e => old b o e
  have I1 : ∀ tk, Inv (blk X scope (x :: x' :: Nf) (s₂.heap.objs.size + 1) s₂ H₂ fp pins) [] (blkSt2 js σ none none) (upd H₂ s₂.heap.objs.size (.lst [])) { s₂ with heap := h₁, toks := tk } := fun tk => B.inv I hf ho hns₁ hsb₁
  have fpD : ∀ b ∈ fp, b ≠ s₂.heap.objs.size := fun b hb => by
    obtain ⟨o, e, _⟩ := ho b hb
    exact Nat.ne_of_lt (Heap.lt_size e)
  have fp0 : ∀ b ∈ fp, upd H₂ s₂.heap.objs.size (.lst []) b = none := fun b hb => by rw [upd_ne (fpD b hb)]; exact (hf b hb).1
  -- what the block's context says of the iterator's objects
  have stat : ∀ {H' : Hp}, (∀ b ∈ fp, H' b = none) → ∀ b ∈ fp, FpOk (blk X scope (x :: x' :: Nf) (s₂.heap.objs.size + 1) s₂ H₂ fp pins) [] H' b := fun {H'} hn b hb => by
    obtain ⟨_, f1, f2, f3, f4, f5⟩ := hf b hb
    obtain ⟨o, e, _⟩ := ho b hb
    refine ⟨hn b hb, Nat.ne_of_lt (Nat.lt_succ_of_lt (Heap.lt_size e)), fun z => ?_, .inl hb, fun z c h => f4 z c (B.look I.ok h), fun p hp => ?_⟩
    · rcases List.mem_cons.mp (I.stkSub b z) with q | q
      · exact f1 q
      · exact f2 q
    · have hp' : p ∈ (X.pn ++ pins) ++ [] := hp
      rw [List.append_nil] at hp'
      exact f5 p hp'
  have loop : ∀ sL : Shared, sL = { s₂ with heap := h₁, toks := s₂.toks + ([] : List (Str × Value)).length } →
      codeAny (model X.prog X.w) X.A (.compLoop (.ListComp elt [⟨.Tuple [.Name x px, .Name x' px'] ktg ptg, iter, ifs, 0⟩] scope pos) 0 (.ref it) (.ref s₂.heap.objs.size) (compEnvC scope (clGo X.env scope.names []) (s₂.heap.objs.size + 1) X.env))
        (QQ (.ref s₂.heap.objs.size) (s₂.heap.objs.size + 1)) sL := by
    rintro sL rfl
    refine comp_turns rfl (fun n s' => ∃ i v v' H', Inv (blk X scope (x :: x' :: Nf) (s₂.heap.objs.size + 1) s₂ H₂ fp pins) [] (blkSt2 js σ v v') H' s' ∧ tn i s'.heap ∧ (∀ b ∈ fp, H' b = none) ∧ W i n H') ?_ m0 ⟨0, none, none, _, I1 _, st1, fp0, w0⟩
    rintro n s3 ⟨i, v3, v3', H3, I3, st3, fr3, w3⟩
    rcases turn i n H3 w3 with ⟨stop, qn⟩ | ⟨go, step⟩
    · refine thn (T.done (blk X scope (x :: x' :: Nf) (s₂.heap.objs.size + 1) s₂ H₂ fp pins) rfl rfl rfl hc i [] s3 _ H3 _ I3 (stat fr3) st3 stop) fun r s4 ⟨hr, I4⟩ => ⟨fun _ => ?_, fun v e => by rw [hr] at e; cases e⟩
      subst hr
      obtain ⟨m4, hm4, _⟩ := I4.loc
      exact hQ s4 H3 (fun h' hs => B.back I hf (Nat.le_succ _) I4 hs) ⟨m4, hm4⟩ I4.free qn
    · refine thn (T.item (blk X scope (x :: x' :: Nf) (s₂.heap.objs.size + 1) s₂ H₂ fp pins) rfl rfl rfl hc i [] s3 _ H3 _ I3 (stat fr3) st3 go) fun r s4 ⟨u, hr, h4⟩ => ⟨(fun e => by rw [hr] at e; cases e), fun v e => ?_⟩
      rw [hr] at e
      cases e
      refine wpAny_mono h4 (fun _ s5 ⟨y5, H5, I5, r5, yl5, st5, fr5⟩ => ?_) fun _ _ z => z
      have I5' := I5.pinned (stat fr5) (T.obj _ _ st5)
      have hnm : (blk X scope (x :: x' :: Nf) (s₂.heap.objs.size + 1) s₂ H₂ fp pins).env.scope.names.lookup x = some .local := lookup_relabel_local B.own
      have hnm' : (blk X scope (x :: x' :: Nf) (s₂.heap.objs.size + 1) s₂ H₂ fp pins).env.scope.names.lookup x' = some .local := lookup_relabel_local B.own'
      have hg : PG (blk X scope (x :: x' :: Nf) (s₂.heap.objs.size + 1) s₂ H₂ fp pins) (.Tuple [.Name x px, .Name x' px'] ktg ptg) (gTup X.K 2 (gCons (gName 0) (gCons (gName 1) gNil))) := pg_tup hc (pgs_cons (pg_name B.nd rfl (.inl hnm) (.inr hnm)) (pgs_cons (pg_name B.nd rfl (.inl hnm') (.inr hnm')) pgs_nil))
      obtain ⟨ta, y1, y2, ey, qt, q5⟩ := step y5 _ yl5
      refine wpAny_mono (hg _ s5 _ H5 y5 u (fun σ' H' => σ' = blkSt2 js σ (some y1) (some y2) ∧ H' = H5) I5' r5 ⟨ta, _, ey, qt, rfl, _, _, rfl, _, _, rfl, rfl, rfl, rfl⟩) (fun _ s6 ⟨σ6, H6, I6, q6⟩ => ?_) fun _ _ z => False.elim z
      obtain ⟨e6, e6'⟩ := q6
      subst e6 e6'
      refine wpAny_mono ((ht _ _ _ _ _).run I6 q5) (fun b s7 ⟨H7, I7, q7⟩ => ?_) fun _ _ z => False.elim z
      have again : ∀ {s8 : Shared} {σ8 : St} {H8 : Hp}, Inv (blk X scope (x :: x' :: Nf) (s₂.heap.objs.size + 1) s₂ H₂ fp pins) ([] ++ pinsAt fp s5.heap) σ8 H8 s8 → tn (i + 1) s8.heap ∧ ∀ b ∈ fp, H8 b = none := fun {s8 σ8 H8} I8 => by
        refine ⟨T.keep _ _ _ st5 fun b hb o e => (I8.pin (b, o) (List.mem_append_right _ (List.mem_append_right _ (mem_pinsAt hb e)))).1, fun b hb => ?_⟩
        obtain ⟨o, e, d⟩ := T.obj _ _ st5 b hb
        exact (I8.pin (b, o) (List.mem_append_right _ (List.mem_append_right _ (mem_pinsAt hb e)))).2.1
      refine ⟨fun eb => ?_, fun eb => ?_⟩
      · subst eb
        simp only [Bool.false_eq_true, if_false] at q7
        obtain ⟨m', hm, w7⟩ := q7
        exact ⟨m', hm, i + 1, _, _, H7, I7.unpinned, (again I7).1, (again I7).2, w7⟩
      · subst eb
        simp only [if_true] at q7
        refine wpAny_mono (he _ _ _ _ _ _ s7 _ H7 _ I7 q7) (fun yv s8 ⟨y8, H8, I8, r8, ys, hD8, hl8, m', hm, w8⟩ => ?_) fun _ _ z => False.elim z
        obtain ⟨a1, a2⟩ := again I8
        refine wpAny_mono (mt_append (X := blk X scope (x :: x' :: Nf) (s₂.heap.objs.size + 1) s₂ H₂ fp pins) _ s8 _ H8 (.ref s₂.heap.objs.size) [y8] (.ref s₂.heap.objs.size) [yv] (fun _ H' => H' = upd H8 s₂.heap.objs.size (.lst (ys ++ [y8]))) I8 rfl (.cons r8 .nil)
          ⟨_, _, _, rfl, rfl, hD8, hl8, rfl⟩) (fun _ s9 ⟨_, H9, I9, _, q9⟩ => ?_) fun _ _ z => False.elim z
        subst q9
        obtain ⟨b1, b2⟩ := again I9
        exact ⟨m', hm, i + 1, _, _, _, I9.unpinned, b1, b2, w8⟩
  exact codeAny_compStart_list (loop _ rfl) (T.self _ 0 _ _ _ st1 (loop _ rfl))
theorem ps_setComp22 {i : Nat} {y : Str} {py spos : Pos} (B : BlkScope2 X scope x x' Nf js) (hc : X.calm = true) (hi : PI X (.Tuple [.Name x px, .Name x' px'] ktg ptg) iter wi)
    (ht : ∀ C s₂ H₂ ex pins, PTs (blk X scope (x :: x' :: Nf) C s₂ H₂ ex pins) ifs tc) (he : ∀ C s₂ H₂ ex pins, PE (blk X scope (x :: x' :: Nf) C s₂ H₂ ex pins) elt te)
    (hN : X.N.Nodup) (hy : X.N[i]? = some y) (hl : X.env.scope.names.lookup y = some .local)
    (hsw : swapsWith (.ListComp elt [⟨.Tuple [.Name x px, .Name x' px'] ktg ptg, iter, ifs, 0⟩] scope pos) (some (.Name y py)) spos.line X.env = pure true := by rfl)
    (hs : ∀ v, foldedSetIterable iter X.env v = pure v := by intro _; rfl) : PS X (.Assign [.Name y py] (.ListComp elt [⟨.Tuple [.Name x px, .Name x' px'] ktg ptg, iter, ifs, 0⟩] scope pos) spos) (tAsg (tComp2 X.K js wi tc te) (gName i)) := by
  intro pins s σ H D I h
  have asg := exec_Assign_Name_used _ _ _ _ hsw
  rw [asg]
  refine wpAny_bind (wpAny_standAt (wpAny_bind (show wpAny _ _ (do let _ ← comprehension (.ListComp elt [⟨.Tuple [.Name x px, .Name x' px'] ktg ptg, iter, ifs, 0⟩] scope pos) scope X.env _ (newList []) false (eval iter X.env) (some (assign (.Name y py) X.env))) _ _ s from ?_)))
  refine wpAny_bind (wpAny_mono (wpAny_comprehension_free (use := some (assign (.Name y py) X.env)) (Q := fun _ s' => SP X pins D .next s') rfl hs (closure_of (B.hasCell I.ok)) B.kind B.loc
    (thn (hi pins s σ H _ I h) fun v s1 h1 => thn h1 fun itv s2 h2 => ?_)) (fun _ s' hq => wpAny_pure (wpAny_pure hq)) fun _ _ e => e)
  obtain ⟨it, fp, tn, J, H2, e, I2, T, st2, f2, hW⟩ := h2
  subst e
  refine comp_core2 (Q := fun x H1 => gName i x σ H1 D.nx) (QQ := fun acc C => compPost (model X.prog X.w) X.A X.xe (some (assign (.Name y py) X.env)) (fun _ s' => SP X pins D .next s') acc C) none rfl B hc ht he I2 T st2 f2 hW fun s' H' hI hn hC hq => ?_
  obtain ⟨m, hm⟩ := hn
  have I3 : Inv X pins σ H' s' := hI s'.heap (Heap.SameBut.refl ..)
  have nC := I2.fpOk (b := s2.heap.objs.size + 1) (Nat.le_succ _) hC
  show wpAny _ _ (assign (.Name y py) X.env (.ref s2.heap.objs.size)) _ _ _
  refine wpAny_assign_Name (store_ok2 I3 hN hy (.inl hl) (v := .ref s2.heap.objs.size) rfl (fun s4 I4 ⟨b, hb, hbc⟩ => ?_) (.inr hl))
  have bne : s2.heap.objs.size + 1 ≠ b := by
    rcases hbc with z | z
    · rw [z]; exact nC.2.1
    · exact fun q => nC.2.2.2.2.1 y b z q.symm
  refine ⟨m, hm.sameBut hb bne, fun h' hs' => ⟨_, H', ?_, hq⟩⟩
  exact I4.turned (t' := s4.toks) (fun c o hc q => (hs'.2 c hc).trans q) nC.1 nC.2.1 nC.2.2.2.1 nC.2.2.2.2.1 nC.2.2.2.2.2
end
end L2
set_option Elab.async false
set_option linter.all false
set_option maxRecDepth 100000
set_option maxHeartbeats 1000000
namespace L2
open PySem PyProof PyProof.Rows
def blkOk2 (fs : Scope) (scope : Scope) (N : List Str) (x x' : Str) (Nf : List Str) (js : List Nat) : Bool :=
  (scope.kind == .function) && scope.names.all (fun y => y.2 != .cell) && scope.names.all (fun y => y.2 != .local || scope.names.lookup y.1 == some .local) && (scope.names.lookup x == some .local) && (scope.names.lookup x' == some .local) &&
    decide (x :: x' :: Nf).Nodup && scope.names.all (fun y => y.2 != .free || fs.names.lookup y.1 == some .cell) && (Nf.length == js.length) &&
    (Nf.zip js).all (fun p => N[p.2]? == some p.1 && scope.names.lookup p.1 == some .free && fs.names.lookup p.1 == some .cell)
theorem blk_mk2 {X : Cx} {scope : Scope} {x x' : Str} (Nf : List Str) (js : List Nat) (h : blkOk2 X.env.scope scope X.N x x' Nf js = true := by kernel_rfl) : BlkScope2 X scope x x' Nf js := by
  unfold blkOk2 at h
  simp only [Bool.and_eq_true, beq_iff_eq, decide_eq_true_eq] at h
  obtain ⟨⟨⟨⟨⟨⟨⟨⟨h1, h2⟩, h3⟩, h4⟩, h4'⟩, h5⟩, h6⟩, h7⟩, h8⟩ := h
  refine ⟨h1, fun y hy => ?_, fun y hy hl => ?_, h4, h4', h5, fun y hy hf => ?_, h7, fun i z hz => ?_⟩
  · have := List.all_eq_true.mp h2 y hy
    simpa using this
  · have := List.all_eq_true.mp h3 y hy
    rw [hl] at this
    simpa using this
  · have := List.all_eq_true.mp h6 y hy
    rw [hf] at this
    show X.env.scope.names.lookup y.1 = some .cell
    simpa using this
  · have hi : i < js.length := by rw [← h7]; exact (List.getElem?_eq_some_iff.mp hz).1
    have hm : (z, js[i]) ∈ Nf.zip js := by
      have e : (Nf.zip js)[i]? = some (z, js[i]) := by
        rw [List.getElem?_zip_eq_some]
        exact ⟨hz, by simp [hi]⟩
      exact List.mem_of_getElem? e
    have q := List.all_eq_true.mp h8 _ hm
    rw [Bool.and_eq_true, Bool.and_eq_true, beq_iff_eq, beq_iff_eq, beq_iff_eq] at q
    exact ⟨js[i], by simp [hi], q.1.1, q.1.2, q.2⟩
section
variable {X : Cx}
end
end L2
set_option Elab.async false
set_option linter.all false
set_option maxRecDepth 100000
set_option maxHeartbeats 1000000
namespace L2
open PySem PySem.Spec PyProof.Rows
section
variable {X : Cx} {pins : List (Addr × Obj)} {σ : St} {H : Hp} {s : Shared} {h' : Heap}
end
end L2
set_option Elab.async false
set_option linter.all false
set_option maxRecDepth 100000
set_option maxHeartbeats 1000000
namespace L2
open PySem PySem.Spec PyProof.Rows
open PySem.SeqAt
open PySem.AutoSeq1 (wpAny_loadPart')
open PySem.MeetsSeq PySem.MeetsSeq2 PySem.MeetsSeq3
section
variable {s : Shared} {E : Value → Shared → Prop} {A : Around} {prog : Program} {w : World}
end
section
variable {X : Cx}
end
end L2
set_option Elab.async false
set_option linter.all false
set_option maxRecDepth 100000
set_option maxHeartbeats 1000000
namespace L2
open PySem PyProof PyProof.Rows
section
variable {X : Cx} {pins : List (Addr × Obj)} {σ : St} {H : Hp} {s : Shared} {d : Addr} {u u' : HO}
theorem Inv.swap (I : Inv X pins σ H s) (hd : H d = some u) (nt : ∀ xs, u ≠ .tup xs) (nw : ∀ y, u ≠ .own y) (nb : ∀ ps, u ≠ .tbl ps) (nf : ∀ o z, X.H₀ d ≠ some (.frz o z)) (new : ObjOk X.prog X.w (upd H d u') s.heap d u') : Inv X pins σ (upd H d u') s := by
  have no : ∀ {b : Addr}, H b = none → upd H d u' b = none := fun {b} h => by rw [upd_ne (fun e => by rw [e, hd] at h; cases h)]; exact h
  have tp : ∀ b xs, H b = some (.tup xs) → upd H d u' b = some (.tup xs) := fun b xs h => by
    rw [upd_ne (fun e => by rw [e, hd] at h; injection h with h; exact nt xs h)]; exact h
  refine ⟨I.ok, I.os, I.bare, ⟨I.base.keep, I.base.slot, fun b o e n hx => no (I.base.free b o e n hx), I.base.there, fun b xs e => tp b xs (I.base.tups b xs e), fun b o z e => ?_, fun b ps e => ?_⟩, I.loc, I.cell, no I.free, fun x c e => no (I.freeC x c e), fun p hp => ?_, fun a o e => ?_, I.len⟩
  · rw [upd_ne (fun e' => nf o z (by rw [← e']; exact e))]
    exact I.base.frzs b o z e
  · obtain ⟨more, h⟩ := I.base.tbls b ps e
    refine ⟨more, ?_⟩
    rw [upd_ne (fun e' => by rw [e', hd] at h; injection h with h; exact nb _ h)]
    exact h
  · obtain ⟨e, n, r⟩ := I.pin p hp
    exact ⟨e, no n, r⟩
  · by_cases h : a = d
    · subst h
      rw [upd_same] at e
      cases e
      exact new
    · rw [upd_ne h] at e
      refine (I.hok a o e).stay (fun b v _ q => q) (fun b q => ?_) tp
      rw [upd_ne (fun e' => by rw [e', hd] at q; injection q with q; exact nw _ q)]
      exact q
theorem Inv.notFrz {v : HO} (I : Inv X pins σ H s) (hd : H d = some v) (n : ∀ o z, v ≠ .frz o z) : ∀ o z, X.H₀ d ≠ some (.frz o z) := fun o z e => by
  have := I.base.frzs d o z e
  rw [hd] at this
  injection this with this
  exact n o z this
theorem Inv.freeze {kvs : List (Key × V)} (I : Inv X pins σ H s) (hd : H d = some (.dK kvs)) : ∃ o, s.heap.get? d = some o ∧ Inv X pins σ (upd H d (.frz o (.dK kvs))) s := by
  have x := I.hok d _ hd
  obtain ⟨_, _, _, _, o, _, _, e, _⟩ := id x
  refine ⟨o, e, I.swap hd (fun _ z => nomatch z) (fun _ z => nomatch z) (fun _ z => nomatch z) (I.notFrz hd fun _ _ z => nomatch z) ⟨e, ?_⟩⟩
  refine x.stay (fun b v _ q => q) (fun b q => ?_) fun b xs q => ?_
  · rw [upd_ne (ne_of q hd (fun z => nomatch z))]; exact q
  · rw [upd_ne (ne_of q hd (fun z => nomatch z))]; exact q
theorem Inv.thaw {kvs : List (Key × V)} {o : Obj} (I : Inv X pins σ H s) (hd : H d = some (.frz o (.dK kvs))) (nf : ∀ o z, X.H₀ d ≠ some (.frz o z)) : Inv X pins σ (upd H d (.dK kvs)) s := by
  obtain ⟨_, x⟩ := I.hok d _ hd
  refine I.swap hd (fun _ z => nomatch z) (fun _ z => nomatch z) (fun _ z => nomatch z) nf ?_
  refine x.stay (fun b v _ q => q) (fun b q => ?_) fun b xs q => ?_
  · rw [upd_ne (ne_of q hd (fun z => nomatch z))]; exact q
  · rw [upd_ne (ne_of q hd (fun z => nomatch z))]; exact q
theorem frz_at {P : Program} {w : World} {h : Heap} {o : Obj} {es : Array DictEntry} {ep : Nat} {kvs : List (Key × V)} (ok : HOk P w H h) (hd : H d = some (.frz o (.dK kvs))) (ed : o.data = .dict es ep) : (d == sysModules) = false ∧ ∃ vs, KV kvs vs ∧ h.DictAt (mixKind P w) d vs ep := by
  obtain ⟨e, _, hS, vs, rk, o', es', ep', e', c, ed', r⟩ := ok d _ hd
  rw [e] at e'
  cases e'
  rw [ed] at ed'
  cases ed'
  exact ⟨hS, vs, rk, o, es, e, c, ed, r⟩
end
theorem KV.get {kvs : List (Key × V)} {vs : List (Key × Value)} (r : KV kvs vs) : ∀ {i : Nat} {k : Key} {x : V}, kvs[i]? = some (k, x) → ∃ v, vs[i]? = some (k, v) ∧ RelV x v := by
  induction r with
  | nil => intro i k x h; cases h
  | @cons a b l m h t ih =>
    intro i k x e
    cases i with
    | zero =>
      have e' : some a = some (k, x) := e
      cases e'
      obtain ⟨h1, h2⟩ := h
      obtain ⟨b1, b2⟩ := b
      cases h1
      exact ⟨b2, rfl, h2⟩
    | succ i => exact ih (i := i) e
theorem rel_key {k : Key} {u : Value} (h : keyIs k u = true) : RelV (kV k) u := by
  rcases keyIs_shape h with ⟨i, t, rfl, rfl⟩ | ⟨x, t, rfl, rfl⟩
  · exact ⟨t, rfl⟩
  · exact ⟨t, rfl⟩
def Iti (d : Addr) (o : Obj) (kvs : List (Key × V)) : It :=
  ⟨fun i H => H d = some (.frz o (.dK kvs)) ∧ i < kvs.length, fun i H v H' => ∃ t k x, v = .ref t ∧ H t = none ∧ kvs[i]? = some (k, x) ∧ H' = upd H t (.tup [kV k, x]), fun i H => H d = some (.frz o (.dK kvs)) ∧ kvs.length ≤ i⟩
def Itv (d : Addr) (o : Obj) (kvs : List (Key × V)) : It :=
  ⟨fun i H => H d = some (.frz o (.dK kvs)) ∧ i < kvs.length, fun i H v H' => H' = H ∧ ∃ k, kvs[i]? = some (k, v), fun i H => H d = some (.frz o (.dK kvs)) ∧ kvs.length ≤ i⟩
theorem turn_items {P : Program} {w : World} {K : PySem.W.Frag} {elts : List Expr} {kk : Nat} {tpos : Pos} {d it : Addr} {o : Obj} {es : Array DictEntry} {ep : Nat} {kvs : List (Key × V)} (ed : o.data = .dict es ep) :
    Turn P w K (.Tuple elts kk tpos) (Iti d o kvs) [it] it (fun i h => ∃ ok ov, IsItemIter h it d i kvs.length ep ok ov) where
  mem := by simp
  obj := fun i h st b hb => by
    have e : b = it := by simpa using hb
    subst e
    obtain ⟨ok, ov, e⟩ := st
    exact ⟨_, e, fun v z => by have z' : Data.fields _ = Data.cell v := z; cases z'⟩
  keep := fun i h h' st k => by
    obtain ⟨ok, ov, e⟩ := st
    exact ⟨ok, ov, k it (by simp) _ e⟩
  item := by
    intro X hP hw hK hc i pins s σ H E I hf st hg
    subst hP hw hK
    obtain ⟨ok, ov, hit⟩ := st
    obtain ⟨hd, hi⟩ := hg
    obtain ⟨hS, vs, rk, hm⟩ := frz_at I.hok hd ed
    have lv : kvs.length = vs.length := Paired.length rk
    rw [lv] at hit
    obtain ⟨k, x, ex⟩ : ∃ k x, kvs[i]? = some (k, x) := ⟨kvs[i].1, kvs[i].2, List.getElem?_eq_getElem hi⟩
    obtain ⟨v, ev, rv⟩ := KV.get rk ex
    refine wpAny_pyNext_items_item hit hm ev fun key h' hk ho hT sz kp => ⟨_, rfl, ?_⟩
    refine wpAny_letOwnedTupleGo_items (s := { s with heap := h' }) ho fun h2 hit2 sb => ?_
    replace sb : Heap.SameBut it h' h2 := sb
    have nT : s.heap.objs.size ≠ it := Nat.ne_of_gt (Heap.lt_size hit)
    have hT2 := sb.extBut _ _ nT hT
    have J : Inv X pins σ (upd H s.heap.objs.size (.tup [kV k, x])) { s with heap := h2, toks := s.toks } := by
      refine I.turnT (xs := [kV k, x]) (us := [key, v]) [it] hf (fun c o' hc' e => ?_) (Nat.le_refl _) (.cons (rel_key hk) (.cons rv .nil)) (by show 2 ≤ sizeLine; decide) hT2
      have nc : c ≠ it := fun z => hc' (by simp [z])
      exact sb.extBut _ _ nc (kp c o' nc e)
    refine ⟨.ref s.heap.objs.size, _, J, rfl, ⟨_, k, x, rfl, I.hok.fresh (Nat.le_refl _), ex, rfl⟩, ⟨_, _, by rw [lv]; exact hit2⟩, fun b hb => ?_⟩
    have eb : b = it := by simpa using hb
    subst eb
    rw [upd_ne (Ne.symm nT)]
    exact (hf b hb).1
  done := by
    intro X hP hw hK hc i pins s σ H E I hf st hg
    subst hP hw hK
    obtain ⟨ok, ov, hit⟩ := st
    obtain ⟨hd, hi⟩ := hg
    obtain ⟨hS, vs, rk, hm⟩ := frz_at I.hok hd ed
    have lv : kvs.length = vs.length := Paired.length rk
    rw [lv] at hit hi
    obtain ⟨f0, f1, f2, f3, f4, f5⟩ := hf it (by simp)
    exact wpAny_pyNext_items_end (I.ok.hd hc) hit hm (List.getElem?_eq_none hi) fun h' eb => ⟨rfl, I.turned (t' := s.toks) (fun b o hb e => eb b o hb e) f0 f1 f3 f4 f5⟩
  self := fun A i s Q E st h => by
    obtain ⟨ok, ov, e⟩ := st
    exact PySem.W.kcp_self e h
theorem turn_values {P : Program} {w : World} {K : PySem.W.Frag} {tg : Expr} {d it : Addr} {o : Obj} {es : Array DictEntry} {ep : Nat} {kvs : List (Key × V)} (ed : o.data = .dict es ep) :
    Turn P w K tg (Itv d o kvs) [it] it (fun i h => h.IsValIter it d i kvs.length ep) where
  mem := by simp
  obj := fun i h st b hb => by
    have e : b = it := by simpa using hb
    subst e
    obtain ⟨o, e, c, dd⟩ := st
    exact ⟨o, e, fun v z => by rw [dd] at z; cases z⟩
  keep := fun i h h' st k => st.at fun o e => k it (by simp) o e
  item := by
    intro X hP hw hK hc i pins s σ H E I hf st hg
    subst hP hw hK
    obtain ⟨hd, hi⟩ := hg
    obtain ⟨hS, vs, rk, hm⟩ := frz_at I.hok hd ed
    have lv : kvs.length = vs.length := Paired.length rk
    rw [lv] at st
    obtain ⟨k, x, ex⟩ : ∃ k x, kvs[i]? = some (k, x) := ⟨kvs[i].1, kvs[i].2, List.getElem?_eq_getElem hi⟩
    obtain ⟨v, ev, rv⟩ := KV.get rk ex
    obtain ⟨f0, f1, f2, f3, f4, f5⟩ := hf it (by simp)
    refine wpAny_pyNext_values_item st hm ev fun h' st' sb => ?_
    have I1 : Inv X pins σ H { s with heap := h' } := I.turned (t' := s.toks) (fun b o hb e => (sb.2 b hb).trans e) f0 f1 f3 f4 f5
    obtain ⟨o', e, c, dd⟩ := id st'
    exact ⟨v, rfl, go_of (s := { s with heap := h' }) e c dd (by decide) ⟨x, H, I1, rv, ⟨rfl, k, ex⟩, by rw [lv]; exact st', fun b hb => (hf b hb).1⟩⟩
  done := by
    intro X hP hw hK hc i pins s σ H E I hf st hg
    subst hP hw hK
    obtain ⟨hd, hi⟩ := hg
    obtain ⟨hS, vs, rk, hm⟩ := frz_at I.hok hd ed
    have lv : kvs.length = vs.length := Paired.length rk
    rw [lv] at st hi
    obtain ⟨f0, f1, f2, f3, f4, f5⟩ := hf it (by simp)
    exact wpAny_pyNext_values_end (I.ok.hd hc) st hm (List.getElem?_eq_none hi) fun h' eb => ⟨rfl, I.turned (t' := s.toks) (fun b o hb e => eb b o hb e) f0 f1 f3 f4 f5⟩
  self := fun _ _ _ _ _ st h => wpAny_pyIter_valiter st h
section
variable {X : Cx} {o : Expr} {to : TE} {apos cpos : Pos}
def iItems (to : TE) : TI := fun σ H R => to σ H fun x H1 => ∃ d kvs, x = .ref d ∧ H1 d = some (.dK kvs) ∧ ∀ ob, R (Iti d ob kvs) (upd H1 d (.frz ob (.dK kvs)))
def iVals (to : TE) : TI := fun σ H R => to σ H fun x H1 => ∃ d kvs, x = .ref d ∧ H1 d = some (.dK kvs) ∧ ∀ ob, R (Itv d ob kvs) (upd H1 d (.frz ob (.dK kvs)))
theorem pi_items {elts : List Expr} {kk : Nat} {tpos : Pos} (ho : PE X o to) (hbase : attributeBase o "items" X.env (eval o X.env) = eval o X.env := by rfl) (hline : (apos.endLine == cpos.line) = true := by rfl) :
    PI X (.Tuple elts kk tpos) (.Call (.Attribute o "items" apos) [] [] cpos) (iItems to) := by
  intro pins s σ H R I h
  refine wpAny_Call_method0_late hbase hline (thn (ho pins s σ H _ I h) fun v s1 ⟨x, H1, I1, r1, q1⟩ => ?_)
  obtain ⟨d, kvs, rfl, hd, q⟩ := q1
  cases r1
  obtain ⟨h1, h2⟩ := tyV_is (T := "dict") (x := .ref d) I1 rfl (.inr (.inr (.inl ⟨rfl, .inl ⟨kvs, hd⟩⟩)))
  refine ⟨"dict", "dict.items", PySem.F.plainAttrs_dict, PySem.F.slot_dict_items, PySem.F.type_dict_items, h1, h2, Calls.callWith_builtin rfl (PySem.evalArgs_none ?_)⟩
  obtain ⟨ob, eo, I2⟩ := I1.freeze hd
  obtain ⟨hz, hS, vs, rk, m⟩ := dk_of I1.hok hd
  have hT := m.typeIs
  refine call_meetsIn PySem.F.slot_dict_items hT PySem.F.entry_dict_items (PySem.F.args_dict_items_1 _) (meets_dict_items (mixKind X.prog X.w) d hS) ⟨⟨vs, m⟩, ?_⟩
  obtain ⟨ep, hm⟩ := m.dictAt
  obtain ⟨o', es, eo', c, ed, r⟩ := id hm
  rw [eo] at eo'
  cases eo'
  refine wpAny_pyIter_items (v := s1.heap.objs.size) (d := d) (kvs := vs) (ep := ep) ⟨_, Heap.get?_push_size _ rfl, rfl, rfl⟩ (hm.push _) ?_
  have lv : kvs.length = vs.length := Paired.length rk
  have k2 : ∀ b u, s1.heap.get? b = some u → ((s1.heap.push { cls := .type "dict_items", data := .fields #[.ref d] }).push { cls := .type "dict_itemiterator", data := .fields #[.none, .bool false, .ref d, .int 0 0, .int vs.length 0, .int ep 0, .none, .none] }).get? b = some u := fun b u e => Heap.get?_push_of_some _ (Heap.get?_push_of_some _ e)
  refine ⟨(s1.heap.push { cls := .type "dict_items", data := .fields #[.ref d] }).objs.size, [(s1.heap.push { cls := .type "dict_items", data := .fields #[.ref d] }).objs.size], _, _, _, rfl, I2.kept (t' := s1.toks) k2, turn_items ed, ⟨.none, .none, ?_⟩, fun b hb => ?_, q ob⟩
  · rw [lv]
    exact Heap.get?_push_size _ rfl
  · have e : b = (s1.heap.push { cls := .type "dict_items", data := .fields #[.ref d] }).objs.size := by simpa using hb
    have le : s1.heap.objs.size ≤ b := by rw [e, Heap.size_push]; exact Nat.le_succ _
    exact I2.fpOk le (I2.hok.fresh le)
theorem pi_vals {tg : Expr} (ho : PE X o to) (hbase : attributeBase o "values" X.env (eval o X.env) = eval o X.env := by rfl) (hline : (apos.endLine == cpos.line) = true := by rfl) :
    PI X tg (.Call (.Attribute o "values" apos) [] [] cpos) (iVals to) := by
  intro pins s σ H R I h
  refine wpAny_Call_method0_late hbase hline (thn (ho pins s σ H _ I h) fun v s1 ⟨x, H1, I1, r1, q1⟩ => ?_)
  obtain ⟨d, kvs, rfl, hd, q⟩ := q1
  cases r1
  obtain ⟨h1, h2⟩ := tyV_is (T := "dict") (x := .ref d) I1 rfl (.inr (.inr (.inl ⟨rfl, .inl ⟨kvs, hd⟩⟩)))
  refine ⟨"dict", "dict.values", PySem.F.plainAttrs_dict, PySem.F.slot_dict_values, PySem.F.type_dict_values, h1, h2, Calls.callWith_builtin rfl (PySem.evalArgs_none ?_)⟩
  obtain ⟨ob, eo, I2⟩ := I1.freeze hd
  obtain ⟨hz, hS, vs, rk, m⟩ := dk_of I1.hok hd
  have hT := m.typeIs
  refine call_meetsIn PySem.F.slot_dict_values hT PySem.F.entry_dict_values (PySem.F.args_dict_values_1 _) (meets_dict_values (mixKind X.prog X.w) d hS) ⟨⟨vs, m⟩, ?_⟩
  obtain ⟨ep, hm⟩ := m.dictAt
  obtain ⟨o', es, eo', c, ed, r⟩ := id hm
  rw [eo] at eo'
  cases eo'
  refine wpAny_pyIter_values (v := s1.heap.objs.size) (d := d) (kvs := vs) (ep := ep) ⟨_, Heap.get?_push_size _ rfl, rfl, rfl⟩ (hm.push _) ?_
  have lv : kvs.length = vs.length := Paired.length rk
  have k2 : ∀ b u, s1.heap.get? b = some u → ((s1.heap.push { cls := .type "dict_values", data := .fields #[.ref d] }).push { cls := .type "dict_valueiterator", data := .fields #[.ref d, .int 0 0, .int vs.length 0, .int ep 0] }).get? b = some u := fun b u e => Heap.get?_push_of_some _ (Heap.get?_push_of_some _ e)
  refine ⟨(s1.heap.push { cls := .type "dict_values", data := .fields #[.ref d] }).objs.size, [(s1.heap.push { cls := .type "dict_values", data := .fields #[.ref d] }).objs.size], _, _, _, rfl, I2.kept (t' := s1.toks) k2, turn_values ed, ?_, fun b hb => ?_, q ob⟩
  · rw [lv]
    exact ⟨_, Heap.get?_push_size _ rfl, rfl, rfl⟩
  · have e : b = (s1.heap.push { cls := .type "dict_values", data := .fields #[.ref d] }).objs.size := by simpa using hb
    have le : s1.heap.objs.size ≤ b := by rw [e, Heap.size_push]; exact Nat.le_succ _
    exact I2.fpOk le (I2.hok.fresh le)
def tThaw (t : TE) : TE := fun σ H Q => ∃ d v, H d = some v ∧ (∀ o z, v ≠ .frz o z) ∧ t σ H fun x H1 => ∃ o kvs, H1 d = some (.frz o (.dK kvs)) ∧ Q x (upd H1 d (.dK kvs))
theorem pe_thaw {e : Expr} {t : TE} (he : PE X e t) : PE X e (tThaw t) := by
  intro pins s σ H Q I h
  obtain ⟨d, v, hd, nf, h⟩ := h
  have n0 := I.notFrz hd nf
  refine thn (he pins s σ H _ I h) fun u s1 ⟨x, H1, I1, r1, o, kvs, h1, q⟩ => ⟨x, _, I1.thaw h1 n0, r1, q⟩
end
end L2
set_option Elab.async false
set_option linter.all false
set_option maxRecDepth 100000
set_option maxHeartbeats 1000000
namespace L2
open PySem PyProof PyProof.Rows
section
variable {X : Cx} {pins : List (Addr × Obj)} {σ : St} {H : Hp} {s : Shared}
theorem Inv.track {a : Addr} {o : HO} (I : Inv X pins σ H s) (f : FpOk X pins H a) (h0 : X.s₀.heap.objs.size ≤ a) (new : ObjOk X.prog X.w (upd H a o) s.heap a o) : Inv X pins σ (upd H a o) s := by
  obtain ⟨f0, f1, _, _, f4, f5⟩ := f
  have nb : ∀ {b : Addr} {u : HO}, H b = some u → upd H a o b = some u := fun {b u} h => by rw [upd_ne (ne_of_none h f0)]; exact h
  refine ⟨I.ok, I.os, I.bare, ⟨I.base.keep, I.base.slot, fun b ob e n hx => ?_, I.base.there, fun b xs e => nb (I.base.tups b xs e), fun b ob z e => nb (I.base.frzs b ob z e), fun b ps e => ?_⟩, I.loc, I.cell, ?_, fun x c e => ?_, fun p hp => ?_, fun b u e => ?_, I.len⟩
  · rw [upd_ne (Nat.ne_of_lt (Nat.lt_of_lt_of_le (Heap.lt_size e) h0))]
    exact I.base.free b ob e n hx
  · obtain ⟨more, h⟩ := I.base.tbls b ps e
    exact ⟨more, nb h⟩
  · rw [upd_ne (Ne.symm f1)]; exact I.free
  · rw [upd_ne (f4 x c e)]; exact I.freeC x c e
  · obtain ⟨e, n, r⟩ := I.pin p hp
    exact ⟨e, by rw [upd_ne (f5 p hp)]; exact n, r⟩
  · by_cases h : b = a
    · subst h
      rw [upd_same] at e
      cases e
      exact new
    · rw [upd_ne h] at e
      exact (I.hok b u e).stay (fun c v _ q => q) (fun c q => nb q) fun c xs q => nb q
theorem Inv.tracks : ∀ (as : List Addr) (qs : List (List V)) {H : Hp}, Inv X pins σ H s → as.length = qs.length → as.Pairwise (· < ·) → (∀ a ∈ as, FpOk X pins H a ∧ X.s₀.heap.objs.size ≤ a) →
    (∀ (j : Nat) (a : Addr) (q : List V), as[j]? = some a → qs[j]? = some q → q.length ≤ sizeLine ∧ ∃ us : List Value, Vals q us ∧ s.heap.get? a = some { cls := .type "tuple", data := .seq us.toArray }) →
    ∃ H', Inv X pins σ H' s ∧ (∀ b o, H b = some o → H' b = some o) ∧ ∀ (j : Nat) (a : Addr) (q : List V), as[j]? = some a → qs[j]? = some q → H' a = some (.tup q)
  | [], qs, H, I, _, _, _, _ => ⟨H, I, fun _ _ z => z, fun j a q e => nomatch e⟩
  | a :: as, [], H, I, l, _, _, _ => nomatch l
  | a :: as, q :: qs, H, I, l, pw, hf, ho => by
    obtain ⟨pa, pw'⟩ := List.pairwise_cons.mp pw
    obtain ⟨hz, us, rv, e⟩ := ho 0 a q rfl rfl
    obtain ⟨fa, h0⟩ := hf a (List.mem_cons_self ..)
    have I1 : Inv X pins σ (upd H a (.tup q)) s := I.track fa h0 ⟨hz, us, rv, ⟨_, e, rfl, _, rfl⟩, fun o z => by rw [e] at z; cases z; rfl⟩
    have na : ∀ b o, H b = some o → upd H a (.tup q) b = some o := fun b o z => by rw [upd_ne (ne_of_none z fa.1)]; exact z
    obtain ⟨H', I', k', t'⟩ := Inv.tracks as qs I1 (Nat.succ.inj l) pw' (fun b hb => by
      obtain ⟨⟨g0, g⟩, gl⟩ := hf b (List.mem_cons_of_mem _ hb)
      have lt := pa b hb
      exact ⟨⟨by rw [upd_ne (Nat.ne_of_gt lt)]; exact g0, g⟩, gl⟩) fun j b p e1 e2 => ho (j + 1) b p e1 e2
    refine ⟨H', I', fun b o z => k' b o (na b o z), fun j b p e1 e2 => ?_⟩
    cases j with
    | zero =>
      have e1' : some a = some b := e1
      have e2' : some q = some p := e2
      cases e1'
      cases e2'
      exact k' _ _ upd_same
    | succ j => exact t' j b p e1 e2
end
def ViewI (v d : Addr) : HO := .ext fun h => h.IsItemsView v d
section
variable {X : Cx} {o : Expr} {to : TE} {apos cpos : Pos}
def tItems (to : TE) : TE := fun σ H Q => to σ H fun x H1 => ∃ d kvs, x = .ref d ∧ H1 d = some (.dK kvs) ∧ ∀ v, H1 v = none → Q (.ref v) (upd H1 v (ViewI v d))
theorem pe_items (ho : PE X o to) (hbase : attributeBase o "items" X.env (eval o X.env) = eval o X.env := by rfl) (hline : (apos.endLine == cpos.line) = true := by rfl) :
    PE X (.Call (.Attribute o "items" apos) [] [] cpos) (tItems to) := by
  intro pins s σ H Q I h
  refine wpAny_Call_method0_late hbase hline (thn (ho pins s σ H _ I h) fun v s1 ⟨x, H1, I1, r1, q1⟩ => ?_)
  obtain ⟨d, kvs, rfl, hd, q⟩ := q1
  cases r1
  obtain ⟨h1, h2⟩ := tyV_is (T := "dict") (x := .ref d) I1 rfl (.inr (.inr (.inl ⟨rfl, .inl ⟨kvs, hd⟩⟩)))
  refine ⟨"dict", "dict.items", PySem.F.plainAttrs_dict, PySem.F.slot_dict_items, PySem.F.type_dict_items, h1, h2, Calls.callWith_builtin rfl (PySem.evalArgs_none ?_)⟩
  obtain ⟨hz, hS, vs, rk, m⟩ := dk_of I1.hok hd
  refine call_meetsIn PySem.F.slot_dict_items m.typeIs PySem.F.entry_dict_items (PySem.F.args_dict_items_1 _) (meets_dict_items (mixKind X.prog X.w) d hS) ⟨⟨vs, m⟩, ?_⟩
  have g : (s1.heap.push { cls := .type "dict_items", data := .fields #[.ref d] }).get? s1.heap.objs.size = some { cls := .type "dict_items", data := .fields #[.ref d] } := Heap.get?_push_size _ rfl
  refine ⟨.ref s1.heap.objs.size, _, I1.laid (a := s1.heap.objs.size) (o := ViewI s1.heap.objs.size d) (t' := s1.toks) (fun b u e => Heap.get?_push_of_some _ e) (Nat.le_refl _) ?_, rfl, q _ (I1.hok.fresh (Nat.le_refl _))⟩
  exact ⟨⟨_, g, rfl, rfl⟩, ⟨_, g⟩, fun a b ⟨ob, e, c⟩ k => ⟨ob, k ob e, c⟩⟩
theorem vals_refs : ∀ (as : List Addr), Vals (as.map V.ref) (as.map Value.ref)
  | [] => .nil
  | _ :: as => .cons rfl (vals_refs as)
theorem call_listI (hh : X.A.handled = none) : CallR X (.type "list") (fun xs H Q => ∃ v d kvs, xs = [.ref v] ∧ H v = some (ViewI v d) ∧ Rd H d (.dK kvs) ∧
    ∀ l (ts : List Addr) H', H l = none → (∀ b o, H b = some o → H' b = some o) → H' l = some (.lst (ts.map V.ref)) → ts.length = kvs.length → (∀ (j : Nat) t k x, ts[j]? = some t → kvs[j]? = some (k, x) → H' t = some (.tup [kV k, x]) ∧ H t = none) → Q (.ref l) H') := by
  intro pins s σ H xs us Q I r h
  obtain ⟨v, d, kvs, rfl, hv, hd, q⟩ := h
  obtain ⟨u, rfl, ru⟩ := vals1 r
  cases ru
  obtain ⟨iv, _, _⟩ := I.hok v _ hv
  obtain ⟨hz, hS, vs, rk, m⟩ := dk_rd I.hok hd
  obtain ⟨ep, hm⟩ := m.dictAt
  have lv : kvs.length = vs.length := Paired.length rk
  refine PySem.W.kdx_call hh iv hm (by rw [← lv]; exact hz) fun h' tk acc c as kp gl la G ea => ?_
  have I1 : Inv X pins σ H { s with heap := h', toks := tk } := I.kept kp
  have lo : X.s₀.heap.objs.size ≤ s.heap.objs.size := I.sz
  have f0 : FpOk X pins H s.heap.objs.size := I.fpOk (Nat.le_refl _) (I.hok.fresh (Nat.le_refl _))
  have I2 : Inv X pins σ (upd H s.heap.objs.size (.lst (as.map V.ref))) { s with heap := h', toks := tk } := by
    refine I1.track f0 lo ⟨by rw [List.length_map, la, ← lv]; exact hz, acc.toList, c, ?_, gl⟩
    rw [ea]
    exact vals_refs as
  have fr : ∀ a ∈ as, H a = none := fun a ha => I.hok.fresh (Nat.le_of_lt (G.above a ha))
  obtain ⟨H', I', k', t'⟩ := I2.tracks as (kvs.map fun p => [kV p.1, p.2]) (by rw [List.length_map, la, lv]) G.rise (fun a ha => by
    have lt := G.above a ha
    obtain ⟨g0, g⟩ := I.fpOk (Nat.le_of_lt lt) (fr a ha)
    exact ⟨⟨by rw [upd_ne (Nat.ne_of_gt lt)]; exact g0, g⟩, Nat.le_trans lo (Nat.le_of_lt lt)⟩) fun j a p e1 e2 => by
      obtain ⟨key, k, x, e3, hk, e4⟩ := G.pairs j a e1
      rw [List.getElem?_map] at e2
      obtain ⟨⟨k', x'⟩, e5, rfl⟩ := Option.map_eq_some_iff.mp e2
      obtain ⟨v', e6, rv⟩ := KV.get rk e5
      rw [e3] at e6
      cases e6
      exact ⟨by show 2 ≤ sizeLine; decide, [key, x], .cons (rel_key hk) (.cons rv .nil), e4⟩
  refine ⟨.ref s.heap.objs.size, H', I', rfl, q _ as H' (I.hok.fresh (Nat.le_refl _)) (fun b o z => k' b o (by rw [upd_ne (ne_of_none z f0.1)]; exact z)) (k' _ _ upd_same) (by rw [la, lv]) fun j t k x e1 e2 => ⟨t' j t _ e1 (by rw [List.getElem?_map, e2]; rfl), fr t (List.mem_of_getElem? e1)⟩⟩
theorem call_minD (hh : X.A.handled = none) : CallR X (.builtin "min") (fun xs H Q => ∃ (a : Addr) (kvs : List (Key × V)) (ns : List Int), xs = [.ref a] ∧ Rd H a (.dK kvs) ∧ kvs.map (·.1) = ns.map Sum.inl ∧ ns ≠ [] ∧
    ∀ m : Int, m ∈ ns → (∀ n ∈ ns, m ≤ n) → Q (.int m) H) := by
  intro pins s σ H xs us Q I r h
  obtain ⟨a, kvs, ns, rfl, hk, ek, hne, q⟩ := h
  obtain ⟨u, rfl, ru⟩ := vals1 r
  cases ru
  obtain ⟨hz, hS, vs, rk, m⟩ := dk_rd I.hok hk
  obtain ⟨ep, hm⟩ := m.dictAt
  have e1 : vs.map (·.1) = kvs.map (·.1) := by
    clear hz m hm q hk ek
    induction rk with
    | nil => rfl
    | cons a b ih => rw [List.map_cons, List.map_cons, ih, a.1]
  have lv : vs.length = ns.length := by
    have := congrArg List.length (e1.trans ek)
    simpa using this
  have lp : 0 < ns.length := List.length_pos_iff.mpr hne
  refine call_min_walk (wpAny_pyIter_dict hS hm ?_)
  have alt := hm.lt_size
  have hh1 : X.A.in1.handled = none := hh
  refine ⟨s.heap.objs.size, _, _, vs.length, _, _, fun i j => decide (ns.getD i 0 < ns.getD j 0), rfl, Walks.dictKeys (knd := mixKind X.prog X.w) hh1 s.heap.objs.size a (Nat.ne_of_lt alt) vs ep, ⟨⟨_, Heap.get?_push_size _ rfl, rfl, rfl⟩, hm.push _⟩, fun b hb => ?_, by omega, ?_, fun v h' tk hP kp => ?_⟩
  · rw [Heap.size_push]
    rcases List.mem_cons.mp hb with e | hb
    · rw [e]; exact Nat.lt_succ_self _
    · rw [List.mem_singleton.mp hb]; exact Nat.lt_succ_of_lt alt
  · refine CmpOf.ints_lt (fun i => ns.getD i 0) fun i v hP => ?_
    obtain ⟨k, x, e2, e3⟩ := hP
    have e4 : (vs.map (·.1))[i]? = some k := by rw [List.getElem?_map, e2]; rfl
    rw [e1, ek, List.getElem?_map] at e4
    obtain ⟨n, en, rfl⟩ := Option.map_eq_some_iff.mp e4
    rw [List.getD_eq_getElem?_getD, en]
    rw [mixKind_is] at e3
    exact Value.isInt_shape (show Value.isInt n v = true from e3)
  · obtain ⟨b1, b2⟩ := argBest_lt (fun i => ns.getD i 0) (vs.length - 1)
    obtain ⟨k, x, e2, e3⟩ := hP
    have e4 : (vs.map (·.1))[argBest (fun i j => decide (ns.getD i 0 < ns.getD j 0)) (vs.length - 1)]? = some k := by rw [List.getElem?_map, e2]; rfl
    rw [e1, ek, List.getElem?_map] at e4
    obtain ⟨n, en, rfl⟩ := Option.map_eq_some_iff.mp e4
    rw [mixKind_is] at e3
    obtain ⟨t, rfl⟩ := Value.isInt_shape (show Value.isInt n v = true from e3)
    have I1 : Inv X pins σ H { s with heap := h', toks := tk } := I.kept fun b o z => kp b o (fun hb => by
      have lt := Heap.lt_size z
      rw [List.mem_singleton.mp hb] at lt
      exact Nat.lt_irrefl _ lt) (Heap.get?_push_of_some _ z)
    refine ⟨.int n, H, I1, ⟨t, rfl⟩, q n (List.mem_of_getElem? en) fun n' hn' => ?_⟩
    obtain ⟨j, hj, rfl⟩ := List.getElem_of_mem hn'
    have := b2 j (by omega)
    rw [List.getD_eq_getElem?_getD, List.getD_eq_getElem?_getD, en, List.getElem?_eq_getElem hj] at this
    exact this
end
end L2
set_option Elab.async false
set_option linter.all false
set_option maxRecDepth 100000
set_option maxHeartbeats 1000000
namespace L2
open PySem PyProof PyProof.Rows
open PySem.AutoSeq1 (wpAny_loadPart')
section
variable {prog : Program} {w : World} {A : Around} {s : Shared} {R : Result → Shared → Prop} {l : Addr} {items : Array Value} {n : Nat} {x : Value} {j : Nat}
theorem rem_from (hj : j < items.size) (hz : items.size ≤ sizeLine) (hl : s.heap.get? l = some { cls := .type "list", dict := none, data := .seq items n, slots := #[] })
    (he : ∀ (m : Nat) (hm : m < items.size), m ≤ j → SeqAt.EqAt A.in1 s items[m] x (decide (m = j)))
    (q : R (.ok (.ret .none)) { s with heap := s.heap.update l (Obj.mapSeq fun xs => xs.eraseIdxIfInBounds j) }) :
    ∀ (k i : Nat), j - i = k → i ≤ j → codeAny (model prog w) A (.builtin "list.remove.loop" ⟨[.ref l, x, rawInt i], []⟩) R s := by
  intro k
  induction k with
  | zero =>
    intro i hk hi
    have e : i = j := by omega
    subst e
    refine go_in PySem.MeetsSeq.entry_remove_loop PySem.MeetsSeq.plain_remove_loop ?_
    unfold Builtin.«list.remove.loop»
    obtain ⟨hp, g, d, tk, os⟩ := s
    wp_walk using wpAny_loadPart' hl
    have ei : items[((i : Nat) : Int).toNat]? = some items[i] := by simp [hj]
    rw [ei]
    refine wpAny_bind (he i hj (Nat.le_refl _) _ _ _ _ ?_)
    rw [decide_eq_true rfl, if_pos rfl]
    refine wpAny_bind (show wpAny _ _ (updateSeq l fun xs => xs.eraseIdxIfInBounds ((i : Nat) : Int).toNat) _ _ _ from wpAny_updateSeq hl rfl ?_ hz (by unfold Array.eraseIdxIfInBounds; split; (simp only [Array.size_eraseIdx]; omega); omega))
    exact wpAny_pure q
  | succ k ih =>
    intro i hk hi
    have hlt : i < items.size := by omega
    refine go_in PySem.MeetsSeq.entry_remove_loop PySem.MeetsSeq.plain_remove_loop ?_
    unfold Builtin.«list.remove.loop»
    obtain ⟨hp, g, d, tk, os⟩ := s
    wp_walk using wpAny_loadPart' hl
    have ei : items[((i : Nat) : Int).toNat]? = some items[i] := by simp [hlt]
    rw [ei]
    refine wpAny_bind (he i hlt hi _ _ _ _ ?_)
    rw [decide_eq_false (show ¬ i = j by omega)]
    wp_walk
    rw [show ((i : Int) + 1) = ((i + 1 : Nat) : Int) by omega]
    exact ⟨plainId_quiet PySem.MeetsSeq.plain_remove_loop _, ih (i + 1) (by omega) (by omega)⟩
end
section
variable {X : Cx}
theorem eq_tups {A : Around} {s : Shared} {p q : Addr} {zs ys : List V} {us ws : List Value} (ne : p ≠ q) (pl : s.heap.IsTuple p us.toArray) (pl' : s.heap.IsTuple q ws.toArray) (r : Vals zs us) (r' : Vals ys ws) (hu : A.units < cLine) (ok : ∀ (i : Nat) (a b : V), zs[i]? = some a → ys[i]? = some b → okP a b) : SeqAt.EqAt A s (.ref p) (.ref q) (eqPs zs ys) := by
  have l1 := r.length
  have l2 := r'.length
  have rc : SeqAt.RcAt A s (.ref p) (.ref q) _ := SeqAt.RcAt.tuples (e := ans zs ys) pl pl' hu fun j h1 h2 => by
    have j1 : j < zs.length := by simp at h1; omega
    have j2 : j < ys.length := by simp at h2; omega
    obtain ⟨u, eu, ru⟩ := r.get (List.getElem?_eq_getElem j1)
    obtain ⟨w, ew, rw'⟩ := r'.get (List.getElem?_eq_getElem j2)
    have a1 : us.toArray[j] = u := by
      simp at h1
      simpa [h1] using eu
    have a2 : ws.toArray[j] = w := by
      simp at h2
      simpa [h2] using ew
    rw [a1, a2, show ans zs ys j = eqP zs[j] ys[j] by unfold ans; rw [List.getElem?_eq_getElem j1, List.getElem?_eq_getElem j2]]
    exact eqAt_P ru rw' (ok j _ _ (List.getElem?_eq_getElem j1) (List.getElem?_eq_getElem j2))
  refine SeqAt.EqAt.of_refs ne ?_
  have eb : eqPs zs ys = ((List.range (min us.toArray.size ws.toArray.size)).all (ans zs ys) && us.toArray.size == ws.toArray.size) := ?_
  · rw [eb]
    exact rc
  · by_cases hl : zs.length = ys.length
    · unfold eqPs
      rw [decide_eq_true hl, Bool.true_and, ← zip_ans zs ys hl, List.size_toArray, List.size_toArray, ← l1, ← l2, ← hl, Nat.min_self, beq_self_eq_true, Bool.and_true]
    · unfold eqPs
      rw [decide_eq_false hl, Bool.false_and, List.size_toArray, List.size_toArray, ← l1, ← l2, show (zs.length == ys.length) = false from beq_eq_false_iff_ne.mpr hl, Bool.and_false]
def rRemove (K : PySem.W.Frag) : V → List V → Hp → VK → Prop := fun v vs H Q => ∃ l xs y j, v = .ref l ∧ vs = [y] ∧ H l = some (.lst xs) ∧ j < xs.length ∧
  (∀ (m : Nat) (z : V), m ≤ j → xs[m]? = some z → (okP z y ∧ eqP z y = decide (m = j)) ∨ ∃ p q zs ys, z = .ref p ∧ y = .ref q ∧ p ≠ q ∧ SqT K H p zs ∧ SqT K H q ys ∧ (∀ (i : Nat) (a b : V), zs[i]? = some a → ys[i]? = some b → okP a b) ∧ eqPs zs ys = decide (m = j)) ∧
  Q .non (upd H l (.lst (xs.eraseIdx j)))
theorem mt_remove (hu : X.A.in1.units < cLine) : MtM X "list.remove" (rRemove X.K) := by
  intro pins s σ H x vs v us Q I rx rv h
  obtain ⟨l, xs, y, j, rfl, rfl, hH, hj, he, q⟩ := h
  cases rx
  obtain ⟨u, rfl, ru⟩ := vals1 rv
  obtain ⟨z, its, n, r, hl, e⟩ := I.lstM hH
  have lt : xs.length = its.length := r.length
  have jl : j < its.toArray.size := by rw [List.size_toArray]; omega
  have hz : its.toArray.size ≤ sizeLine := by rw [List.size_toArray]; omega
  refine wpAny_call (codeAny_call_builtin PySem.F.slot_list_remove.plain PySem.F.entry_list_remove (PySem.F.slot_list_remove.check _ _ _ _ _ _ _ _ ⟨_, e, rfl⟩ (PySem.F.args_list_remove_2 _ _) ?_))
  unfold Builtin.«list.remove»
  wp_walk
  refine ⟨plainId_quiet PySem.MeetsSeq.plain_remove_loop _, rem_from (j := j) jl hz e (fun m hm hmj => ?_) ?_ j 0 (by omega) (Nat.zero_le _)⟩
  · have mx : m < xs.length := by rw [List.size_toArray] at hm; omega
    have e1 : xs[m]? = some xs[m] := List.getElem?_eq_getElem mx
    obtain ⟨w, ew, rw'⟩ := r.get e1
    have a1 : its.toArray[m] = w := by
      have : its[m]? = some w := ew
      rw [List.size_toArray] at hm
      simpa [hm] using this
    rw [a1]
    rcases he m _ hmj e1 with ⟨ok, eq⟩ | ⟨p, q', zs, ys, ez, ey, ne, hp, hq, ok, eq⟩
    · rw [← eq]
      exact eqAt_P rw' ru ok
    · subst ey
      rw [ez] at rw'
      cases rw'
      cases ru
      rw [← eq]
      obtain ⟨us1, r1, pl1, hz1⟩ := I.tuple hp
      obtain ⟨us2, r2, pl2, hz2⟩ := I.tuple hq
      exact eq_tups ne pl1 pl2 r1 r2 hu ok
  · refine ⟨.non, _, I.lset (its' := its.eraseIdx j) (t' := s.toks) hH e ?_ (r.eraseIdx j) ?_, rfl, q⟩
    · show its.toArray.eraseIdxIfInBounds j = (its.eraseIdx j).toArray
      rw [List.eraseIdxIfInBounds_toArray]
    · have := len_erase xs j
      omega
end
end L2
set_option Elab.async false
set_option linter.all false
set_option maxRecDepth 100000
namespace L2
open PySem PyProof PyProof.Rows
section
variable {X : Cx} {st : Stmt} {t : TS}
def sThaw (t : TS) : TS := fun D σ H => ∃ d v, H d = some v ∧ (∀ o z, v ≠ .frz o z) ∧ t { D with nx := fun σ' H' => ∃ o kvs, H' d = some (.frz o (.dK kvs)) ∧ D.nx σ' (upd H' d (.dK kvs)) } σ H
theorem ps_thaw (h : PS X st t) : PS X st (sThaw t) := by
  intro pins s σ H D I q
  obtain ⟨d, v, hd, nf, q⟩ := q
  have n0 := I.notFrz hd nf
  refine thn (h pins s σ H _ I q) fun f s' r => ?_
  cases f with
  | next =>
    obtain ⟨σ', H', I', o, kvs, e, n⟩ := r
    exact ⟨σ', _, I'.thaw e n0, n⟩
  | brk => exact r
  | cont => exact r
  | ret u => exact r
theorem tsth1 {te : TE} {i : Nat} {D : Ends} {σ : St} {H : Hp} (h : tThaw te σ H fun x H1 => gName i x σ H1 D.nx) : sThaw (tAsg te (gName i)) D σ H := h
end
end L2
set_option Elab.async false
set_option linter.all false
set_option maxRecDepth 100000
set_option maxHeartbeats 400000
namespace L2
open PySem PyProof.Rows
structure SOrd (M : Model) (A : Around) (E : Value → Shared → Prop) (s : Shared) where
  kd : SortKind
  blt : Keyed → Keyed → Bool
  ok : Keyed → Prop
  run : ∀ {x y : Keyed} {st : SortSt} {Q : Option Bool → SortSt → Prop}, ok x → ok y → kindOf st = kd → Q (some (blt x y)) st → wpS M A E s (lt' x y) Q st
  asym : ∀ {x y : Keyed}, blt x y = true → blt y x = false
  neg : ∀ {x z : Keyed} (y : Keyed), blt x z = true → blt x y = true ∨ blt y z = true
section
variable {M : Model} {A : Around} {E : Value → Shared → Prop} {s : Shared} (O : SOrd M A E s)
def SOrd.le (x y : Keyed) : Prop := O.blt y x = false
theorem SOrd.le_trans {O : SOrd M A E s} {x y z : Keyed} (h1 : O.le x y) (h2 : O.le y z) : O.le x z := by
  cases c : O.blt z x with
  | false => exact c
  | true =>
    rcases O.neg y c with h | h
    · have := h2; unfold SOrd.le at this; rw [h] at this; cases this
    · have := h1; unfold SOrd.le at this; rw [h] at this; cases this
theorem SOrd.le_refl {O : SOrd M A E s} (x : Keyed) : O.le x x := by
  cases c : O.blt x x with
  | false => exact c
  | true => have := O.asym c; rw [c] at this; cases this
theorem SOrd.lt_le {O : SOrd M A E s} {x y : Keyed} (h : O.blt x y = true) : O.le x y := O.asym h
theorem SOrd.lt_of {O : SOrd M A E s} {x y z : Keyed} (h1 : O.blt x y = true) (h2 : O.le y z) : O.blt x z = true := by
  rcases O.neg z h1 with h | h
  · exact h
  · have := h2; unfold SOrd.le at this; rw [h] at this; cases this
theorem SOrd.le_of {O : SOrd M A E s} {x y z : Keyed} (h1 : O.le x y) (h2 : O.blt y z = true) : O.blt x z = true := by
  rcases O.neg x h2 with h | h
  · have := h1; unfold SOrd.le at this; rw [h] at this; cases this
  · exact h
theorem elem_ok {arr : Array Keyed} {i : Nat} {p : Keyed} {Q : Keyed → SortSt → Prop} {st : SortSt} (h : arr[i]? = some p) (q : Q p st) : wpS M A E s (elem' arr i) Q st := by
  rw [elem'_eq, h]
  exact wpS_pure q
def ahead (left : Bool) (key : Keyed) (p : Keyed) : Bool := if left = true then O.blt p key else !O.blt key p
def aheadT (left : Bool) (key : Keyed) (arr : Array Keyed) (j : Nat) : StateT SortSt Sem (Option Bool) := elem' arr j >>= fun x => if left = true then lt' x key else lt' key x >>= fun r => pure (r.map fun z => !z)
theorem ahead_ok {left : Bool} {key p : Keyed} {arr : Array Keyed} {j : Nat} {Q : Option Bool → SortSt → Prop} {st : SortSt} (hk : kindOf st = O.kd) (ok : O.ok key) (h : arr[j]? = some p) (okp : O.ok p) (q : Q (some (ahead O left key p)) st) : wpS M A E s (aheadT left key arr j) Q st := by
  unfold aheadT
  unfold ahead at q
  refine wpS_bind (elem_ok h ?_)
  by_cases hl : left = true
  · rw [if_pos hl] at q ⊢
    exact O.run okp ok hk q
  · rw [if_neg hl] at q ⊢
    exact wpS_bind (O.run ok okp hk (wpS_pure q))
def gal : Bool → Keyed → Array Keyed → Nat → Nat → Nat → StateT SortSt Sem (Option Nat) := sortPriv% PySem.Builtin.gallop
theorem half_ok {n lo hi : Nat} {b : Nat → Bool} {Q : Option (Option Nat) × Nat × Nat → SortSt → Prop} {st : SortSt} {f : Nat → Option (Option Nat) × Nat × Nat → StateT SortSt Sem (ForInStep (Option (Option Nat) × Nat × Nat))}
    (mono : ∀ i j, i ≤ j → j < n → b j = true → b i = true)
    (f0 : ∀ x lo hi R, lo ≥ hi → R (.done (none, lo, hi)) st → wpS M A E s (f x (none, lo, hi)) R st)
    (f1 : ∀ x lo hi R, lo < hi → hi ≤ n → (b (lo + (hi - lo) / 2) = true → R (.yield (none, lo + (hi - lo) / 2 + 1, hi)) st) → (b (lo + (hi - lo) / 2) = false → R (.yield (none, lo, lo + (hi - lo) / 2)) st) → wpS M A E s (f x (none, lo, hi)) R st)
    (h1 : lo ≤ hi) (h2 : hi ≤ n) (hlo : ∀ i, i < lo → b i = true) (hhi : ∀ i, hi ≤ i → i < n → b i = false)
    (q : ∀ k, k ≤ n → (∀ i, i < k → b i = true) → (∀ i, k ≤ i → i < n → b i = false) → Q (none, k, k) st) : wpS M A E s (forIn [0:n] (none, lo, hi) f) Q st := by
  refine wpS_mono (wpS_forRange (I := fun x c st' => st' = st ∧ ∃ l r, c = (none, l, r) ∧ l ≤ r ∧ r ≤ n ∧ r - l ≤ n - x ∧ (∀ i, i < l → b i = true) ∧ ∀ i, r ≤ i → i < n → b i = false) (Q := fun c st' => st' = st ∧ ∃ k, c = (none, k, k) ∧ k ≤ n ∧ (∀ i, i < k → b i = true) ∧ ∀ i, k ≤ i → i < n → b i = false) ?_ ?_ ⟨rfl, lo, hi, rfl, h1, h2, by omega, hlo, hhi⟩) ?_
  · rintro x c st' _ hx ⟨rfl, l, r, rfl, a1, a2, a3, a4, a5⟩
    by_cases hc : l ≥ r
    · have e : l = r := by omega
      subst e
      exact f0 x l l _ hc ⟨rfl, l, rfl, a2, a4, a5⟩
    · refine f1 x l r _ (by omega) a2 (fun hb => ⟨rfl, _, _, rfl, by omega, a2, by omega, fun i hi => mono i _ (by omega) (by omega) hb, a5⟩) (fun hb => ⟨rfl, _, _, rfl, by omega, by omega, by omega, a4, fun i h1 h2 => ?_⟩)
      cases c : b i with
      | false => rfl
      | true => rw [mono _ i h1 h2 c] at hb; cases hb
  · rintro c st' ⟨rfl, l, r, rfl, a1, a2, a3, a4, a5⟩
    have e : l = r := by omega
    subst e
    exact ⟨rfl, l, rfl, a2, a4, a5⟩
  · rintro c st' ⟨rfl, k, rfl, a1, a2, a3⟩
    exact q k a1 a2 a3
theorem gal_ok {left : Bool} {key : Keyed} {arr : Array Keyed} {base n hint : Nat} {Q : Option Nat → SortSt → Prop} {st : SortSt} {at' : Nat → Keyed} (hk : kindOf st = O.kd) (ok : O.ok key) (ha : ∀ i, i < n → arr[base + i]? = some (at' i) ∧ O.ok (at' i)) (hh : hint < n)
    (mono : ∀ i j, i ≤ j → j < n → ahead O left key (at' j) = true → ahead O left key (at' i) = true)
    (q : ∀ k, k ≤ n → (∀ i, i < k → ahead O left key (at' i) = true) → (∀ i, k ≤ i → i < n → ahead O left key (at' i) = false) → Q (some k) st) : wpS M A E s (gal left key arr base n hint) Q st := by
  have run : ∀ (i : Nat) (R : Option Bool → SortSt → Prop), i < n → R (some (ahead O left key (at' i))) st → wpS M A E s (aheadT left key arr (base + i)) R st := fun i R hi r => ahead_ok O hk ok (ha i hi).1 (ha i hi).2 r
  generalize hb : (fun i => ahead O left key (at' i)) = b at *
  have eb : ∀ i, ahead O left key (at' i) = b i := fun i => by rw [← hb]
  simp only [eb] at mono q run
  delta gal
  refine wpS_bind (run hint _ hh ?_)
  dsimp only
  by_cases hb0 : b hint = true
  · rw [if_pos hb0]
    refine wpS_bind (wpS_mono (wpS_forRange (I := fun x c st' => st' = st ∧ ∃ l o, c = (none, l, o) ∧ l < o ∧ x + 1 ≤ o ∧ hint + l < n ∧ b (hint + l) = true) (Q := fun c st' => st' = st ∧ ∃ l o, c = (none, l, o) ∧ l < o ∧ hint + l < n ∧ b (hint + l) = true ∧ (n - hint ≤ o ∨ b (hint + o) = false)) ?_ ?_ ⟨rfl, 0, 1, rfl, by omega, by omega, by omega, hb0⟩) ?_)
    · rintro x c st' _ hx ⟨rfl, l, o, rfl, a1, a2, a3, a4⟩
      dsimp only
      by_cases hc : o ≥ n - hint
      · rw [if_pos hc]
        exact wpS_pure ⟨rfl, l, o, rfl, a1, a3, a4, .inl hc⟩
      · rw [if_neg hc]
        refine wpS_bind (run (hint + o) _ (by omega) ?_)
        dsimp only
        cases c : b (hint + o) with
        | false => exact wpS_pure ⟨rfl, l, o, rfl, a1, a3, a4, .inr c⟩
        | true => exact wpS_pure ⟨rfl, o, 2 * o + 1, rfl, by omega, by omega, by omega, c⟩
    · rintro c st' ⟨rfl, l, o, rfl, a1, a2, a3, a4⟩
      exact ⟨rfl, l, o, rfl, a1, a3, a4, .inl (by omega)⟩
    · rintro c st' ⟨rfl, l, o, rfl, a1, a3, a4, a5⟩
      dsimp only
      refine wpS_bind (half_ok (b := b) mono ?_ ?_ (by omega) (by omega) (fun i hi => mono i _ (by omega) a3 a4) ?_ ?_)
      · intro x lo hi R hge r
        dsimp only
        rw [if_pos hge]
        exact wpS_pure r
      · intro x lo hi R hlt hn r1 r2
        dsimp only
        rw [if_neg (by omega)]
        refine wpS_bind (run (lo + (hi - lo) / 2) _ (by omega) ?_)
        dsimp only
        cases c : b (lo + (hi - lo) / 2) with
        | false => exact wpS_pure (r2 c)
        | true => exact wpS_pure (r1 c)
      · intro i h1 h2
        rcases a5 with h | h
        · omega
        · cases c : b i with
          | false => rfl
          | true => rw [mono (hint + o) i (by omega) h2 c] at h; cases h
      · intro k k1 k2 k3
        exact wpS_pure (q k k1 k2 k3)
  · have hb1 : b hint = false := by cases c : b hint with | false => rfl | true => exact absurd c hb0
    rw [if_neg hb0]
    refine wpS_bind (wpS_mono (wpS_forRange (I := fun x c st' => st' = st ∧ ∃ l o, c = (none, l, o) ∧ l < o ∧ x + 1 ≤ o ∧ l ≤ hint ∧ b (hint - l) = false) (Q := fun c st' => st' = st ∧ ∃ l o, c = (none, l, o) ∧ l < o ∧ l ≤ hint ∧ b (hint - l) = false ∧ (hint + 1 ≤ o ∨ o ≤ hint ∧ b (hint - o) = true)) ?_ ?_ ⟨rfl, 0, 1, rfl, by omega, by omega, by omega, hb1⟩) ?_)
    · rintro x c st' _ hx ⟨rfl, l, o, rfl, a1, a2, a3, a4⟩
      dsimp only
      by_cases hc : o ≥ hint + 1
      · rw [if_pos hc]
        exact wpS_pure ⟨rfl, l, o, rfl, a1, a3, a4, .inl hc⟩
      · rw [if_neg hc]
        refine wpS_bind (run (hint - o) _ (by omega) ?_)
        dsimp only
        cases c : b (hint - o) with
        | false => exact wpS_pure ⟨rfl, o, 2 * o + 1, rfl, by omega, by omega, by omega, c⟩
        | true => exact wpS_pure ⟨rfl, l, o, rfl, a1, a3, a4, .inr ⟨by omega, c⟩⟩
    · rintro c st' ⟨rfl, l, o, rfl, a1, a2, a3, a4⟩
      exact ⟨rfl, l, o, rfl, a1, a3, a4, .inl (by omega)⟩
    · rintro c st' ⟨rfl, l, o, rfl, a1, a3, a4, a5⟩
      dsimp only
      refine wpS_bind (half_ok (b := b) mono ?_ ?_ (by omega) (by omega) (fun i hi => ?_) (fun i h1 h2 => ?_) ?_)
      · intro x lo hi R hge r
        dsimp only
        rw [if_pos hge]
        exact wpS_pure r
      · intro x lo hi R hlt hn r1 r2
        dsimp only
        rw [if_neg (by omega)]
        refine wpS_bind (run (lo + (hi - lo) / 2) _ (by omega) ?_)
        dsimp only
        cases c : b (lo + (hi - lo) / 2) with
        | false => exact wpS_pure (r2 c)
        | true => exact wpS_pure (r1 c)
      · rcases a5 with h | ⟨h, h'⟩
        · omega
        · exact mono i _ (by omega) (by omega) h'
      · cases c : b i with
        | false => rfl
        | true => rw [mono (hint - l) i (by omega) h2 c] at a4; cases a4
      · intro k k1 k2 k3
        exact wpS_pure (q k k1 k2 k3)
end
end L2
set_option Elab.async false
set_option linter.all false
set_option maxRecDepth 100000
set_option maxHeartbeats 400000
namespace L2
open PySem PyProof.Rows
def kat (a : Array Keyed) (i : Nat) : Keyed := (a[i]?).getD (.none, .none)
theorem kat_at {a : Array Keyed} {i : Nat} (h : i < a.size) : a[i]? = some (kat a i) := by
  unfold kat
  rw [getElem?_pos a i h]
  rfl
theorem kat_list {a : Array Keyed} {i : Nat} (h : i < a.size) : a.toList[i]? = some (kat a i) := by
  rw [Array.getElem?_toList]
  exact kat_at h
theorem drop_kat {a : Array Keyed} {i : Nat} (h : i < a.size) : a.toList.drop i = kat a i :: a.toList.drop (i + 1) := by
  have hl : i < a.toList.length := by simpa using h
  rw [List.drop_eq_getElem_cons hl]
  congr 1
  have := kat_list h
  rw [List.getElem?_eq_getElem hl] at this
  exact Option.some.inj this
theorem mem_kat {a : Array Keyed} {i : Nat} {z : Keyed} (h : z ∈ a.toList.drop i) : ∃ j, i ≤ j ∧ j < a.size ∧ z = kat a j := by
  obtain ⟨n, hn, e⟩ := List.getElem_of_mem h
  rw [List.length_drop, Array.length_toList] at hn
  refine ⟨i + n, by omega, by omega, ?_⟩
  rw [List.getElem_drop] at e
  have := kat_list (a := a) (i := i + n) (by omega)
  rw [List.getElem?_eq_getElem (by rw [Array.length_toList]; omega)] at this
  rw [← e]
  exact Option.some.inj this
theorem ext_list {a : Array Keyed} {i j : Nat} : (a.extract i j).toList = (a.toList.drop i).take (j - i) := by simp
section
variable {M : Model} {A : Around} {E : Value → Shared → Prop} {s : Shared} (O : SOrd M A E s)
def Sr (a : Array Keyed) : Prop := ∀ i j, i ≤ j → j < a.size → O.le (kat a i) (kat a j)
theorem Sr.pw {O : SOrd M A E s} {a : Array Keyed} (h : Sr O a) (i : Nat) : (a.toList.drop i).Pairwise O.le := by
  rw [List.pairwise_iff_getElem]
  intro p q hp hq hpq
  rw [List.length_drop, Array.length_toList] at hp hq
  rw [List.getElem_drop, List.getElem_drop]
  have e1 := kat_list (a := a) (i := i + p) (by omega)
  have e2 := kat_list (a := a) (i := i + q) (by omega)
  rw [List.getElem?_eq_getElem (by rw [Array.length_toList]; omega)] at e1 e2
  rw [Option.some.inj e1, Option.some.inj e2]
  exact h _ _ (by omega) (by omega)
structure MI (a b out : Array Keyed) (i j : Nat) : Prop where
  perm : (out.toList ++ a.toList.drop i ++ b.toList.drop j).Perm (a.toList ++ b.toList)
  so : out.toList.Pairwise O.le
  la : ∀ x ∈ out.toList, ∀ p, i ≤ p → p < a.size → O.le x (kat a p)
  lb : ∀ x ∈ out.toList, ∀ p, j ≤ p → p < b.size → O.le x (kat b p)
variable {O} {a b out : Array Keyed} {i j k : Nat}
theorem MI.segA (m : MI O a b out i j) (sa : Sr O a) (hk : i + k ≤ a.size) (le : ∀ p, i ≤ p → p < i + k → ∀ q, j ≤ q → q < b.size → O.le (kat a p) (kat b q)) {out' : Array Keyed} (e : out'.toList = out.toList ++ (a.toList.drop i).take k) : MI O a b out' (i + k) j := by
  have hm : ∀ x ∈ (a.toList.drop i).take k, ∃ p, i ≤ p ∧ p < i + k ∧ x = kat a p := fun x hx => by
    obtain ⟨n, hn, ex⟩ := List.getElem_of_mem hx
    rw [List.length_take, List.length_drop, Array.length_toList] at hn
    refine ⟨i + n, by omega, by omega, ?_⟩
    rw [List.getElem_take, List.getElem_drop] at ex
    have := kat_list (a := a) (i := i + n) (by omega)
    rw [List.getElem?_eq_getElem (by rw [Array.length_toList]; omega)] at this
    rw [← ex]
    exact Option.some.inj this
  have sp : a.toList.drop i = (a.toList.drop i).take k ++ a.toList.drop (i + k) := by rw [← List.drop_drop]; exact (List.take_append_drop k _).symm
  refine ⟨?_, ?_, fun x hx p h1 h2 => ?_, fun x hx p h1 h2 => ?_⟩
  · rw [e]
    have := m.perm
    rw [sp, ← List.append_assoc] at this
    exact this
  · rw [e, List.pairwise_append]
    refine ⟨m.so, (sa.pw i).sublist (List.take_sublist _ _), fun x hx y hy => ?_⟩
    obtain ⟨p, h1, h2, rfl⟩ := hm y hy
    exact m.la x hx p h1 (by omega)
  · rw [e] at hx
    rcases List.mem_append.mp hx with h | h
    · exact m.la x h p (by omega) h2
    · obtain ⟨r, h3, h4, rfl⟩ := hm x h
      exact sa r p (by omega) h2
  · rw [e] at hx
    rcases List.mem_append.mp hx with h | h
    · exact m.lb x h p h1 h2
    · obtain ⟨r, h3, h4, rfl⟩ := hm x h
      exact le r h3 h4 p h1 h2
theorem MI.segB (m : MI O a b out i j) (sb : Sr O b) (hk : j + k ≤ b.size) (le : ∀ p, j ≤ p → p < j + k → ∀ q, i ≤ q → q < a.size → O.le (kat b p) (kat a q)) {out' : Array Keyed} (e : out'.toList = out.toList ++ (b.toList.drop j).take k) : MI O a b out' i (j + k) := by
  have hm : ∀ x ∈ (b.toList.drop j).take k, ∃ p, j ≤ p ∧ p < j + k ∧ x = kat b p := fun x hx => by
    obtain ⟨n, hn, ex⟩ := List.getElem_of_mem hx
    rw [List.length_take, List.length_drop, Array.length_toList] at hn
    refine ⟨j + n, by omega, by omega, ?_⟩
    rw [List.getElem_take, List.getElem_drop] at ex
    have := kat_list (a := b) (i := j + n) (by omega)
    rw [List.getElem?_eq_getElem (by rw [Array.length_toList]; omega)] at this
    rw [← ex]
    exact Option.some.inj this
  have sp : b.toList.drop j = (b.toList.drop j).take k ++ b.toList.drop (j + k) := by rw [← List.drop_drop]; exact (List.take_append_drop k _).symm
  refine ⟨?_, ?_, fun x hx p h1 h2 => ?_, fun x hx p h1 h2 => ?_⟩
  · rw [e]
    have := m.perm
    rw [sp, ← List.append_assoc] at this
    refine List.Perm.trans (List.Perm.append_right _ ?_) this
    rw [List.append_assoc, List.append_assoc]
    exact List.Perm.append_left _ List.perm_append_comm
  · rw [e, List.pairwise_append]
    refine ⟨m.so, (sb.pw j).sublist (List.take_sublist _ _), fun x hx y hy => ?_⟩
    obtain ⟨p, h1, h2, rfl⟩ := hm y hy
    exact m.lb x hx p h1 (by omega)
  · rw [e] at hx
    rcases List.mem_append.mp hx with h | h
    · exact m.la x h p h1 h2
    · obtain ⟨r, h3, h4, rfl⟩ := hm x h
      exact le r h3 h4 p h1 h2
  · rw [e] at hx
    rcases List.mem_append.mp hx with h | h
    · exact m.lb x h p (by omega) h2
    · obtain ⟨r, h3, h4, rfl⟩ := hm x h
      exact sb r p (by omega) h2
theorem take_one {c : Array Keyed} {n : Nat} (h : n < c.size) : (c.toList.drop n).take 1 = [kat c n] := by rw [drop_kat h]; rfl
theorem MI.putA (m : MI O a b out i j) (sa : Sr O a) (hk : i < a.size) (le : ∀ q, j ≤ q → q < b.size → O.le (kat a i) (kat b q)) : MI O a b (out.push (kat a i)) (i + 1) j :=
  m.segA (k := 1) sa hk (fun p h1 h2 q h3 h4 => by have : p = i := by omega
                                                   subst this
                                                   exact le q h3 h4) (by rw [take_one hk]; simp)
theorem MI.putB (m : MI O a b out i j) (sb : Sr O b) (hk : j < b.size) (le : ∀ q, i ≤ q → q < a.size → O.le (kat b j) (kat a q)) : MI O a b (out.push (kat b j)) i (j + 1) :=
  m.segB (k := 1) sb hk (fun p h1 h2 q h3 h4 => by have : p = j := by omega
                                                   subst this
                                                   exact le q h3 h4) (by rw [take_one hk]; simp)
theorem MI.extA (m : MI O a b out i j) (sa : Sr O a) (hk : i + k ≤ a.size) (le : ∀ p, i ≤ p → p < i + k → ∀ q, j ≤ q → q < b.size → O.le (kat a p) (kat b q)) : MI O a b (out ++ a.extract i (i + k)) (i + k) j :=
  m.segA sa hk le (by rw [Array.toList_append, ext_list, show i + k - i = k by omega])
theorem MI.extB (m : MI O a b out i j) (sb : Sr O b) (hk : j + k ≤ b.size) (le : ∀ p, j ≤ p → p < j + k → ∀ q, i ≤ q → q < a.size → O.le (kat b p) (kat a q)) : MI O a b (out ++ b.extract j (j + k)) i (j + k) :=
  m.segB sb hk le (by rw [Array.toList_append, ext_list, show j + k - j = k by omega])
variable (O) in
def Res (a b r : Array Keyed) : Prop := r.toList.Pairwise O.le ∧ r.toList.Perm (a.toList ++ b.toList)
theorem rest_list {c : Array Keyed} {n : Nat} : (c.extract n c.size).toList = c.toList.drop n := by
  rw [ext_list]
  exact List.take_of_length_le (by rw [List.length_drop, Array.length_toList]; omega)
theorem MI.fin1 (m : MI O a b out i j) (sa : Sr O a) (sb : Sr O b) (h : a.size ≤ i ∨ b.size ≤ j) : Res O a b (out ++ a.extract i a.size ++ b.extract j b.size) := by
  unfold Res
  rw [Array.toList_append, Array.toList_append, rest_list, rest_list]
  refine ⟨?_, m.perm⟩
  rw [List.pairwise_append, List.pairwise_append]
  refine ⟨⟨m.so, sa.pw i, fun x hx y hy => ?_⟩, sb.pw j, fun x hx y hy => ?_⟩
  · obtain ⟨p, h1, h2, rfl⟩ := mem_kat hy
    exact m.la x hx p h1 h2
  · obtain ⟨p, h1, h2, rfl⟩ := mem_kat hy
    rcases List.mem_append.mp hx with hx | hx
    · exact m.lb x hx p h1 h2
    · obtain ⟨r, h3, h4, rfl⟩ := mem_kat hx
      omega
theorem MI.fin2 (m : MI O a b out i j) (sa : Sr O a) (sb : Sr O b) (h : i + 1 = a.size) (hl : ∀ q, q < b.size → O.le (kat b q) (kat a i)) : Res O a b (out ++ b.extract j b.size ++ a.extract i a.size) := by
  unfold Res
  rw [Array.toList_append, Array.toList_append, rest_list, rest_list]
  refine ⟨?_, ?_⟩
  · rw [List.pairwise_append, List.pairwise_append]
    refine ⟨⟨m.so, sb.pw j, fun x hx y hy => ?_⟩, sa.pw i, fun x hx y hy => ?_⟩
    · obtain ⟨p, h1, h2, rfl⟩ := mem_kat hy
      exact m.lb x hx p h1 h2
    · obtain ⟨p, h1, h2, rfl⟩ := mem_kat hy
      rcases List.mem_append.mp hx with hx | hx
      · exact m.la x hx p h1 h2
      · obtain ⟨r, h3, h4, rfl⟩ := mem_kat hx
        have : p = i := by omega
        subst this
        exact hl r h4
  · refine List.Perm.trans ?_ m.perm
    rw [List.append_assoc, List.append_assoc]
    exact List.Perm.append_left _ List.perm_append_comm
end
end L2
set_option Elab.async false
set_option linter.all false
set_option maxRecDepth 100000
set_option maxHeartbeats 1000000
namespace L2
open PySem PyProof.Rows
def mlo : Array Keyed → Array Keyed → StateT SortSt Sem (Array Keyed) := sortPriv% PySem.Builtin.mergeLo
def Gs (st st' : SortSt) : Prop := ∃ g, st' = SortSt.mk' (kindOf st) (arrOf st) (pendingOf st) g (failedOf st)
theorem Gs.refl (st : SortSt) : Gs st st := ⟨gallopOf st, rfl⟩
theorem Gs.kind {st st' : SortSt} (h : Gs st st') : kindOf st' = kindOf st := by obtain ⟨g, rfl⟩ := h; rfl
theorem Gs.set {st st' : SortSt} (h : Gs st st') (g : Nat) : Gs st (SortSt.mk' (kindOf st') (arrOf st') (pendingOf st') g (failedOf st')) := by obtain ⟨g', rfl⟩ := h; exact ⟨g, rfl⟩
section
variable {M : Model} {A : Around} {E : Value → Shared → Prop} {s : Shared} {O : SOrd M A E s} {a b : Array Keyed}
theorem galA {st : SortSt} {key : Keyed} {i : Nat} {Q : Option Nat → SortSt → Prop} (hk : kindOf st = O.kd) (oa : ∀ p, p < a.size → O.ok (kat a p)) (ok : O.ok key) (sa : Sr O a) (hi : i < a.size)
    (q : ∀ k, i + k ≤ a.size → (∀ p, i ≤ p → p < i + k → O.le (kat a p) key) → (∀ p, i + k ≤ p → p < a.size → O.blt key (kat a p) = true) → Q (some k) st) : wpS M A E s (gal false key a i (a.size - i) 0) Q st := by
  refine gal_ok O (at' := fun p => kat a (i + p)) hk ok (fun p hp => ⟨kat_at (by omega), oa _ (by omega)⟩) (by omega) (fun p r h1 h2 h3 => ?_) fun k h1 h2 h3 => q k (by omega) (fun p h4 h5 => ?_) (fun p h4 h5 => ?_)
  · unfold ahead at h3 ⊢
    rw [if_neg Bool.false_ne_true] at h3 ⊢
    have h4 : O.le (kat a (i + r)) key := by unfold SOrd.le; simpa using h3
    have h5 : O.le (kat a (i + p)) key := O.le_trans (sa _ _ (by omega) (by omega)) h4
    unfold SOrd.le at h5
    rw [h5]
    rfl
  · have := h2 (p - i) (by omega)
    unfold ahead at this
    rw [if_neg Bool.false_ne_true, show i + (p - i) = p by omega] at this
    unfold SOrd.le
    simpa using this
  · have := h3 (p - i) (by omega) (by omega)
    unfold ahead at this
    rw [if_neg Bool.false_ne_true, show i + (p - i) = p by omega] at this
    simpa using this
theorem galB {st : SortSt} {key : Keyed} {i : Nat} {Q : Option Nat → SortSt → Prop} (hk : kindOf st = O.kd) (ob : ∀ p, p < b.size → O.ok (kat b p)) (ok : O.ok key) (sb : Sr O b) (hi : i < b.size)
    (q : ∀ k, i + k ≤ b.size → (∀ p, i ≤ p → p < i + k → O.blt (kat b p) key = true) → (∀ p, i + k ≤ p → p < b.size → O.le key (kat b p)) → Q (some k) st) : wpS M A E s (gal true key b i (b.size - i) 0) Q st := by
  refine gal_ok O (at' := fun p => kat b (i + p)) hk ok (fun p hp => ⟨kat_at (by omega), ob _ (by omega)⟩) (by omega) (fun p r h1 h2 h3 => ?_) fun k h1 h2 h3 => q k (by omega) (fun p h4 h5 => ?_) (fun p h4 h5 => ?_)
  · unfold ahead at h3 ⊢
    rw [if_pos rfl] at h3 ⊢
    exact O.le_of (sb _ _ (by omega) (by omega)) h3
  · have := h2 (p - i) (by omega)
    unfold ahead at this
    rw [if_pos rfl, show i + (p - i) = p by omega] at this
    exact this
  · have := h3 (p - i) (by omega) (by omega)
    unfold ahead at this
    rw [if_pos rfl, show i + (p - i) = p by omega] at this
    exact this
theorem mlo_ok {Q : Array Keyed → SortSt → Prop} {st : SortSt} (hk : kindOf st = O.kd) (oa : ∀ p, p < a.size → O.ok (kat a p)) (ob : ∀ p, p < b.size → O.ok (kat b p)) (sa : Sr O a) (sb : Sr O b) (h0a : 0 < a.size) (h0b : 0 < b.size)
    (hf : O.blt (kat b 0) (kat a 0) = true) (hl : ∀ p, p < b.size → O.blt (kat b p) (kat a (a.size - 1)) = true) (q : ∀ r st', Gs st st' → Res O a b r → Q r st') : wpS M A E s (mlo a b) Q st := by
  have fa : ∀ i, i + 1 = a.size → ∀ p, p < b.size → O.le (kat b p) (kat a i) := fun i hi p hp => O.lt_le (by have := hl p hp; rwa [show a.size - 1 = i by omega] at this)
  delta mlo
  refine wpS_bind (wpS_lift (wpAny_rule ⟨rfl, ?_⟩))
  dsimp only
  refine wpS_bind (elem_ok (kat_at h0b) ?_)
  have m0 : MI O a b #[kat b 0] 0 1 := by
    refine ⟨?_, List.pairwise_singleton .., fun x hx p h1 h2 => ?_, fun x hx p h1 h2 => ?_⟩
    · rw [List.drop_zero]
      have e : b.toList = kat b 0 :: b.toList.drop 1 := by have := drop_kat h0b; rwa [List.drop_zero] at this
      have e2 : (a.toList ++ b.toList).Perm (kat b 0 :: (a.toList ++ b.toList.drop 1)) := by
        rw [e]
        exact List.perm_middle
      exact e2.symm
    · rw [List.mem_singleton.mp (show x ∈ [kat b 0] from hx)]
      exact O.le_trans (O.lt_le hf) (sa 0 p (Nat.zero_le _) h2)
    · rw [List.mem_singleton.mp (show x ∈ [kat b 0] from hx)]
      exact sb 0 p (Nat.zero_le _) h2
  by_cases c1 : 1 = b.size
  · rw [if_pos (by rw [← c1]; rfl)]
    exact wpS_pure (q _ st (Gs.refl st) (m0.fin1 sa sb (.inr (by omega))))
  rw [if_neg (by simpa using c1)]
  by_cases c2 : 0 + 1 = a.size
  · rw [if_pos (by rw [← c2]; rfl)]
    exact wpS_pure (q _ st (Gs.refl st) (m0.fin2 sa sb c2 (fa 0 c2)))
  rw [if_neg (by simpa using c2)]
  refine wpS_bind (wpS_get ?_)
  refine wpS_bind (wpS_mono (wpS_forRange (I := fun x c st' => Gs st st' ∧ ∃ out i j g, c = (none, out, i, j, g) ∧ MI O a b out i j ∧ i + 1 < a.size ∧ j < b.size ∧ x + 1 ≤ i + j) (Q := fun c st' => Gs st st' ∧ ∃ r rest, c = (some r, rest) ∧ Res O a b r) ?step ?fin ⟨Gs.refl st, _, _, _, _, rfl, m0, by omega, by omega, by omega⟩) ?post)
  case post =>
    rintro c st' ⟨g, r, rest, rfl, res⟩
    exact wpS_pure (q r st' g res)
  case fin =>
    rintro c st' ⟨_, out, i, j, g, rfl, _, h1, h2, h3⟩
    exfalso
    omega
  case step =>
    rintro x c st1 _ hx ⟨gs1, out, i, j, g, rfl, m1, i1, j1, xs⟩
    dsimp only
    have hk1 : kindOf st1 = O.kd := gs1.kind.trans hk
    refine wpS_bind (wpS_mono (wpS_forRange (I := fun y c st' => st' = st1 ∧ ∃ out' i' j' ac bc, c = (none, out', i', j', ac, bc) ∧ MI O a b out' i' j' ∧ i' + 1 < a.size ∧ j' < b.size ∧ y + (i + j) ≤ i' + j') (Q := fun c st' => st' = st1 ∧ ((∃ r rest, c = (some r, rest) ∧ Res O a b r) ∨ ∃ out' i' j' ac bc, c = (none, out', i', j', ac, bc) ∧ MI O a b out' i' j' ∧ i' + 1 < a.size ∧ j' < b.size ∧ i + j < i' + j')) ?istep ?ifin ⟨rfl, out, i, j, 0, 0, rfl, m1, i1, j1, by omega⟩) ?ipost)
    case ifin =>
      rintro c st' ⟨rfl, out', i', j', ac, bc, rfl, m2, i2, j2, ys⟩
      exact ⟨rfl, .inr ⟨out', i', j', ac, bc, rfl, m2, i2, j2, by omega⟩⟩
    case istep =>
      rintro y c st' _ hy ⟨rfl, out', i', j', ac, bc, rfl, m2, i2, j2, ys⟩
      dsimp only
      refine wpS_bind (elem_ok (kat_at j2) (wpS_bind (elem_ok (kat_at (show i' < a.size by omega)) (wpS_bind (O.run (ob _ j2) (oa _ (by omega)) hk1 ?_)))))
      dsimp only
      by_cases hb : O.blt (kat b j') (kat a i') = true
      · rw [if_pos hb]
        refine wpS_bind (elem_ok (kat_at j2) ?_)
        have m3 := m2.putB sb j2 (fun p h1 h2 => O.lt_le (O.lt_of hb (sa _ _ h1 h2)))
        by_cases e1 : j' + 1 = b.size
        · rw [if_pos (by rw [e1]; simp)]
          exact wpS_pure ⟨rfl, .inl ⟨_, _, rfl, m3.fin1 sa sb (.inr (by omega))⟩⟩
        · rw [if_neg (by simpa using e1)]
          split
          · exact wpS_pure ⟨rfl, .inr ⟨_, _, _, _, _, rfl, m3, i2, by omega, by omega⟩⟩
          · exact wpS_pure ⟨rfl, _, _, _, _, _, rfl, m3, i2, by omega, by omega⟩
      · rw [if_neg hb]
        have hb' : O.le (kat a i') (kat b j') := by
          unfold SOrd.le
          cases c : O.blt (kat b j') (kat a i') with
          | false => rfl
          | true => exact absurd c hb
        refine wpS_bind (elem_ok (kat_at (show i' < a.size by omega)) ?_)
        have m3 := m2.putA sa (by omega) (fun p h1 h2 => O.le_trans hb' (sb _ _ h1 h2))
        by_cases e1 : i' + 1 + 1 = a.size
        · rw [if_pos (by rw [e1]; simp)]
          exact wpS_pure ⟨rfl, .inl ⟨_, _, rfl, m3.fin2 sa sb e1 (fa _ e1)⟩⟩
        · rw [if_neg (by simpa using e1)]
          split
          · exact wpS_pure ⟨rfl, .inr ⟨_, _, _, _, _, rfl, m3, by omega, j2, by omega⟩⟩
          · exact wpS_pure ⟨rfl, _, _, _, _, _, rfl, m3, by omega, j2, by omega⟩
    case ipost =>
    rintro c st' ⟨rfl, ⟨r, rest, rfl, res⟩ | ⟨out', i', j', ac, bc, rfl, m2, i2, j2, ys⟩⟩
    · exact wpS_pure ⟨gs1, r, _, rfl, res⟩
    dsimp only
    refine wpS_bind (wpS_lift (wpAny_rule ⟨rfl, ?_⟩))
    refine wpS_bind (wpS_mono (wpS_forRange (I := fun y c st' => Gs st st' ∧ ∃ out1 i3 j3 mg ac bc, c = (none, out1, i3, j3, mg, ac, bc) ∧ MI O a b out1 i3 j3 ∧ i3 + 1 < a.size ∧ j3 < b.size ∧ i' + j' ≤ i3 + j3) (Q := fun c st' => Gs st st' ∧ ((∃ r rest, c = (some r, rest) ∧ Res O a b r) ∨ ∃ out1 i3 j3 mg ac bc, c = (none, out1, i3, j3, mg, ac, bc) ∧ MI O a b out1 i3 j3 ∧ i3 + 1 < a.size ∧ j3 < b.size ∧ i' + j' ≤ i3 + j3)) ?gstep ?gfin ⟨gs1, out', i', j', _, _, _, rfl, m2, i2, j2, by omega⟩) ?gpost)
    case gfin => exact fun c st' h => ⟨h.1, .inr h.2⟩
    case gpost =>
      rintro c st' ⟨gs2, ⟨r, rest, rfl, res⟩ | ⟨out1, i3, j3, mg, ac, bc, rfl, m3, i3', j3', ys'⟩⟩
      · exact wpS_pure ⟨gs2, r, _, rfl, res⟩
      · dsimp only
        refine wpS_bind (wpS_modify (wpS_pure ⟨gs2.set _, _, _, _, _, rfl, m3, i3', j3', by omega⟩))
    case gstep =>
      rintro y c st2 _ hy ⟨gs2, out1, i3, j3, mg, ac, bc, rfl, m3, i3', j3', ys'⟩
      dsimp only
      by_cases hmg : mg > 1
      · rw [if_pos hmg]
        refine wpS_bind (wpS_modify ?_)
        have gs3 := gs2.set (st' := st2)
        refine wpS_bind (elem_ok (kat_at j3') ?_)
        refine wpS_bind (galA (O := O) ((gs3 _).kind.trans hk) oa (ob _ j3') sa (by omega) fun k k1 k2 k3 => ?_)
        dsimp only
        by_cases hkk : k > 0
        · rw [if_pos hkk]
          have m4' := m3.extA (k := k) sa k1 (fun p h1 h2 r h3 h4 => O.le_trans (k2 p h1 h2) (sb _ _ h3 h4))
          by_cases e5 : i3 + k + 1 = a.size
          · rw [if_pos (by rw [e5]; simp)]
            exact wpS_pure ⟨gs3 _, .inl ⟨_, _, rfl, m4'.fin2 sa sb e5 (fa _ e5)⟩⟩
          · rw [if_neg (by simpa using e5)]
            by_cases e6 : i3 + k = a.size
            · rw [if_pos (by rw [e6]; simp)]
              exact wpS_pure ⟨gs3 _, .inl ⟨_, _, rfl, m4'.fin1 sa sb (.inl (by omega))⟩⟩
            · rw [if_neg (by simpa using e6)]
              refine wpS_bind (elem_ok (kat_at j3') ?_)
              have m5 := m4'.putB sb j3' (fun p h1 h2 => O.lt_le (k3 p (by omega) h2))
              by_cases e1 : j3 + 1 = b.size
              · rw [if_pos (by rw [e1]; simp)]
                exact wpS_pure ⟨gs3 _, .inl ⟨_, _, rfl, m5.fin1 sa sb (.inr (by omega))⟩⟩
              · rw [if_neg (by simpa using e1)]
                refine wpS_bind (elem_ok (kat_at (show i3 + k < a.size by omega)) ?_)
                refine wpS_bind (galB (O := O) ((gs3 _).kind.trans hk) ob (oa _ (by omega)) sb (by omega) fun r r1 r2 r3 => ?_)
                dsimp only
                by_cases hr : r > 0
                · rw [if_pos hr]
                  have m6 := m5.extB (k := r) sb r1 (fun p h1 h2 z h3 h4 => O.lt_le (O.lt_of (r2 p h1 h2) (sa _ _ h3 h4)))
                  by_cases e2 : j3 + 1 + r = b.size
                  · rw [if_pos (by rw [e2]; simp)]
                    exact wpS_pure ⟨gs3 _, .inl ⟨_, _, rfl, m6.fin1 sa sb (.inr (by omega))⟩⟩
                  · rw [if_neg (by simpa using e2)]
                    refine wpS_bind (elem_ok (kat_at (show i3 + k < a.size by omega)) ?_)
                    have m7 := m6.putA sa (by omega) (fun p h1 h2 => r3 p (by omega) h2)
                    by_cases e3 : i3 + k + 1 + 1 = a.size
                    · rw [if_pos (by rw [e3]; simp)]
                      exact wpS_pure ⟨gs3 _, .inl ⟨_, _, rfl, m7.fin2 sa sb e3 (fa _ e3)⟩⟩
                    · rw [if_neg (by simpa using e3)]
                      by_cases e4 : (decide (k < 7) && decide (r < 7)) = true
                      · rw [if_pos e4]
                        exact wpS_pure ⟨gs3 _, .inr ⟨_, _, _, _, _, _, rfl, m7, by omega, by omega, by omega⟩⟩
                      · rw [if_neg e4]
                        exact wpS_pure ⟨gs3 _, _, _, _, _, _, _, rfl, m7, by omega, by omega, by omega⟩
                · rw [if_neg hr]
                  have m6 := m5
                  refine wpS_bind (elem_ok (kat_at (show i3 + k < a.size by omega)) ?_)
                  have m7 := m6.putA sa (by omega) (fun p h1 h2 => r3 p (by omega) h2)
                  by_cases e3 : i3 + k + 1 + 1 = a.size
                  · rw [if_pos (by rw [e3]; simp)]
                    exact wpS_pure ⟨gs3 _, .inl ⟨_, _, rfl, m7.fin2 sa sb e3 (fa _ e3)⟩⟩
                  · rw [if_neg (by simpa using e3)]
                    by_cases e4 : (decide (k < 7) && decide (r < 7)) = true
                    · rw [if_pos e4]
                      exact wpS_pure ⟨gs3 _, .inr ⟨_, _, _, _, _, _, rfl, m7, by omega, by omega, by omega⟩⟩
                    · rw [if_neg e4]
                      exact wpS_pure ⟨gs3 _, _, _, _, _, _, _, rfl, m7, by omega, by omega, by omega⟩
        · rw [if_neg hkk]
          have m4' := m3
          refine wpS_bind (elem_ok (kat_at j3') ?_)
          have m5 := m4'.putB sb j3' (fun p h1 h2 => O.lt_le (k3 p (by omega) h2))
          by_cases e1 : j3 + 1 = b.size
          · rw [if_pos (by rw [e1]; simp)]
            exact wpS_pure ⟨gs3 _, .inl ⟨_, _, rfl, m5.fin1 sa sb (.inr (by omega))⟩⟩
          · rw [if_neg (by simpa using e1)]
            refine wpS_bind (elem_ok (kat_at (show i3 < a.size by omega)) ?_)
            refine wpS_bind (galB (O := O) ((gs3 _).kind.trans hk) ob (oa _ (by omega)) sb (by omega) fun r r1 r2 r3 => ?_)
            dsimp only
            by_cases hr : r > 0
            · rw [if_pos hr]
              have m6 := m5.extB (k := r) sb r1 (fun p h1 h2 z h3 h4 => O.lt_le (O.lt_of (r2 p h1 h2) (sa _ _ h3 h4)))
              by_cases e2 : j3 + 1 + r = b.size
              · rw [if_pos (by rw [e2]; simp)]
                exact wpS_pure ⟨gs3 _, .inl ⟨_, _, rfl, m6.fin1 sa sb (.inr (by omega))⟩⟩
              · rw [if_neg (by simpa using e2)]
                refine wpS_bind (elem_ok (kat_at (show i3 < a.size by omega)) ?_)
                have m7 := m6.putA sa (by omega) (fun p h1 h2 => r3 p (by omega) h2)
                by_cases e3 : i3 + 1 + 1 = a.size
                · rw [if_pos (by rw [e3]; simp)]
                  exact wpS_pure ⟨gs3 _, .inl ⟨_, _, rfl, m7.fin2 sa sb e3 (fa _ e3)⟩⟩
                · rw [if_neg (by simpa using e3)]
                  by_cases e4 : (decide (k < 7) && decide (r < 7)) = true
                  · rw [if_pos e4]
                    exact wpS_pure ⟨gs3 _, .inr ⟨_, _, _, _, _, _, rfl, m7, by omega, by omega, by omega⟩⟩
                  · rw [if_neg e4]
                    exact wpS_pure ⟨gs3 _, _, _, _, _, _, _, rfl, m7, by omega, by omega, by omega⟩
            · rw [if_neg hr]
              have m6 := m5
              refine wpS_bind (elem_ok (kat_at (show i3 < a.size by omega)) ?_)
              have m7 := m6.putA sa (by omega) (fun p h1 h2 => r3 p (by omega) h2)
              by_cases e3 : i3 + 1 + 1 = a.size
              · rw [if_pos (by rw [e3]; simp)]
                exact wpS_pure ⟨gs3 _, .inl ⟨_, _, rfl, m7.fin2 sa sb e3 (fa _ e3)⟩⟩
              · rw [if_neg (by simpa using e3)]
                by_cases e4 : (decide (k < 7) && decide (r < 7)) = true
                · rw [if_pos e4]
                  exact wpS_pure ⟨gs3 _, .inr ⟨_, _, _, _, _, _, rfl, m7, by omega, by omega, by omega⟩⟩
                · rw [if_neg e4]
                  exact wpS_pure ⟨gs3 _, _, _, _, _, _, _, rfl, m7, by omega, by omega, by omega⟩
      · rw [if_neg hmg]
        refine wpS_bind (wpS_modify ?_)
        have gs3 := gs2.set (st' := st2)
        refine wpS_bind (elem_ok (kat_at j3') ?_)
        refine wpS_bind (galA (O := O) ((gs3 _).kind.trans hk) oa (ob _ j3') sa (by omega) fun k k1 k2 k3 => ?_)
        dsimp only
        by_cases hkk : k > 0
        · rw [if_pos hkk]
          have m4' := m3.extA (k := k) sa k1 (fun p h1 h2 r h3 h4 => O.le_trans (k2 p h1 h2) (sb _ _ h3 h4))
          by_cases e5 : i3 + k + 1 = a.size
          · rw [if_pos (by rw [e5]; simp)]
            exact wpS_pure ⟨gs3 _, .inl ⟨_, _, rfl, m4'.fin2 sa sb e5 (fa _ e5)⟩⟩
          · rw [if_neg (by simpa using e5)]
            by_cases e6 : i3 + k = a.size
            · rw [if_pos (by rw [e6]; simp)]
              exact wpS_pure ⟨gs3 _, .inl ⟨_, _, rfl, m4'.fin1 sa sb (.inl (by omega))⟩⟩
            · rw [if_neg (by simpa using e6)]
              refine wpS_bind (elem_ok (kat_at j3') ?_)
              have m5 := m4'.putB sb j3' (fun p h1 h2 => O.lt_le (k3 p (by omega) h2))
              by_cases e1 : j3 + 1 = b.size
              · rw [if_pos (by rw [e1]; simp)]
                exact wpS_pure ⟨gs3 _, .inl ⟨_, _, rfl, m5.fin1 sa sb (.inr (by omega))⟩⟩
              · rw [if_neg (by simpa using e1)]
                refine wpS_bind (elem_ok (kat_at (show i3 + k < a.size by omega)) ?_)
                refine wpS_bind (galB (O := O) ((gs3 _).kind.trans hk) ob (oa _ (by omega)) sb (by omega) fun r r1 r2 r3 => ?_)
                dsimp only
                by_cases hr : r > 0
                · rw [if_pos hr]
                  have m6 := m5.extB (k := r) sb r1 (fun p h1 h2 z h3 h4 => O.lt_le (O.lt_of (r2 p h1 h2) (sa _ _ h3 h4)))
                  by_cases e2 : j3 + 1 + r = b.size
                  · rw [if_pos (by rw [e2]; simp)]
                    exact wpS_pure ⟨gs3 _, .inl ⟨_, _, rfl, m6.fin1 sa sb (.inr (by omega))⟩⟩
                  · rw [if_neg (by simpa using e2)]
                    refine wpS_bind (elem_ok (kat_at (show i3 + k < a.size by omega)) ?_)
                    have m7 := m6.putA sa (by omega) (fun p h1 h2 => r3 p (by omega) h2)
                    by_cases e3 : i3 + k + 1 + 1 = a.size
                    · rw [if_pos (by rw [e3]; simp)]
                      exact wpS_pure ⟨gs3 _, .inl ⟨_, _, rfl, m7.fin2 sa sb e3 (fa _ e3)⟩⟩
                    · rw [if_neg (by simpa using e3)]
                      by_cases e4 : (decide (k < 7) && decide (r < 7)) = true
                      · rw [if_pos e4]
                        exact wpS_pure ⟨gs3 _, .inr ⟨_, _, _, _, _, _, rfl, m7, by omega, by omega, by omega⟩⟩
                      · rw [if_neg e4]
                        exact wpS_pure ⟨gs3 _, _, _, _, _, _, _, rfl, m7, by omega, by omega, by omega⟩
                · rw [if_neg hr]
                  have m6 := m5
                  refine wpS_bind (elem_ok (kat_at (show i3 + k < a.size by omega)) ?_)
                  have m7 := m6.putA sa (by omega) (fun p h1 h2 => r3 p (by omega) h2)
                  by_cases e3 : i3 + k + 1 + 1 = a.size
                  · rw [if_pos (by rw [e3]; simp)]
                    exact wpS_pure ⟨gs3 _, .inl ⟨_, _, rfl, m7.fin2 sa sb e3 (fa _ e3)⟩⟩
                  · rw [if_neg (by simpa using e3)]
                    by_cases e4 : (decide (k < 7) && decide (r < 7)) = true
                    · rw [if_pos e4]
                      exact wpS_pure ⟨gs3 _, .inr ⟨_, _, _, _, _, _, rfl, m7, by omega, by omega, by omega⟩⟩
                    · rw [if_neg e4]
                      exact wpS_pure ⟨gs3 _, _, _, _, _, _, _, rfl, m7, by omega, by omega, by omega⟩
        · rw [if_neg hkk]
          have m4' := m3
          refine wpS_bind (elem_ok (kat_at j3') ?_)
          have m5 := m4'.putB sb j3' (fun p h1 h2 => O.lt_le (k3 p (by omega) h2))
          by_cases e1 : j3 + 1 = b.size
          · rw [if_pos (by rw [e1]; simp)]
            exact wpS_pure ⟨gs3 _, .inl ⟨_, _, rfl, m5.fin1 sa sb (.inr (by omega))⟩⟩
          · rw [if_neg (by simpa using e1)]
            refine wpS_bind (elem_ok (kat_at (show i3 < a.size by omega)) ?_)
            refine wpS_bind (galB (O := O) ((gs3 _).kind.trans hk) ob (oa _ (by omega)) sb (by omega) fun r r1 r2 r3 => ?_)
            dsimp only
            by_cases hr : r > 0
            · rw [if_pos hr]
              have m6 := m5.extB (k := r) sb r1 (fun p h1 h2 z h3 h4 => O.lt_le (O.lt_of (r2 p h1 h2) (sa _ _ h3 h4)))
              by_cases e2 : j3 + 1 + r = b.size
              · rw [if_pos (by rw [e2]; simp)]
                exact wpS_pure ⟨gs3 _, .inl ⟨_, _, rfl, m6.fin1 sa sb (.inr (by omega))⟩⟩
              · rw [if_neg (by simpa using e2)]
                refine wpS_bind (elem_ok (kat_at (show i3 < a.size by omega)) ?_)
                have m7 := m6.putA sa (by omega) (fun p h1 h2 => r3 p (by omega) h2)
                by_cases e3 : i3 + 1 + 1 = a.size
                · rw [if_pos (by rw [e3]; simp)]
                  exact wpS_pure ⟨gs3 _, .inl ⟨_, _, rfl, m7.fin2 sa sb e3 (fa _ e3)⟩⟩
                · rw [if_neg (by simpa using e3)]
                  by_cases e4 : (decide (k < 7) && decide (r < 7)) = true
                  · rw [if_pos e4]
                    exact wpS_pure ⟨gs3 _, .inr ⟨_, _, _, _, _, _, rfl, m7, by omega, by omega, by omega⟩⟩
                  · rw [if_neg e4]
                    exact wpS_pure ⟨gs3 _, _, _, _, _, _, _, rfl, m7, by omega, by omega, by omega⟩
            · rw [if_neg hr]
              have m6 := m5
              refine wpS_bind (elem_ok (kat_at (show i3 < a.size by omega)) ?_)
              have m7 := m6.putA sa (by omega) (fun p h1 h2 => r3 p (by omega) h2)
              by_cases e3 : i3 + 1 + 1 = a.size
              · rw [if_pos (by rw [e3]; simp)]
                exact wpS_pure ⟨gs3 _, .inl ⟨_, _, rfl, m7.fin2 sa sb e3 (fa _ e3)⟩⟩
              · rw [if_neg (by simpa using e3)]
                by_cases e4 : (decide (k < 7) && decide (r < 7)) = true
                · rw [if_pos e4]
                  exact wpS_pure ⟨gs3 _, .inr ⟨_, _, _, _, _, _, rfl, m7, by omega, by omega, by omega⟩⟩
                · rw [if_neg e4]
                  exact wpS_pure ⟨gs3 _, _, _, _, _, _, _, rfl, m7, by omega, by omega, by omega⟩
end
end L2
set_option Elab.async false
set_option linter.all false
set_option maxRecDepth 100000
set_option maxHeartbeats 1000000
namespace L2
open PySem PyProof.Rows
def mhi : Array Keyed → Array Keyed → StateT SortSt Sem (Array Keyed) := sortPriv% PySem.Builtin.mergeHi
theorem take_kat {a : Array Keyed} {i : Nat} (h : i < a.size) : a.toList.take (i + 1) = a.toList.take i ++ [kat a i] := by
  rw [List.take_add_one, kat_list h]
  rfl
theorem mem_take {a : Array Keyed} {i : Nat} {z : Keyed} (hi : i ≤ a.size) (h : z ∈ a.toList.take i) : ∃ j, j < i ∧ z = kat a j := by
  obtain ⟨n, hn, e⟩ := List.getElem_of_mem h
  rw [List.length_take, Array.length_toList] at hn
  refine ⟨n, by omega, ?_⟩
  rw [List.getElem_take] at e
  have := kat_list (a := a) (i := n) (by omega)
  rw [List.getElem?_eq_getElem (by rw [Array.length_toList]; omega)] at this
  rw [← e]
  exact Option.some.inj this
section
variable {M : Model} {A : Around} {E : Value → Shared → Prop} {s : Shared} (O : SOrd M A E s)
theorem Sr.tk {O : SOrd M A E s} {a : Array Keyed} (h : Sr O a) (i : Nat) : (a.toList.take i).Pairwise O.le := by
  have := h.pw 0
  rw [List.drop_zero] at this
  exact this.sublist (List.take_sublist _ _)
structure MH (a b out : Array Keyed) (i j : Nat) : Prop where
  perm : (a.toList.take i ++ b.toList.take j ++ out.toList.reverse).Perm (a.toList ++ b.toList)
  so : out.toList.reverse.Pairwise O.le
  la : ∀ x ∈ out.toList, ∀ p, p < i → O.le (kat a p) x
  lb : ∀ x ∈ out.toList, ∀ p, p < j → O.le (kat b p) x
variable {O} {a b out : Array Keyed} {i j k : Nat}
theorem seg_mem {c : Array Keyed} {k i : Nat} (hi : i ≤ c.size) {x : Keyed} (hx : x ∈ (c.toList.take i).drop k) : ∃ p, k ≤ p ∧ p < i ∧ x = kat c p := by
  obtain ⟨n, hn, ex⟩ := List.getElem_of_mem hx
  rw [List.length_drop, List.length_take, Array.length_toList] at hn
  refine ⟨k + n, by omega, by omega, ?_⟩
  rw [List.getElem_drop, List.getElem_take] at ex
  have := kat_list (a := c) (i := k + n) (by omega)
  rw [List.getElem?_eq_getElem (by rw [Array.length_toList]; omega)] at this
  rw [← ex]
  exact Option.some.inj this
theorem seg_split {c : Array Keyed} {k i : Nat} (h : k ≤ i) : c.toList.take i = c.toList.take k ++ (c.toList.take i).drop k := by
  have := (List.take_append_drop k (c.toList.take i)).symm
  rwa [List.take_take, Nat.min_eq_left h] at this
theorem MH.segA (m : MH O a b out i j) (sa : Sr O a) (hi : i ≤ a.size) (hj : j ≤ b.size) (hk : k ≤ i) (le : ∀ p, k ≤ p → p < i → ∀ q, q < j → O.le (kat b q) (kat a p)) {out' : Array Keyed} (e : out'.toList.reverse = (a.toList.take i).drop k ++ out.toList.reverse) : MH O a b out' k j := by
  have hm := fun {x} => seg_mem (c := a) (k := k) hi (x := x)
  have hx' : ∀ x ∈ out'.toList, x ∈ (a.toList.take i).drop k ∨ x ∈ out.toList := fun x hx => by
    have : x ∈ out'.toList.reverse := List.mem_reverse.mpr hx
    rw [e] at this
    exact (List.mem_append.mp this).imp id fun z => List.mem_reverse.mp z
  refine ⟨?_, ?_, fun x hx p h1 => ?_, fun x hx p h1 => ?_⟩
  · rw [e]
    have := m.perm
    rw [seg_split (c := a) hk] at this
    refine List.Perm.trans ?_ this
    rw [List.append_assoc, List.append_assoc, List.append_assoc]
    refine List.Perm.append_left _ ?_
    rw [← List.append_assoc, ← List.append_assoc]
    exact List.Perm.append_right _ List.perm_append_comm
  · rw [e, List.pairwise_append]
    refine ⟨(sa.tk i).sublist (List.drop_sublist _ _), m.so, fun x hx y hy => ?_⟩
    obtain ⟨p, h1, h2, rfl⟩ := hm hx
    exact m.la y (List.mem_reverse.mp hy) p h2
  · rcases hx' x hx with h | h
    · obtain ⟨r, h3, h4, rfl⟩ := hm h
      exact sa p r (by omega) (by omega)
    · exact m.la x h p (by omega)
  · rcases hx' x hx with h | h
    · obtain ⟨r, h3, h4, rfl⟩ := hm h
      exact le r h3 h4 p h1
    · exact m.lb x h p h1
theorem MH.segB (m : MH O a b out i j) (sb : Sr O b) (hi : i ≤ a.size) (hj : j ≤ b.size) (hk : k ≤ j) (le : ∀ p, k ≤ p → p < j → ∀ q, q < i → O.le (kat a q) (kat b p)) {out' : Array Keyed} (e : out'.toList.reverse = (b.toList.take j).drop k ++ out.toList.reverse) : MH O a b out' i k := by
  have hm := fun {x} => seg_mem (c := b) (k := k) hj (x := x)
  have hx' : ∀ x ∈ out'.toList, x ∈ (b.toList.take j).drop k ∨ x ∈ out.toList := fun x hx => by
    have : x ∈ out'.toList.reverse := List.mem_reverse.mpr hx
    rw [e] at this
    exact (List.mem_append.mp this).imp id fun z => List.mem_reverse.mp z
  refine ⟨?_, ?_, fun x hx p h1 => ?_, fun x hx p h1 => ?_⟩
  · rw [e]
    have := m.perm
    rw [seg_split (c := b) hk] at this
    refine List.Perm.trans ?_ this
    rw [List.append_assoc, List.append_assoc, List.append_assoc]
  · rw [e, List.pairwise_append]
    refine ⟨(sb.tk j).sublist (List.drop_sublist _ _), m.so, fun x hx y hy => ?_⟩
    obtain ⟨p, h1, h2, rfl⟩ := hm hx
    exact m.lb y (List.mem_reverse.mp hy) p h2
  · rcases hx' x hx with h | h
    · obtain ⟨r, h3, h4, rfl⟩ := hm h
      exact le r h3 h4 p h1
    · exact m.la x h p h1
  · rcases hx' x hx with h | h
    · obtain ⟨r, h3, h4, rfl⟩ := hm h
      exact sb p r (by omega) (by omega)
    · exact m.lb x h p (by omega)
theorem seg_one {c : Array Keyed} {n : Nat} (h : n < c.size) : (c.toList.take (n + 1)).drop n = [kat c n] := by
  rw [take_kat h, List.drop_append_of_le_length (by rw [List.length_take, Array.length_toList]; omega), List.drop_eq_nil_of_le (by rw [List.length_take]; omega)]
  rfl
theorem MH.putA (m : MH O a b out (i + 1) j) (sa : Sr O a) (hi : i < a.size) (hj : j ≤ b.size) (le : ∀ q, q < j → O.le (kat b q) (kat a i)) : MH O a b (out.push (kat a i)) i j :=
  m.segA (k := i) sa hi hj (Nat.le_succ _) (fun p h1 h2 q h3 => by have : p = i := by omega
                                                                   subst this
                                                                   exact le q h3) (by rw [seg_one hi]; simp)
theorem MH.putB (m : MH O a b out i (j + 1)) (sb : Sr O b) (hi : i ≤ a.size) (hj : j < b.size) (le : ∀ q, q < i → O.le (kat a q) (kat b j)) : MH O a b (out.push (kat b j)) i j :=
  m.segB (k := j) sb hi hj (Nat.le_succ _) (fun p h1 h2 q h3 => by have : p = j := by omega
                                                                   subst this
                                                                   exact le q h3) (by rw [seg_one hj]; simp)
theorem seg_ext {c : Array Keyed} {k i : Nat} : (c.extract k i).toList = (c.toList.take i).drop k := by
  rw [ext_list, List.drop_take]
theorem MH.extA (m : MH O a b out i j) (sa : Sr O a) (hi : i ≤ a.size) (hj : j ≤ b.size) (hk : k ≤ i) (le : ∀ p, k ≤ p → p < i → ∀ q, q < j → O.le (kat b q) (kat a p)) : MH O a b (out ++ (a.extract k i).reverse) k j :=
  m.segA sa hi hj hk le (by rw [Array.toList_append, Array.toList_reverse, seg_ext, List.reverse_append, List.reverse_reverse])
theorem MH.extB (m : MH O a b out i j) (sb : Sr O b) (hi : i ≤ a.size) (hj : j ≤ b.size) (hk : k ≤ j) (le : ∀ p, k ≤ p → p < j → ∀ q, q < i → O.le (kat a q) (kat b p)) : MH O a b (out ++ (b.extract k j).reverse) i k :=
  m.segB sb hi hj hk le (by rw [Array.toList_append, Array.toList_reverse, seg_ext, List.reverse_append, List.reverse_reverse])
theorem fst_list {c : Array Keyed} {n : Nat} : (c.extract 0 n).toList = c.toList.take n := by rw [seg_ext, List.drop_zero]
theorem MH.fin1 (m : MH O a b out i j) (sa : Sr O a) (sb : Sr O b) (hi : i ≤ a.size) (hj : j ≤ b.size) (h : i = 0 ∨ j = 0) : Res O a b (a.extract 0 i ++ b.extract 0 j ++ out.reverse) := by
  unfold Res
  rw [Array.toList_append, Array.toList_append, fst_list, fst_list, Array.toList_reverse]
  refine ⟨?_, m.perm⟩
  rw [List.pairwise_append, List.pairwise_append]
  refine ⟨⟨sa.tk i, sb.tk j, fun x hx y hy => ?_⟩, m.so, fun x hx y hy => ?_⟩
  · obtain ⟨p, h1, rfl⟩ := mem_take hi hx
    obtain ⟨r, h2, rfl⟩ := mem_take hj hy
    omega
  · rcases List.mem_append.mp hx with hx | hx
    · obtain ⟨p, h1, rfl⟩ := mem_take hi hx
      exact m.la y (List.mem_reverse.mp hy) p h1
    · obtain ⟨p, h1, rfl⟩ := mem_take hj hx
      exact m.lb y (List.mem_reverse.mp hy) p h1
theorem MH.fin2 (m : MH O a b out i j) (sa : Sr O a) (sb : Sr O b) (hi : i ≤ a.size) (hj : j ≤ b.size) (h : j = 1) (hf : ∀ q, q < a.size → O.le (kat b 0) (kat a q)) : Res O a b (b.extract 0 j ++ a.extract 0 i ++ out.reverse) := by
  unfold Res
  rw [Array.toList_append, Array.toList_append, fst_list, fst_list, Array.toList_reverse]
  refine ⟨?_, ?_⟩
  · rw [List.pairwise_append, List.pairwise_append]
    refine ⟨⟨sb.tk j, sa.tk i, fun x hx y hy => ?_⟩, m.so, fun x hx y hy => ?_⟩
    · obtain ⟨p, h1, rfl⟩ := mem_take hj hx
      obtain ⟨r, h2, rfl⟩ := mem_take hi hy
      have : p = 0 := by omega
      subst this
      exact hf r (by omega)
    · rcases List.mem_append.mp hx with hx | hx
      · obtain ⟨p, h1, rfl⟩ := mem_take hj hx
        exact m.lb y (List.mem_reverse.mp hy) p h1
      · obtain ⟨p, h1, rfl⟩ := mem_take hi hx
        exact m.la y (List.mem_reverse.mp hy) p h1
  · refine List.Perm.trans ?_ m.perm
    exact List.Perm.append_right _ List.perm_append_comm
theorem galA0 {st : SortSt} {key : Keyed} {n : Nat} {Q : Option Nat → SortSt → Prop} (hk : kindOf st = O.kd) (oa : ∀ p, p < a.size → O.ok (kat a p)) (ok : O.ok key) (sa : Sr O a) (hn : 0 < n) (hna : n ≤ a.size)
    (q : ∀ k, k ≤ n → (∀ p, p < k → O.le (kat a p) key) → (∀ p, k ≤ p → p < n → O.blt key (kat a p) = true) → Q (some k) st) : wpS M A E s (gal false key a 0 n (n - 1)) Q st := by
  refine gal_ok O (at' := fun p => kat a p) hk ok (fun p hp => ⟨by rw [Nat.zero_add]; exact kat_at (by omega), oa _ (by omega)⟩) (by omega) (fun p r h1 h2 h3 => ?_) fun k h1 h2 h3 => q k h1 (fun p h4 => ?_) (fun p h4 h5 => ?_)
  · unfold ahead at h3 ⊢
    rw [if_neg Bool.false_ne_true] at h3 ⊢
    have h4 : O.le (kat a r) key := by unfold SOrd.le; simpa using h3
    have h5 : O.le (kat a p) key := O.le_trans (sa _ _ h1 (by omega)) h4
    unfold SOrd.le at h5
    rw [h5]
    rfl
  · have := h2 p h4
    unfold ahead at this
    rw [if_neg Bool.false_ne_true] at this
    unfold SOrd.le
    simpa using this
  · have := h3 p h4 h5
    unfold ahead at this
    rw [if_neg Bool.false_ne_true] at this
    simpa using this
theorem galB0 {st : SortSt} {key : Keyed} {n : Nat} {Q : Option Nat → SortSt → Prop} (hk : kindOf st = O.kd) (ob : ∀ p, p < b.size → O.ok (kat b p)) (ok : O.ok key) (sb : Sr O b) (hn : 0 < n) (hnb : n ≤ b.size)
    (q : ∀ k, k ≤ n → (∀ p, p < k → O.blt (kat b p) key = true) → (∀ p, k ≤ p → p < n → O.le key (kat b p)) → Q (some k) st) : wpS M A E s (gal true key b 0 n (n - 1)) Q st := by
  refine gal_ok O (at' := fun p => kat b p) hk ok (fun p hp => ⟨by rw [Nat.zero_add]; exact kat_at (by omega), ob _ (by omega)⟩) (by omega) (fun p r h1 h2 h3 => ?_) fun k h1 h2 h3 => q k h1 (fun p h4 => ?_) (fun p h4 h5 => ?_)
  · unfold ahead at h3 ⊢
    rw [if_pos rfl] at h3 ⊢
    exact O.le_of (sb _ _ h1 (by omega)) h3
  · have := h2 p h4
    unfold ahead at this
    rw [if_pos rfl] at this
    exact this
  · have := h3 p h4 h5
    unfold ahead at this
    rw [if_pos rfl] at this
    exact this
theorem mhi_ok {Q : Array Keyed → SortSt → Prop} {st : SortSt} (hk : kindOf st = O.kd) (oa : ∀ p, p < a.size → O.ok (kat a p)) (ob : ∀ p, p < b.size → O.ok (kat b p)) (sa : Sr O a) (sb : Sr O b) (h0a : 0 < a.size) (h0b : 0 < b.size)
    (hf : O.blt (kat b 0) (kat a 0) = true) (hl : ∀ p, p < b.size → O.blt (kat b p) (kat a (a.size - 1)) = true) (q : ∀ r st', Gs st st' → Res O a b r → Q r st') : wpS M A E s (mhi a b) Q st := by
  have fb : ∀ p, p < a.size → O.le (kat b 0) (kat a p) := fun p hp => O.le_trans (O.lt_le hf) (sa 0 p (Nat.zero_le _) hp)
  delta mhi
  refine wpS_bind (wpS_lift (wpAny_rule ⟨rfl, ?_⟩))
  dsimp only
  refine wpS_bind (elem_ok (kat_at (show a.size - 1 < a.size by omega)) ?_)
  have m0 : MH O a b #[kat a (a.size - 1)] (a.size - 1) b.size := by
    refine ⟨?_, List.pairwise_singleton .., fun x hx p h1 => ?_, fun x hx p h1 => ?_⟩
    · have e := take_kat (a := a) (i := a.size - 1) (by omega)
      rw [show a.size - 1 + 1 = a.size by omega, List.take_of_length_le (by rw [Array.length_toList]; omega)] at e
      rw [List.take_of_length_le (l := b.toList) (by rw [Array.length_toList]; omega)]
      have e2 : (a.toList ++ b.toList).Perm (a.toList.take (a.size - 1) ++ b.toList ++ [kat a (a.size - 1)]) := by
        conv => lhs; rw [e]
        rw [List.append_assoc, List.append_assoc]
        exact List.Perm.append_left _ List.perm_append_comm
      exact e2.symm
    · rw [List.mem_singleton.mp (show x ∈ [kat a (a.size - 1)] from hx)]
      exact sa p _ (by omega) (by omega)
    · rw [List.mem_singleton.mp (show x ∈ [kat a (a.size - 1)] from hx)]
      exact O.lt_le (hl p h1)
  by_cases c1 : a.size - 1 = 0
  · rw [if_pos (by rw [c1]; rfl)]
    exact wpS_pure (q _ st (Gs.refl st) (m0.fin1 sa sb (by omega) (by omega) (.inl c1)))
  rw [if_neg (by simpa using c1)]
  by_cases c2 : b.size = 1
  · rw [if_pos (by rw [c2]; rfl)]
    exact wpS_pure (q _ st (Gs.refl st) (m0.fin2 sa sb (by omega) (by omega) c2 fb))
  rw [if_neg (by simpa using c2)]
  refine wpS_bind (wpS_get ?_)
  refine wpS_bind (wpS_mono (wpS_forRange (I := fun x c st' => Gs st st' ∧ ∃ out i j g, c = (none, i, j, out, g) ∧ MH O a b out i j ∧ 0 < i ∧ 1 < j ∧ i ≤ a.size ∧ j ≤ b.size ∧ x + 1 + i + j ≤ a.size + b.size) (Q := fun c st' => Gs st st' ∧ ∃ r rest, c = (some r, rest) ∧ Res O a b r) ?step ?fin ⟨Gs.refl st, _, _, _, _, rfl, m0, by omega, by omega, by omega, by omega, by omega⟩) ?post)
  case post =>
    rintro c st' ⟨g, r, rest, rfl, res⟩
    exact wpS_pure (q r st' g res)
  case fin =>
    rintro c st' ⟨_, out, i, j, g, rfl, _, h1, h2, h3, h4, h5⟩
    exfalso
    omega
  case step =>
    rintro x c st1 _ hx ⟨gs1, out, i, j, g, rfl, m1, i1, j1, ia, jb, xs⟩
    dsimp only
    have hk1 : kindOf st1 = O.kd := gs1.kind.trans hk
    refine wpS_bind (wpS_mono (wpS_forRange (I := fun y c st' => st' = st1 ∧ ∃ out' i' j' ac bc, c = (none, i', j', out', ac, bc) ∧ MH O a b out' i' j' ∧ 0 < i' ∧ 1 < j' ∧ i' ≤ a.size ∧ j' ≤ b.size ∧ y + i' + j' ≤ i + j) (Q := fun c st' => st' = st1 ∧ ((∃ r rest, c = (some r, rest) ∧ Res O a b r) ∨ ∃ out' i' j' ac bc, c = (none, i', j', out', ac, bc) ∧ MH O a b out' i' j' ∧ 0 < i' ∧ 1 < j' ∧ i' ≤ a.size ∧ j' ≤ b.size ∧ i' + j' < i + j)) ?istep ?ifin ⟨rfl, out, i, j, 0, 0, rfl, m1, i1, j1, ia, jb, by omega⟩) ?ipost)
    case ifin =>
      rintro c st' ⟨rfl, out', i', j', ac, bc, rfl, m2, i2, j2, ia', jb', ys⟩
      exact ⟨rfl, .inr ⟨out', i', j', ac, bc, rfl, m2, i2, j2, ia', jb', by omega⟩⟩
    case istep =>
      rintro y c st' _ hy ⟨rfl, out', i', j', ac, bc, rfl, m2, i2, j2, ia', jb', ys⟩
      dsimp only
      obtain ⟨i', rfl⟩ : ∃ n, i' = n + 1 := ⟨i' - 1, by omega⟩
      obtain ⟨j', rfl⟩ : ∃ n, j' = n + 1 := ⟨j' - 1, by omega⟩
      simp only [Nat.add_sub_cancel]
      refine wpS_bind (elem_ok (kat_at (show j' < b.size by omega)) (wpS_bind (elem_ok (kat_at (show i' < a.size by omega)) (wpS_bind (O.run (ob _ (by omega)) (oa _ (by omega)) hk1 ?_)))))
      dsimp only
      by_cases hb : O.blt (kat b j') (kat a i') = true
      · rw [if_pos hb]
        refine wpS_bind (elem_ok (kat_at (show i' < a.size by omega)) ?_)
        have m3 := m2.putA sa (by omega) (by omega) (fun p h1 => O.le_trans (sb p j' (by omega) (by omega)) (O.lt_le hb))
        by_cases e1 : i' = 0
        · rw [if_pos (by rw [e1]; simp)]
          exact wpS_pure ⟨rfl, .inl ⟨_, _, rfl, m3.fin1 sa sb (by omega) (by omega) (.inl e1)⟩⟩
        · rw [if_neg (by simpa using e1)]
          split
          · exact wpS_pure ⟨rfl, .inr ⟨_, _, _, _, _, rfl, m3, by omega, j2, by omega, by omega, by omega⟩⟩
          · exact wpS_pure ⟨rfl, _, _, _, _, _, rfl, m3, by omega, j2, by omega, by omega, by omega⟩
      · rw [if_neg hb]
        have hb' : O.le (kat a i') (kat b j') := by
          unfold SOrd.le
          cases c : O.blt (kat b j') (kat a i') with
          | false => rfl
          | true => exact absurd c hb
        refine wpS_bind (elem_ok (kat_at (show j' < b.size by omega)) ?_)
        have m3 := m2.putB sb (by omega) (by omega) (fun p h1 => O.le_trans (sa p i' (by omega) (by omega)) hb')
        by_cases e1 : j' = 1
        · rw [if_pos (by rw [e1]; simp)]
          exact wpS_pure ⟨rfl, .inl ⟨_, _, rfl, m3.fin2 sa sb (by omega) (by omega) e1 fb⟩⟩
        · rw [if_neg (by simpa using e1)]
          split
          · exact wpS_pure ⟨rfl, .inr ⟨_, _, _, _, _, rfl, m3, i2, by omega, by omega, by omega, by omega⟩⟩
          · exact wpS_pure ⟨rfl, _, _, _, _, _, rfl, m3, i2, by omega, by omega, by omega, by omega⟩
    case ipost =>
    rintro c st' ⟨rfl, ⟨r, rest, rfl, res⟩ | ⟨out', i', j', ac, bc, rfl, m2, i2, j2, ia', jb', ys⟩⟩
    · exact wpS_pure ⟨gs1, r, _, rfl, res⟩
    dsimp only
    refine wpS_bind (wpS_lift (wpAny_rule ⟨rfl, ?_⟩))
    refine wpS_bind (wpS_mono (wpS_forRange (I := fun y c st' => Gs st st' ∧ ∃ out1 i3 j3 mg ac bc, c = (none, i3, j3, out1, mg, ac, bc) ∧ MH O a b out1 i3 j3 ∧ 0 < i3 ∧ 1 < j3 ∧ i3 ≤ a.size ∧ j3 ≤ b.size ∧ i3 + j3 ≤ i' + j') (Q := fun c st' => Gs st st' ∧ ((∃ r rest, c = (some r, rest) ∧ Res O a b r) ∨ ∃ out1 i3 j3 mg ac bc, c = (none, i3, j3, out1, mg, ac, bc) ∧ MH O a b out1 i3 j3 ∧ 0 < i3 ∧ 1 < j3 ∧ i3 ≤ a.size ∧ j3 ≤ b.size ∧ i3 + j3 ≤ i' + j')) ?gstep ?gfin ⟨gs1, out', i', j', _, _, _, rfl, m2, i2, j2, ia', jb', by omega⟩) ?gpost)
    case gfin => exact fun c st' h => ⟨h.1, .inr h.2⟩
    case gpost =>
      rintro c st' ⟨gs2, ⟨r, rest, rfl, res⟩ | ⟨out1, i3, j3, mg, ac, bc, rfl, m3, i3', j3', ia3, jb3, ys'⟩⟩
      · exact wpS_pure ⟨gs2, r, _, rfl, res⟩
      · dsimp only
        refine wpS_bind (wpS_modify (wpS_pure ⟨gs2.set _, _, _, _, _, rfl, m3, i3', j3', ia3, jb3, by omega⟩))
    case gstep =>
      rintro y c st2 _ hy ⟨gs2, out1, i3, j3, mg, ac, bc, rfl, m3, i3', j3', ia3, jb3, ys'⟩
      dsimp only
      obtain ⟨j3, rfl⟩ : ∃ n, j3 = n + 1 := ⟨j3 - 1, by omega⟩
      simp only [Nat.add_sub_cancel]
      by_cases hmg : mg > 1
      · rw [if_pos hmg]
        refine wpS_bind (wpS_modify ?_)
        have gs3 := gs2.set (st' := st2)
        refine wpS_bind (elem_ok (kat_at (show j3 < b.size by omega)) ?_)
        refine wpS_bind (galA0 (O := O) ((gs3 _).kind.trans hk) oa (ob _ (by omega)) sa i3' ia3 fun k k1 k2 k3 => ?_)
        dsimp only
        by_cases hkk : i3 - k > 0
        · rw [if_pos hkk]
          have m4' := m3.extA (k := k) sa (by omega) (by omega) k1 (fun p h1 h2 z h3 => O.le_trans (sb z j3 (by omega) (by omega)) (O.lt_le (k3 p h1 h2)))
          by_cases e5 : k = 0
          · rw [if_pos (by rw [e5]; rfl)]
            exact wpS_pure ⟨gs3 _, .inl ⟨_, _, rfl, m4'.fin1 sa sb (by omega) (by omega) (.inl e5)⟩⟩
          · rw [if_neg (by simpa using e5)]
            refine wpS_bind (elem_ok (kat_at (show j3 < b.size by omega)) ?_)
            have m5 := m4'.putB sb (by omega) (by omega) (fun p h1 => k2 p (by omega))
            by_cases e1 : j3 = 1
            · rw [if_pos (by rw [e1]; rfl)]
              exact wpS_pure ⟨gs3 _, .inl ⟨_, _, rfl, m5.fin2 sa sb (by omega) (by omega) e1 fb⟩⟩
            · rw [if_neg (by simpa using e1)]
              refine wpS_bind (elem_ok (kat_at (show k - 1 < a.size by omega)) ?_)
              refine wpS_bind (galB0 (O := O) ((gs3 _).kind.trans hk) ob (oa _ (by omega)) sb (by omega) (by omega) fun r r1 r2 r3 => ?_)
              dsimp only
              by_cases hr : j3 - r > 0
              · rw [if_pos hr]
                have m6 := m5.extB (k := r) sb (by omega) (by omega) r1 (fun p h1 h2 z h3 => O.le_trans (sa z (k - 1) (by omega) (by omega)) (r3 p h1 h2))
                by_cases e2 : r = 1
                · rw [if_pos (by rw [e2]; rfl)]
                  exact wpS_pure ⟨gs3 _, .inl ⟨_, _, rfl, m6.fin2 sa sb (by omega) (by omega) e2 fb⟩⟩
                · rw [if_neg (by simpa using e2)]
                  by_cases e7 : r = 0
                  · rw [if_pos (by rw [e7]; rfl)]
                    exact wpS_pure ⟨gs3 _, .inl ⟨_, _, rfl, m6.fin1 sa sb (by omega) (by omega) (.inr e7)⟩⟩
                  · rw [if_neg (by simpa using e7)]
                    refine wpS_bind (elem_ok (kat_at (show k - 1 < a.size by omega)) ?_)
                    have m7 : MH O a b _ (k - 1) r := MH.putA (i := k - 1) (by rw [show k - 1 + 1 = k by omega]; exact m6) sa (by omega) (by omega) (fun p h1 => O.lt_le (r2 p (by omega)))
                    by_cases e3 : k - 1 = 0
                    · rw [if_pos (by rw [e3]; rfl)]
                      exact wpS_pure ⟨gs3 _, .inl ⟨_, _, rfl, m7.fin1 sa sb (by omega) (by omega) (.inl e3)⟩⟩
                    · rw [if_neg (by simpa using e3)]
                      by_cases e4 : (decide (i3 - k < 7) && decide (j3 - r < 7)) = true
                      · rw [if_pos e4]
                        exact wpS_pure ⟨gs3 _, .inr ⟨_, _, _, _, _, _, rfl, m7, by omega, by omega, by omega, by omega, by omega⟩⟩
                      · rw [if_neg e4]
                        exact wpS_pure ⟨gs3 _, _, _, _, _, _, _, rfl, m7, by omega, by omega, by omega, by omega, by omega⟩
              · rw [if_neg hr]
                have er : r = j3 := by omega
                have m6 := m5
                refine wpS_bind (elem_ok (kat_at (show k - 1 < a.size by omega)) ?_)
                have m7 : MH O a b _ (k - 1) j3 := MH.putA (i := k - 1) (by rw [show k - 1 + 1 = k by omega]; exact m6) sa (by omega) (by omega) (fun p h1 => O.lt_le (r2 p (by omega)))
                by_cases e3 : k - 1 = 0
                · rw [if_pos (by rw [e3]; rfl)]
                  exact wpS_pure ⟨gs3 _, .inl ⟨_, _, rfl, m7.fin1 sa sb (by omega) (by omega) (.inl e3)⟩⟩
                · rw [if_neg (by simpa using e3)]
                  by_cases e4 : (decide (i3 - k < 7) && decide (j3 - r < 7)) = true
                  · rw [if_pos e4]
                    exact wpS_pure ⟨gs3 _, .inr ⟨_, _, _, _, _, _, rfl, m7, by omega, by omega, by omega, by omega, by omega⟩⟩
                  · rw [if_neg e4]
                    exact wpS_pure ⟨gs3 _, _, _, _, _, _, _, rfl, m7, by omega, by omega, by omega, by omega, by omega⟩
        · rw [if_neg hkk]
          have ek : k = i3 := by omega
          have m4' := m3
          refine wpS_bind (elem_ok (kat_at (show j3 < b.size by omega)) ?_)
          have m5 := m4'.putB sb (by omega) (by omega) (fun p h1 => k2 p (by omega))
          by_cases e1 : j3 = 1
          · rw [if_pos (by rw [e1]; rfl)]
            exact wpS_pure ⟨gs3 _, .inl ⟨_, _, rfl, m5.fin2 sa sb (by omega) (by omega) e1 fb⟩⟩
          · rw [if_neg (by simpa using e1)]
            refine wpS_bind (elem_ok (kat_at (show i3 - 1 < a.size by omega)) ?_)
            refine wpS_bind (galB0 (O := O) ((gs3 _).kind.trans hk) ob (oa _ (by omega)) sb (by omega) (by omega) fun r r1 r2 r3 => ?_)
            dsimp only
            by_cases hr : j3 - r > 0
            · rw [if_pos hr]
              have m6 := m5.extB (k := r) sb (by omega) (by omega) r1 (fun p h1 h2 z h3 => O.le_trans (sa z (i3 - 1) (by omega) (by omega)) (r3 p h1 h2))
              by_cases e2 : r = 1
              · rw [if_pos (by rw [e2]; rfl)]
                exact wpS_pure ⟨gs3 _, .inl ⟨_, _, rfl, m6.fin2 sa sb (by omega) (by omega) e2 fb⟩⟩
              · rw [if_neg (by simpa using e2)]
                by_cases e7 : r = 0
                · rw [if_pos (by rw [e7]; rfl)]
                  exact wpS_pure ⟨gs3 _, .inl ⟨_, _, rfl, m6.fin1 sa sb (by omega) (by omega) (.inr e7)⟩⟩
                · rw [if_neg (by simpa using e7)]
                  refine wpS_bind (elem_ok (kat_at (show i3 - 1 < a.size by omega)) ?_)
                  have m7 : MH O a b _ (i3 - 1) r := MH.putA (i := i3 - 1) (by rw [show i3 - 1 + 1 = i3 by omega]; exact m6) sa (by omega) (by omega) (fun p h1 => O.lt_le (r2 p (by omega)))
                  by_cases e3 : i3 - 1 = 0
                  · rw [if_pos (by rw [e3]; rfl)]
                    exact wpS_pure ⟨gs3 _, .inl ⟨_, _, rfl, m7.fin1 sa sb (by omega) (by omega) (.inl e3)⟩⟩
                  · rw [if_neg (by simpa using e3)]
                    by_cases e4 : (decide (i3 - k < 7) && decide (j3 - r < 7)) = true
                    · rw [if_pos e4]
                      exact wpS_pure ⟨gs3 _, .inr ⟨_, _, _, _, _, _, rfl, m7, by omega, by omega, by omega, by omega, by omega⟩⟩
                    · rw [if_neg e4]
                      exact wpS_pure ⟨gs3 _, _, _, _, _, _, _, rfl, m7, by omega, by omega, by omega, by omega, by omega⟩
            · rw [if_neg hr]
              have er : r = j3 := by omega
              have m6 := m5
              refine wpS_bind (elem_ok (kat_at (show i3 - 1 < a.size by omega)) ?_)
              have m7 : MH O a b _ (i3 - 1) j3 := MH.putA (i := i3 - 1) (by rw [show i3 - 1 + 1 = i3 by omega]; exact m6) sa (by omega) (by omega) (fun p h1 => O.lt_le (r2 p (by omega)))
              by_cases e3 : i3 - 1 = 0
              · rw [if_pos (by rw [e3]; rfl)]
                exact wpS_pure ⟨gs3 _, .inl ⟨_, _, rfl, m7.fin1 sa sb (by omega) (by omega) (.inl e3)⟩⟩
              · rw [if_neg (by simpa using e3)]
                by_cases e4 : (decide (i3 - k < 7) && decide (j3 - r < 7)) = true
                · rw [if_pos e4]
                  exact wpS_pure ⟨gs3 _, .inr ⟨_, _, _, _, _, _, rfl, m7, by omega, by omega, by omega, by omega, by omega⟩⟩
                · rw [if_neg e4]
                  exact wpS_pure ⟨gs3 _, _, _, _, _, _, _, rfl, m7, by omega, by omega, by omega, by omega, by omega⟩
      · rw [if_neg hmg]
        refine wpS_bind (wpS_modify ?_)
        have gs3 := gs2.set (st' := st2)
        refine wpS_bind (elem_ok (kat_at (show j3 < b.size by omega)) ?_)
        refine wpS_bind (galA0 (O := O) ((gs3 _).kind.trans hk) oa (ob _ (by omega)) sa i3' ia3 fun k k1 k2 k3 => ?_)
        dsimp only
        by_cases hkk : i3 - k > 0
        · rw [if_pos hkk]
          have m4' := m3.extA (k := k) sa (by omega) (by omega) k1 (fun p h1 h2 z h3 => O.le_trans (sb z j3 (by omega) (by omega)) (O.lt_le (k3 p h1 h2)))
          by_cases e5 : k = 0
          · rw [if_pos (by rw [e5]; rfl)]
            exact wpS_pure ⟨gs3 _, .inl ⟨_, _, rfl, m4'.fin1 sa sb (by omega) (by omega) (.inl e5)⟩⟩
          · rw [if_neg (by simpa using e5)]
            refine wpS_bind (elem_ok (kat_at (show j3 < b.size by omega)) ?_)
            have m5 := m4'.putB sb (by omega) (by omega) (fun p h1 => k2 p (by omega))
            by_cases e1 : j3 = 1
            · rw [if_pos (by rw [e1]; rfl)]
              exact wpS_pure ⟨gs3 _, .inl ⟨_, _, rfl, m5.fin2 sa sb (by omega) (by omega) e1 fb⟩⟩
            · rw [if_neg (by simpa using e1)]
              refine wpS_bind (elem_ok (kat_at (show k - 1 < a.size by omega)) ?_)
              refine wpS_bind (galB0 (O := O) ((gs3 _).kind.trans hk) ob (oa _ (by omega)) sb (by omega) (by omega) fun r r1 r2 r3 => ?_)
              dsimp only
              by_cases hr : j3 - r > 0
              · rw [if_pos hr]
                have m6 := m5.extB (k := r) sb (by omega) (by omega) r1 (fun p h1 h2 z h3 => O.le_trans (sa z (k - 1) (by omega) (by omega)) (r3 p h1 h2))
                by_cases e2 : r = 1
                · rw [if_pos (by rw [e2]; rfl)]
                  exact wpS_pure ⟨gs3 _, .inl ⟨_, _, rfl, m6.fin2 sa sb (by omega) (by omega) e2 fb⟩⟩
                · rw [if_neg (by simpa using e2)]
                  by_cases e7 : r = 0
                  · rw [if_pos (by rw [e7]; rfl)]
                    exact wpS_pure ⟨gs3 _, .inl ⟨_, _, rfl, m6.fin1 sa sb (by omega) (by omega) (.inr e7)⟩⟩
                  · rw [if_neg (by simpa using e7)]
                    refine wpS_bind (elem_ok (kat_at (show k - 1 < a.size by omega)) ?_)
                    have m7 : MH O a b _ (k - 1) r := MH.putA (i := k - 1) (by rw [show k - 1 + 1 = k by omega]; exact m6) sa (by omega) (by omega) (fun p h1 => O.lt_le (r2 p (by omega)))
                    by_cases e3 : k - 1 = 0
                    · rw [if_pos (by rw [e3]; rfl)]
                      exact wpS_pure ⟨gs3 _, .inl ⟨_, _, rfl, m7.fin1 sa sb (by omega) (by omega) (.inl e3)⟩⟩
                    · rw [if_neg (by simpa using e3)]
                      by_cases e4 : (decide (i3 - k < 7) && decide (j3 - r < 7)) = true
                      · rw [if_pos e4]
                        exact wpS_pure ⟨gs3 _, .inr ⟨_, _, _, _, _, _, rfl, m7, by omega, by omega, by omega, by omega, by omega⟩⟩
                      · rw [if_neg e4]
                        exact wpS_pure ⟨gs3 _, _, _, _, _, _, _, rfl, m7, by omega, by omega, by omega, by omega, by omega⟩
              · rw [if_neg hr]
                have er : r = j3 := by omega
                have m6 := m5
                refine wpS_bind (elem_ok (kat_at (show k - 1 < a.size by omega)) ?_)
                have m7 : MH O a b _ (k - 1) j3 := MH.putA (i := k - 1) (by rw [show k - 1 + 1 = k by omega]; exact m6) sa (by omega) (by omega) (fun p h1 => O.lt_le (r2 p (by omega)))
                by_cases e3 : k - 1 = 0
                · rw [if_pos (by rw [e3]; rfl)]
                  exact wpS_pure ⟨gs3 _, .inl ⟨_, _, rfl, m7.fin1 sa sb (by omega) (by omega) (.inl e3)⟩⟩
                · rw [if_neg (by simpa using e3)]
                  by_cases e4 : (decide (i3 - k < 7) && decide (j3 - r < 7)) = true
                  · rw [if_pos e4]
                    exact wpS_pure ⟨gs3 _, .inr ⟨_, _, _, _, _, _, rfl, m7, by omega, by omega, by omega, by omega, by omega⟩⟩
                  · rw [if_neg e4]
                    exact wpS_pure ⟨gs3 _, _, _, _, _, _, _, rfl, m7, by omega, by omega, by omega, by omega, by omega⟩
        · rw [if_neg hkk]
          have ek : k = i3 := by omega
          have m4' := m3
          refine wpS_bind (elem_ok (kat_at (show j3 < b.size by omega)) ?_)
          have m5 := m4'.putB sb (by omega) (by omega) (fun p h1 => k2 p (by omega))
          by_cases e1 : j3 = 1
          · rw [if_pos (by rw [e1]; rfl)]
            exact wpS_pure ⟨gs3 _, .inl ⟨_, _, rfl, m5.fin2 sa sb (by omega) (by omega) e1 fb⟩⟩
          · rw [if_neg (by simpa using e1)]
            refine wpS_bind (elem_ok (kat_at (show i3 - 1 < a.size by omega)) ?_)
            refine wpS_bind (galB0 (O := O) ((gs3 _).kind.trans hk) ob (oa _ (by omega)) sb (by omega) (by omega) fun r r1 r2 r3 => ?_)
            dsimp only
            by_cases hr : j3 - r > 0
            · rw [if_pos hr]
              have m6 := m5.extB (k := r) sb (by omega) (by omega) r1 (fun p h1 h2 z h3 => O.le_trans (sa z (i3 - 1) (by omega) (by omega)) (r3 p h1 h2))
              by_cases e2 : r = 1
              · rw [if_pos (by rw [e2]; rfl)]
                exact wpS_pure ⟨gs3 _, .inl ⟨_, _, rfl, m6.fin2 sa sb (by omega) (by omega) e2 fb⟩⟩
              · rw [if_neg (by simpa using e2)]
                by_cases e7 : r = 0
                · rw [if_pos (by rw [e7]; rfl)]
                  exact wpS_pure ⟨gs3 _, .inl ⟨_, _, rfl, m6.fin1 sa sb (by omega) (by omega) (.inr e7)⟩⟩
                · rw [if_neg (by simpa using e7)]
                  refine wpS_bind (elem_ok (kat_at (show i3 - 1 < a.size by omega)) ?_)
                  have m7 : MH O a b _ (i3 - 1) r := MH.putA (i := i3 - 1) (by rw [show i3 - 1 + 1 = i3 by omega]; exact m6) sa (by omega) (by omega) (fun p h1 => O.lt_le (r2 p (by omega)))
                  by_cases e3 : i3 - 1 = 0
                  · rw [if_pos (by rw [e3]; rfl)]
                    exact wpS_pure ⟨gs3 _, .inl ⟨_, _, rfl, m7.fin1 sa sb (by omega) (by omega) (.inl e3)⟩⟩
                  · rw [if_neg (by simpa using e3)]
                    by_cases e4 : (decide (i3 - k < 7) && decide (j3 - r < 7)) = true
                    · rw [if_pos e4]
                      exact wpS_pure ⟨gs3 _, .inr ⟨_, _, _, _, _, _, rfl, m7, by omega, by omega, by omega, by omega, by omega⟩⟩
                    · rw [if_neg e4]
                      exact wpS_pure ⟨gs3 _, _, _, _, _, _, _, rfl, m7, by omega, by omega, by omega, by omega, by omega⟩
            · rw [if_neg hr]
              have er : r = j3 := by omega
              have m6 := m5
              refine wpS_bind (elem_ok (kat_at (show i3 - 1 < a.size by omega)) ?_)
              have m7 : MH O a b _ (i3 - 1) j3 := MH.putA (i := i3 - 1) (by rw [show i3 - 1 + 1 = i3 by omega]; exact m6) sa (by omega) (by omega) (fun p h1 => O.lt_le (r2 p (by omega)))
              by_cases e3 : i3 - 1 = 0
              · rw [if_pos (by rw [e3]; rfl)]
                exact wpS_pure ⟨gs3 _, .inl ⟨_, _, rfl, m7.fin1 sa sb (by omega) (by omega) (.inl e3)⟩⟩
              · rw [if_neg (by simpa using e3)]
                by_cases e4 : (decide (i3 - k < 7) && decide (j3 - r < 7)) = true
                · rw [if_pos e4]
                  exact wpS_pure ⟨gs3 _, .inr ⟨_, _, _, _, _, _, rfl, m7, by omega, by omega, by omega, by omega, by omega⟩⟩
                · rw [if_neg e4]
                  exact wpS_pure ⟨gs3 _, _, _, _, _, _, _, rfl, m7, by omega, by omega, by omega, by omega, by omega⟩
end
end L2
set_option Elab.async false
set_option linter.all false
set_option maxRecDepth 100000
set_option maxHeartbeats 1000000
namespace L2
open PySem PyProof.Rows
def kl (l : List Keyed) (i : Nat) : Keyed := (l[i]?).getD (.none, .none)
theorem kat_kl {a : Array Keyed} {i : Nat} : kat a i = kl a.toList i := by unfold kat kl; rw [Array.getElem?_toList]
theorem kl_right {l r : List Keyed} {i : Nat} : kl (l ++ r) (l.length + i) = kl r i := by unfold kl; rw [List.getElem?_append_right (Nat.le_add_right _ _), Nat.add_sub_cancel_left]
theorem kl_left {l r : List Keyed} {i : Nat} (h : i < l.length) : kl (l ++ r) i = kl l i := by unfold kl; rw [List.getElem?_append_left h]
theorem kl_get {l : List Keyed} {i : Nat} (h : i < l.length) : kl l i = l[i] := by unfold kl; rw [List.getElem?_eq_getElem h]; rfl
theorem kl_mem {l : List Keyed} {i : Nat} (h : i < l.length) : kl l i ∈ l := by rw [kl_get h]; exact List.getElem_mem h
theorem mem_kl {l : List Keyed} {z : Keyed} (h : z ∈ l) : ∃ i, i < l.length ∧ z = kl l i := by
  obtain ⟨i, hi, e⟩ := List.getElem_of_mem h
  exact ⟨i, hi, by rw [kl_get hi, e]⟩
theorem kl_take {l : List Keyed} {n i : Nat} (h : i < n) : kl (l.take n) i = kl l i := by unfold kl; rw [List.getElem?_take_of_lt h]
theorem kl_drop {l : List Keyed} {n i : Nat} : kl (l.drop n) i = kl l (n + i) := by unfold kl; rw [List.getElem?_drop]
theorem put_back (c : Nat) : ∀ (l : List Keyed) (n : Nat) (a : Array Keyed), c + n + l.length ≤ a.size → ((l.zipIdx n).foldl (fun a x => a.setIfInBounds (c + x.snd) x.fst) a).toList = a.toList.take (c + n) ++ l ++ a.toList.drop (c + n + l.length)
  | [], n, a, _ => by
    show a.toList = _
    rw [List.append_nil]
    exact (List.take_append_drop (c + n) a.toList).symm
  | x :: l, n, a, h => by
    rw [List.length_cons] at h
    show ((l.zipIdx (n + 1)).foldl (fun a x => a.setIfInBounds (c + x.snd) x.fst) (a.setIfInBounds (c + n) x)).toList = _
    have hs : (a.setIfInBounds (c + n) x).size = a.size := by simp
    rw [put_back c l (n + 1) _ (by rw [hs]; omega), Array.toList_setIfInBounds]
    have hl : c + n < a.toList.length := by rw [Array.length_toList]; omega
    have e1 : (a.toList.set (c + n) x).take (c + (n + 1)) = a.toList.take (c + n) ++ [x] := by
      rw [← Nat.add_assoc, List.take_add_one, List.take_set_of_le (by omega), List.getElem?_set_self hl]
      rfl
    have e2 : (a.toList.set (c + n) x).drop (c + (n + 1) + l.length) = a.toList.drop (c + n + (l.length + 1)) := by
      rw [List.drop_set_of_lt (by omega)]
      congr 1
      omega
    rw [e1, e2, List.append_assoc, List.append_assoc, List.append_assoc]
    rfl
theorem wpS_set {σ : Type} {M : Model} {A : Around} {E : Value → Shared → Prop} {s : Shared} {x : σ} {Q : PUnit → σ → Prop} {st : σ} (h : Q ⟨⟩ x) : wpS M A E s (set x : StateT σ Sem PUnit) Q st := by
  unfold wpS
  rw [StateT.run_set]
  exact wpAny_pure ⟨rfl, h⟩
section
variable {M : Model} {A : Around} {E : Value → Shared → Prop} {s : Shared} {O : SOrd M A E s}
theorem pw_kl {l : List Keyed} (h : l.Pairwise O.le) {p q : Nat} (hpq : p ≤ q) (hq : q < l.length) : O.le (kl l p) (kl l q) := by
  rw [kl_get hq, kl_get (by omega)]
  by_cases e : p = q
  · subst e; exact O.le_refl _
  · exact List.pairwise_iff_getElem.mp h p q (by omega) hq (by omega)
theorem pw_sr {a : Array Keyed} (h : a.toList.Pairwise O.le) : Sr O a := fun i j h1 h2 => by
  rw [kat_kl, kat_kl]
  exact pw_kl h h1 (by rw [Array.length_toList]; exact h2)
theorem mat_ok {i na pw sb nb pw2 : Nat} {Q : Bool → SortSt → Prop} {st : SortSt} {P X Y S : List Keyed} (hk : kindOf st = O.kd) (hfl : failedOf st = none) (h1 : (pendingOf st)[i]? = some (P.length, X.length, pw)) (h2 : (pendingOf st)[i + 1]? = some (P.length + X.length, Y.length, pw2))
    (ha : (arrOf st).toList = P ++ X ++ Y ++ S) (ok : ∀ z ∈ (arrOf st).toList, O.ok z) (hX : 0 < X.length) (hY : 0 < Y.length) (sX : X.Pairwise O.le) (sY : Y.Pairwise O.le)
    (q : ∀ (a' : Array Keyed) (g : Nat) (Z : List Keyed), a'.toList = P ++ Z ++ S → Z.Pairwise O.le → Z.Perm (X ++ Y) → Q true (SortSt.mk' (kindOf st) a' (((pendingOf st).setIfInBounds i (P.length, X.length + Y.length, pw)).eraseIdxIfInBounds (i + 1)) g (failedOf st))) : wpS M A E s (mergeAt' i) Q st := by
  have hsz : (arrOf st).size = P.length + X.length + Y.length + S.length := by rw [← Array.length_toList, ha]; simp only [List.length_append]
  have kX : ∀ p, p < X.length → kat (arrOf st) (P.length + p) = kl X p := fun p hp => by
    rw [kat_kl, ha, List.append_assoc, List.append_assoc, kl_right, kl_left hp]
  have kY : ∀ p, p < Y.length → kat (arrOf st) (P.length + X.length + p) = kl Y p := fun p hp => by
    rw [kat_kl, ha, List.append_assoc, show P.length + X.length = (P ++ X).length by rw [List.length_append], kl_right, kl_left hp]
  have okk : ∀ p, p < (arrOf st).size → O.ok (kat (arrOf st) p) := fun p hp => ok _ (by rw [kat_kl]; exact kl_mem (by rw [Array.length_toList]; exact hp))
  have b0 : kat (arrOf st) (P.length + X.length) = kl Y 0 := by have := kY 0 hY; rwa [Nat.add_zero] at this
  delta mergeAt'
  refine wpS_bind (wpS_get ?_)
  dsimp only
  rw [h1, h2]
  dsimp only
  refine wpS_bind (wpS_set ?_)
  refine wpS_bind (elem_ok (kat_at (show P.length + X.length < (arrOf st).size by omega)) ?_)
  rw [b0]
  have ok0 : O.ok (kl Y 0) := by rw [← b0]; exact okk _ (by omega)
  refine wpS_bind (gal_ok O (left := false) (at' := fun p => kl X p) hk ok0 (fun p hp => ⟨by rw [← kX p hp]; exact kat_at (show P.length + p < (arrOf st).size by omega), by rw [← kX p hp]; exact okk _ (by omega)⟩) hX (fun p r a1 a2 a3 => ?_) fun k k1 k2 k3 => ?_)
  · unfold ahead at a3 ⊢
    rw [if_neg Bool.false_ne_true] at a3 ⊢
    have a4 : O.le (kl X r) (kl Y 0) := by unfold SOrd.le; simpa using a3
    have a5 := O.le_trans (pw_kl sX a1 a2) a4
    unfold SOrd.le at a5
    rw [a5]
    rfl
  have F1 : ∀ p, p < k → O.le (kl X p) (kl Y 0) := fun p hp => by
    have := k2 p hp
    unfold ahead at this
    rw [if_neg Bool.false_ne_true] at this
    unfold SOrd.le
    simpa using this
  have F2 : ∀ p, k ≤ p → p < X.length → O.blt (kl Y 0) (kl X p) = true := fun p hp hp2 => by
    have := k3 p hp hp2
    unfold ahead at this
    rw [if_neg Bool.false_ne_true] at this
    simpa using this
  dsimp only
  by_cases c1 : X.length - k = 0
  · rw [if_pos (by rw [c1]; rfl)]
    refine wpS_pure (q _ _ (X ++ Y) (by rw [ha]; simp only [List.append_assoc]) ?_ (.refl _))
    rw [List.pairwise_append]
    refine ⟨sX, sY, fun x hx y hy => ?_⟩
    obtain ⟨p, hp, rfl⟩ := mem_kl hx
    obtain ⟨r, hr, rfl⟩ := mem_kl hy
    exact O.le_trans (F1 p (by omega)) (pw_kl sY (Nat.zero_le _) hr)
  rw [if_neg (by simpa using c1)]
  have el : P.length + k + (X.length - k) - 1 = P.length + (X.length - 1) := by omega
  rw [el]
  refine wpS_bind (elem_ok (kat_at (show P.length + (X.length - 1) < (arrOf st).size by omega)) ?_)
  rw [kX (X.length - 1) (by omega)]
  have okl : O.ok (kl X (X.length - 1)) := by rw [← kX _ (by omega)]; exact okk _ (by omega)
  refine wpS_bind (gal_ok O (left := true) (at' := fun p => kl Y p) hk okl (fun p hp => ⟨by rw [← kY p hp]; exact kat_at (show P.length + X.length + p < (arrOf st).size by omega), by rw [← kY p hp]; exact okk _ (by omega)⟩) (by omega) (fun p r a1 a2 a3 => ?_) fun n n1 n2 n3 => ?_)
  · unfold ahead at a3 ⊢
    rw [if_pos rfl] at a3 ⊢
    exact O.le_of (pw_kl sY a1 a2) a3
  have G1 : ∀ p, p < n → O.blt (kl Y p) (kl X (X.length - 1)) = true := fun p hp => by
    have := n2 p hp
    unfold ahead at this
    rwa [if_pos rfl] at this
  have G2 : ∀ p, n ≤ p → p < Y.length → O.le (kl X (X.length - 1)) (kl Y p) := fun p hp hp2 => by
    have := n3 p hp hp2
    unfold ahead at this
    rwa [if_pos rfl] at this
  dsimp only
  by_cases c2 : n = 0
  · exfalso
    have g := G2 0 (by omega) hY
    have f := F2 (X.length - 1) (by omega) (by omega)
    unfold SOrd.le at g
    rw [f] at g
    cases g
  rw [if_neg (by simpa using c2)]
  have ex : ((arrOf st).extract (P.length + k) (P.length + X.length)).toList = X.drop k := by
    rw [ext_list, ha, List.append_assoc, List.append_assoc, List.drop_length_add_append, List.drop_append_of_le_length (by omega), show P.length + X.length - (P.length + k) = (X.drop k).length by rw [List.length_drop]; omega, List.take_left]
  have ey : ((arrOf st).extract (P.length + X.length) (P.length + X.length + n)).toList = Y.take n := by
    rw [ext_list, ha, List.append_assoc, show P.length + X.length = (P ++ X).length by rw [List.length_append], List.drop_left, show (P ++ X).length + n - (P ++ X).length = n by omega, List.take_append_of_le_length n1]
  generalize (arrOf st).extract (P.length + k) (P.length + X.length) = x at *
  generalize (arrOf st).extract (P.length + X.length) (P.length + X.length + n) = y at *
  have xs : x.size = X.length - k := by rw [← Array.length_toList, ex, List.length_drop]
  have ys : y.size = n := by rw [← Array.length_toList, ey, List.length_take]; omega
  have kx : ∀ p, p < x.size → kat x p = kl X (k + p) := fun p hp => by rw [kat_kl, ex, kl_drop]
  have ky : ∀ p, p < y.size → kat y p = kl Y p := fun p hp => by rw [kat_kl, ey, kl_take (by omega)]
  have okx : ∀ p, p < x.size → O.ok (kat x p) := fun p hp => by rw [kx p hp, ← kX _ (by omega)]; exact okk _ (by omega)
  have oky : ∀ p, p < y.size → O.ok (kat y p) := fun p hp => by rw [ky p hp, ← kY _ (by omega)]; exact okk _ (by omega)
  have sx : Sr O x := pw_sr (by rw [ex]; exact sX.sublist (List.drop_sublist _ _))
  have sy : Sr O y := pw_sr (by rw [ey]; exact sY.sublist (List.take_sublist _ _))
  have hf : O.blt (kat y 0) (kat x 0) = true := by
    rw [ky 0 (by omega), kx 0 (by omega)]
    exact F2 _ (by omega) (by omega)
  have hl : ∀ p, p < y.size → O.blt (kat y p) (kat x (x.size - 1)) = true := fun p hp => by
    rw [ky p hp, kx _ (by omega), show k + (x.size - 1) = X.length - 1 by omega]
    exact G1 p (by omega)
  have fin : ∀ (r : Array Keyed) (g : Nat), Res O x y r → Q true (SortSt.mk' (kindOf st) (r.toList.zipIdx.foldl (fun a x => a.setIfInBounds (P.length + k + x.snd) x.fst) (arrOf st)) (((pendingOf st).setIfInBounds i (P.length, X.length + Y.length, pw)).eraseIdxIfInBounds (i + 1)) g (failedOf st)) := fun r g res => by
    obtain ⟨so, pm⟩ := res
    rw [ex, ey] at pm
    have rl := pm.length_eq
    rw [List.length_append, List.length_drop, List.length_take] at rl
    have inR : ∀ z ∈ r.toList, z ∈ X.drop k ∨ z ∈ Y.take n := fun z hz => List.mem_append.mp (pm.mem_iff.mp hz)
    refine q _ g (X.take k ++ r.toList ++ Y.drop n) ?_ ?_ ?_
    · rw [put_back (P.length + k) r.toList 0 (arrOf st) (by omega), ha]
      have t1 : (P ++ X ++ Y ++ S).take (P.length + k + 0) = P ++ X.take k := by
        rw [Nat.add_zero, List.append_assoc, List.append_assoc, List.take_length_add_append, List.take_append_of_le_length (by omega)]
      have t2 : (P ++ X ++ Y ++ S).drop (P.length + k + 0 + r.toList.length) = Y.drop n ++ S := by
        rw [show P.length + k + 0 + r.toList.length = (P ++ X).length + n by rw [List.length_append]; omega, List.append_assoc (P ++ X), List.drop_length_add_append, List.drop_append_of_le_length (by omega)]
      rw [t1, t2]
      simp only [List.append_assoc]
    · rw [List.pairwise_append, List.pairwise_append]
      refine ⟨⟨sX.sublist (List.take_sublist _ _), so, fun u hu v hv => ?_⟩, sY.sublist (List.drop_sublist _ _), fun u hu v hv => ?_⟩
      · obtain ⟨p, hp, rfl⟩ := mem_kl hu
        rw [List.length_take] at hp
        rw [kl_take (by omega)]
        rcases inR v hv with hv | hv
        · obtain ⟨w, hw, rfl⟩ := mem_kl hv
          rw [List.length_drop] at hw
          rw [kl_drop]
          exact pw_kl sX (by omega) (by omega)
        · obtain ⟨w, hw, rfl⟩ := mem_kl hv
          rw [List.length_take] at hw
          rw [kl_take (by omega)]
          exact O.le_trans (F1 p (by omega)) (pw_kl sY (Nat.zero_le _) (by omega))
      · obtain ⟨w, hw, rfl⟩ := mem_kl hv
        rw [List.length_drop] at hw
        rw [kl_drop]
        have g2 := G2 (n + w) (by omega) (by omega)
        rcases List.mem_append.mp hu with hu | hu
        · obtain ⟨p, hp, rfl⟩ := mem_kl hu
          rw [List.length_take] at hp
          rw [kl_take (by omega)]
          exact O.le_trans (pw_kl sX (show p ≤ X.length - 1 by omega) (by omega)) g2
        · rcases inR u hu with hu | hu
          · obtain ⟨p, hp, rfl⟩ := mem_kl hu
            rw [List.length_drop] at hp
            rw [kl_drop]
            exact O.le_trans (pw_kl sX (show k + p ≤ X.length - 1 by omega) (by omega)) g2
          · obtain ⟨p, hp, rfl⟩ := mem_kl hu
            rw [List.length_take] at hp
            rw [kl_take (by omega)]
            exact pw_kl sY (by omega) (by omega)
    · have e1 : X ++ Y = X.take k ++ (X.drop k ++ Y.take n) ++ Y.drop n := by
        conv => lhs; rw [← List.take_append_drop k X, ← List.take_append_drop n Y]
        simp only [List.append_assoc]
      rw [e1]
      exact (pm.append_left _).append_right _
  by_cases c3 : X.length - k ≤ n
  · rw [if_pos c3]
    refine wpS_bind (mlo_ok (O := O) hk okx oky sx sy (by omega) (by omega) hf hl fun r st' gs res => ?_)
    obtain ⟨g, rfl⟩ := gs
    refine wpS_bind (wpS_modify (wpS_bind (wpS_get (wpS_pure ?_))))
    show Q (failedOf st).isNone _
    have := fin r g res
    rw [hfl] at this ⊢
    exact this
  · rw [if_neg c3]
    refine wpS_bind (mhi_ok (O := O) hk okx oky sx sy (by omega) (by omega) hf hl fun r st' gs res => ?_)
    obtain ⟨g, rfl⟩ := gs
    refine wpS_bind (wpS_modify (wpS_bind (wpS_get (wpS_pure ?_))))
    show Q (failedOf st).isNone _
    have := fin r g res
    rw [hfl] at this ⊢
    exact this
end
end L2
set_option Elab.async false
set_option linter.all false
set_option maxRecDepth 100000
set_option maxHeartbeats 1000000
namespace L2
open PySem PyProof.Rows
theorem kat_mir {a : Array Keyed} {i j p : Nat} (hj : j ≤ a.size) : kat (mirror a i j ((j - i) / 2)) p = if i ≤ p ∧ p < j then kat a (i + j - 1 - p) else kat a p := by
  unfold kat
  rw [getElem?_mirror_all hj]
  split <;> rfl
theorem kat_bub {a : Array Keyed} {src d p : Nat} (hs : src < a.size) (hd : d ≤ src) : kat (bubble a src d) p = if p = src - d then kat a src else if src - d < p ∧ p ≤ src then kat a (p - 1) else kat a p := by
  unfold kat
  rw [getElem?_bubble hs d hd]
  split
  · rfl
  · split <;> rfl
structure Sb (lo : Nat) (st st' : SortSt) : Prop where
  eq : st' = setArr st (arrOf st')
  perm : (arrOf st').toList.Perm (arrOf st).toList
  same : ∀ p, p < lo → kat (arrOf st') p = kat (arrOf st) p
theorem Sb.refl (lo : Nat) (st : SortSt) : Sb lo st st := ⟨rfl, .refl _, fun _ _ => rfl⟩
theorem Sb.size {lo : Nat} {st st' : SortSt} (h : Sb lo st st') : (arrOf st').size = (arrOf st).size := by rw [← Array.length_toList, ← Array.length_toList]; exact h.perm.length_eq
theorem Sb.kind {lo : Nat} {st st' : SortSt} (h : Sb lo st st') : kindOf st' = kindOf st := by rw [h.eq]
theorem Sb.to {lo : Nat} {st st' : SortSt} {a : Array Keyed} (h : Sb lo st st') (p : a.toList.Perm (arrOf st').toList) (k : ∀ p, p < lo → kat a p = kat (arrOf st') p) : Sb lo st (setArr st' a) :=
  ⟨by have := h.eq; rw [this], p.trans h.perm, fun r hr => (k r hr).trans (h.same r hr)⟩
section
variable {M : Model} {A : Around} {E : Value → Shared → Prop} {s : Shared} (O : SOrd M A E s)
def Upw (a : Array Keyed) (lo n : Nat) : Prop := ∀ p q, p ≤ q → q < n → O.le (kat a (lo + p)) (kat a (lo + q))
def Dwn (a : Array Keyed) (lo n : Nat) : Prop := ∀ p q, p ≤ q → q < n → O.le (kat a (lo + q)) (kat a (lo + p))
variable {O}
theorem lta_ok {st : SortSt} {i j : Nat} {Q : Option Bool → SortSt → Prop} (hk : kindOf st = O.kd) (ok : ∀ z ∈ (arrOf st).toList, O.ok z) (hi : i < (arrOf st).size) (hj : j < (arrOf st).size) (q : Q (some (O.blt (kat (arrOf st) i) (kat (arrOf st) j))) st) : wpS M A E s (ltAt' i j) Q st := by
  have okk : ∀ p, p < (arrOf st).size → O.ok (kat (arrOf st) p) := fun p hp => ok _ (by rw [kat_kl]; exact kl_mem (by rw [Array.length_toList]; exact hp))
  rw [ltAt'_eq]
  refine wpS_bind (wpS_get (wpS_bind (elem_ok (kat_at hi) (wpS_bind (elem_ok (kat_at hj) ?_)))))
  exact O.run (okk _ hi) (okk _ hj) hk q
theorem Upw.one {a : Array Keyed} {lo : Nat} : Upw O a lo 1 := fun p q h1 h2 => by
  have : p = q := by omega
  subst this
  exact O.le_refl _
theorem Upw.more {a : Array Keyed} {lo n : Nat} (h : Upw O a lo n) (hn : 0 < n) (l : O.le (kat a (lo + n - 1)) (kat a (lo + n))) : Upw O a lo (n + 1) := fun p q h1 h2 => by
  by_cases e : q = n
  · subst e
    by_cases e2 : p = q
    · subst e2; exact O.le_refl _
    · have := h p (q - 1) (by omega) (by omega)
      rw [show lo + (q - 1) = lo + q - 1 by omega] at this
      exact O.le_trans this l
  · exact h p q h1 (by omega)
theorem Dwn.more {a : Array Keyed} {lo n : Nat} (h : Dwn O a lo n) (hn : 0 < n) (l : O.le (kat a (lo + n)) (kat a (lo + n - 1))) : Dwn O a lo (n + 1) := fun p q h1 h2 => by
  by_cases e : q = n
  · subst e
    by_cases e2 : p = q
    · subst e2; exact O.le_refl _
    · have := h p (q - 1) (by omega) (by omega)
      rw [show lo + (q - 1) = lo + q - 1 by omega] at this
      exact O.le_trans l this
  · exact h p q h1 (by omega)
def Alike (O : SOrd M A E s) (a a' : Array Keyed) : Prop := ∀ p, O.le (kat a' p) (kat a p) ∧ O.le (kat a p) (kat a' p)
theorem Dwn.alike {a a' : Array Keyed} {lo n : Nat} (h : Dwn O a lo n) (e : Alike O a a') : Dwn O a' lo n := fun p q h1 h2 => O.le_trans (e _).1 (O.le_trans (h p q h1 h2) (e _).2)
theorem mir_alike {a : Array Keyed} {i j : Nat} (hj : j ≤ a.size) (h : ∀ p q, i ≤ p → p < j → i ≤ q → q < j → O.le (kat a p) (kat a q)) : Alike O a (mirror a i j ((j - i) / 2)) := fun p => by
  rw [kat_mir hj]
  split
  · exact ⟨h _ _ (by omega) (by omega) (by omega) (by omega), h _ _ (by omega) (by omega) (by omega) (by omega)⟩
  · exact ⟨O.le_refl _, O.le_refl _⟩
theorem mir_perm (a : Array Keyed) (i j d : Nat) : (mirror a i j d).toList.Perm a.toList := Array.perm_iff_toList_perm.mp (mirror_perm a i j d)
theorem bub_perm (a : Array Keyed) (i d : Nat) : (bubble a i d).toList.Perm a.toList := Array.perm_iff_toList_perm.mp (bubble_perm a i d)
theorem asc_ok {lo n0 nr : Nat} {st : SortSt} {Q : Option (Option Nat) × Nat → SortSt → Prop} {f : Nat → Option (Option Nat) × Nat → StateT SortSt Sem (ForInStep (Option (Option Nat) × Nat))} (h1 : 0 < n0) (h2 : n0 ≤ nr) (u : Upw O (arrOf st) lo n0)
    (hf : ∀ x n R, 0 < n → n < nr → (O.blt (kat (arrOf st) (lo + n)) (kat (arrOf st) (lo + n - 1)) = true → R (.done (none, n)) st) → (O.blt (kat (arrOf st) (lo + n)) (kat (arrOf st) (lo + n - 1)) = false → R (.yield (none, n + 1)) st) → wpS M A E s (f x (none, n)) R st)
    (q : ∀ n, n0 ≤ n → n ≤ nr → Upw O (arrOf st) lo n → (n = nr ∨ O.blt (kat (arrOf st) (lo + n)) (kat (arrOf st) (lo + n - 1)) = true) → Q (none, n) st) : wpS M A E s (forIn [n0:nr] (none, n0) f) Q st := by
  refine wpS_mono (wpS_forRange (I := fun x c st' => st' = st ∧ c = (none, x) ∧ Upw O (arrOf st) lo x) (Q := fun c st' => st' = st ∧ ∃ n, c = (none, n) ∧ n0 ≤ n ∧ n ≤ nr ∧ Upw O (arrOf st) lo n ∧ (n = nr ∨ O.blt (kat (arrOf st) (lo + n)) (kat (arrOf st) (lo + n - 1)) = true)) ?_ ?_ ⟨rfl, rfl, u⟩) ?_
  · rintro x c st' hx hx2 ⟨rfl, rfl, ux⟩
    exact hf x x _ (by omega) hx2 (fun hb => ⟨rfl, x, rfl, hx, by omega, ux, .inr hb⟩) (fun hb => ⟨rfl, rfl, ux.more (by omega) hb⟩)
  · rintro c st' ⟨rfl, rfl, ux⟩
    exact ⟨rfl, _, rfl, by omega, by omega, ux, .inl (by omega)⟩
  · rintro c st' ⟨rfl, n, rfl, a1, a2, a3, a4⟩
    exact q n a1 a2 a3 a4
theorem crun_ok {lo nr : Nat} {Q : Option Nat → SortSt → Prop} {st : SortSt} (hk : kindOf st = O.kd) (ok : ∀ z ∈ (arrOf st).toList, O.ok z) (hs : lo + nr = (arrOf st).size) (h0 : 0 < nr)
    (q : ∀ n st', Sb lo st st' → 0 < n → n ≤ nr → Upw O (arrOf st') lo n → Q (some n) st') : wpS M A E s (countRun' lo nr) Q st := by
  have okS : ∀ {st'}, Sb lo st st' → ∀ z ∈ (arrOf st').toList, O.ok z := fun {st'} h z hz => ok z (h.perm.mem_iff.mp hz)
  have cmp : ∀ {st'} (i j : Nat) (R : Option Bool → SortSt → Prop), Sb lo st st' → i < (arrOf st).size → j < (arrOf st).size → R (some (O.blt (kat (arrOf st') i) (kat (arrOf st') j))) st' → wpS M A E s (ltAt' i j) R st' := fun {st'} i j R h hi hj r => lta_ok (h.kind.trans hk) (okS h) (by rw [h.size]; exact hi) (by rw [h.size]; exact hj) r
  delta countRun'
  refine wpS_bind (asc_ok (O := O) (lo := lo) (by omega) h0 Upw.one (fun x n R n0 hn r1 r2 => ?_) fun n n1 n2 un hn => ?_)
  · dsimp only
    refine wpS_bind (cmp _ _ _ (Sb.refl lo st) (by omega) (by omega) ?_)
    dsimp only
    by_cases hb : O.blt (kat (arrOf st) (lo + n)) (kat (arrOf st) (lo + n - 1)) = true
    · rw [if_pos hb]; exact wpS_pure (r1 hb)
    · rw [if_neg hb]; exact wpS_pure (r2 (by simpa using hb))
  dsimp only
  by_cases c1 : n = nr
  · rw [if_pos (by rw [c1]; simp)]
    exact wpS_pure (q n st (Sb.refl lo st) (by omega) n2 un)
  rw [if_neg (by simpa using c1)]
  have hlt := hn.resolve_left c1
  by_cases c2 : n > 1
  · rw [if_pos c2]
    refine wpS_bind (cmp _ _ _ (Sb.refl lo st) (by omega) (by omega) ?_)
    dsimp only
    by_cases c3 : O.blt (kat (arrOf st) lo) (kat (arrOf st) (lo + n - 1)) = true
    · rw [if_pos c3]
      exact wpS_pure (q n st (Sb.refl lo st) (by omega) n2 un)
    rw [if_neg c3]
    have c3' : O.le (kat (arrOf st) (lo + n - 1)) (kat (arrOf st) lo) := by unfold SOrd.le; simpa using c3
    refine wpS_bind (wpS_modify ?_)
    have all : ∀ p q, lo ≤ p → p < lo + n → lo ≤ q → q < lo + n → O.le (kat (arrOf st) p) (kat (arrOf st) q) := fun p q h1 h2 h3 h4 => by
      have a1 := un (p - lo) (n - 1) (by omega) (by omega)
      have a2 := un 0 (q - lo) (by omega) (by omega)
      rw [show lo + (p - lo) = p by omega, show lo + (n - 1) = lo + n - 1 by omega] at a1
      rw [show lo + (q - lo) = q by omega, Nat.add_zero] at a2
      exact O.le_trans a1 (O.le_trans c3' a2)
    have sb1 : Sb lo st (setArr st (mirror (arrOf st) lo (lo + n) ((lo + n - lo) / 2))) := (Sb.refl lo st).to (mir_perm _ _ _ _) (fun p hp => by rw [kat_mir (by omega), if_neg (by omega)])
    have D1 : Dwn O (mirror (arrOf st) lo (lo + n) ((lo + n - lo) / 2)) lo (n + 1) := by
      have al := mir_alike (O := O) (a := arrOf st) (i := lo) (j := lo + n) (by omega) all
      refine Dwn.alike ?_ al
      refine Dwn.more (fun p q h1 h2 => all _ _ (by omega) (by omega) (by omega) (by omega)) (by omega) (O.lt_le hlt)
    show wpS M A E s _ Q (setArr st (mirror (arrOf st) lo (lo + n) ((lo + n - lo) / 2)))
    generalize hst : setArr st (mirror (arrOf st) lo (lo + n) ((lo + n - lo) / 2)) = st1 at *
    have D1' : Dwn O (arrOf st1) lo (n + 1) := by rw [← hst]; exact D1
    clear hst D1 all
    refine wpS_bind (wpS_lift (wpAny_rule ⟨rfl, ?_⟩))
    refine wpS_bind (wpS_mono (wpS_forRange (I := fun x c st' => Sb lo st st' ∧ ∃ e, c = (none, x, e) ∧ e + 1 ≤ x ∧ Dwn O (arrOf st') lo x ∧ ∀ p, x ≤ p + e + 1 → p < x → O.le (kat (arrOf st') (lo + p)) (kat (arrOf st') (lo + x - 1))) (Q := fun c st' => Sb lo st st' ∧ ∃ x e, c = (none, x, e) ∧ n + 1 ≤ x ∧ x ≤ nr ∧ e + 1 ≤ x ∧ Dwn O (arrOf st') lo x ∧ ∀ p, x ≤ p + e + 1 → p < x → O.le (kat (arrOf st') (lo + p)) (kat (arrOf st') (lo + x - 1))) ?dstep ?dfin ⟨sb1, 0, rfl, by omega, D1', fun p h1 h2 => by rw [show lo + p = lo + (n + 1) - 1 by omega]; exact O.le_refl _⟩) ?dpost)
    case dfin =>
      rintro c st' ⟨sb, e, rfl, a1, a2, a3⟩
      exact ⟨sb, _, e, rfl, by omega, by omega, a1, a2, a3⟩
    case dstep =>
      rintro x c st2 hx hx2 ⟨sb2, e, rfl, a1, a2, a3⟩
      dsimp only
      refine wpS_bind (cmp _ _ _ sb2 (by omega) (by omega) ?_)
      dsimp only
      by_cases hb : O.blt (kat (arrOf st2) (lo + x)) (kat (arrOf st2) (lo + x - 1)) = true
      · rw [if_pos hb]
        by_cases he : e > 0
        · rw [if_pos he]
          refine wpS_bind (wpS_modify (wpS_pure ?_))
          have hsz : lo + x ≤ (arrOf st2).size := by rw [sb2.size]; omega
          have blk : ∀ p q, lo + x - (e + 1) ≤ p → p < lo + x → lo + x - (e + 1) ≤ q → q < lo + x → O.le (kat (arrOf st2) p) (kat (arrOf st2) q) := fun p q h1 h2 h3 h4 => by
            have b1 := a3 (p - lo) (by omega) (by omega)
            have b2 := a2 (q - lo) (x - 1) (by omega) (by omega)
            rw [show lo + (p - lo) = p by omega] at b1
            rw [show lo + (q - lo) = q by omega, show lo + (x - 1) = lo + x - 1 by omega] at b2
            exact O.le_trans b1 b2
          have al := mir_alike (O := O) (a := arrOf st2) hsz blk
          have sb5 : Sb lo st (setArr st2 (mirror (arrOf st2) (lo + x - (e + 1)) (lo + x) ((lo + x - (lo + x - (e + 1))) / 2))) := sb2.to (mir_perm _ _ _ _) (fun p hp => by rw [kat_mir hsz, if_neg (by omega)])
          refine ⟨sb5, 0, rfl, by omega, ?_, fun p h1 h2 => by rw [show lo + p = lo + (x + 1) - 1 by omega]; exact O.le_refl _⟩
          exact Dwn.alike (a2.more (by omega) (O.lt_le hb)) al
        · rw [if_neg he]
          exact wpS_pure ⟨sb2, 0, rfl, by omega, a2.more (by omega) (O.lt_le hb), fun p h1 h2 => by rw [show lo + p = lo + (x + 1) - 1 by omega]; exact O.le_refl _⟩
      · rw [if_neg hb]
        have hb' : O.le (kat (arrOf st2) (lo + x - 1)) (kat (arrOf st2) (lo + x)) := by unfold SOrd.le; simpa using hb
        refine wpS_bind (cmp _ _ _ sb2 (by omega) (by omega) ?_)
        dsimp only
        by_cases hc : O.blt (kat (arrOf st2) (lo + x - 1)) (kat (arrOf st2) (lo + x)) = true
        · rw [if_pos hc]
          exact wpS_pure ⟨sb2, x, e, rfl, hx, by omega, a1, a2, a3⟩
        · rw [if_neg hc]
          have hc' : O.le (kat (arrOf st2) (lo + x)) (kat (arrOf st2) (lo + x - 1)) := by unfold SOrd.le; simpa using hc
          refine wpS_pure ⟨sb2, e + 1, rfl, by omega, a2.more (by omega) hc', fun p h1 h2 => ?_⟩
          rw [show lo + (x + 1) - 1 = lo + x by omega]
          by_cases ep : p = x
          · subst ep; exact O.le_refl _
          · exact O.le_trans (a3 p (by omega) (by omega)) hb'
    case dpost =>
      rintro c st2 ⟨sb2, x, e, rfl, hx, hx2, a1, a2, a3⟩
      dsimp only
      by_cases he : e > 0
      · rw [if_pos he]
        refine wpS_bind (wpS_modify ?_)
        have hsz : lo + x ≤ (arrOf st2).size := by rw [sb2.size]; omega
        have blk : ∀ p q, lo + x - (e + 1) ≤ p → p < lo + x → lo + x - (e + 1) ≤ q → q < lo + x → O.le (kat (arrOf st2) p) (kat (arrOf st2) q) := fun p q h1 h2 h3 h4 => by
          have b1 := a3 (p - lo) (by omega) (by omega)
          have b2 := a2 (q - lo) (x - 1) (by omega) (by omega)
          rw [show lo + (p - lo) = p by omega] at b1
          rw [show lo + (q - lo) = q by omega, show lo + (x - 1) = lo + x - 1 by omega] at b2
          exact O.le_trans b1 b2
        have al := mir_alike (O := O) (a := arrOf st2) hsz blk
        have sb4 : Sb lo st (setArr st2 (mirror (arrOf st2) (lo + x - (e + 1)) (lo + x) ((lo + x - (lo + x - (e + 1))) / 2))) := sb2.to (mir_perm _ _ _ _) (fun p hp => by rw [kat_mir hsz, if_neg (by omega)])
        have D4 := Dwn.alike a2 al
        show wpS M A E s _ Q (setArr st2 (mirror (arrOf st2) (lo + x - (e + 1)) (lo + x) ((lo + x - (lo + x - (e + 1))) / 2)))
        generalize hst4 : setArr st2 (mirror (arrOf st2) (lo + x - (e + 1)) (lo + x) ((lo + x - (lo + x - (e + 1))) / 2)) = st4 at *
        have D4' : Dwn O (arrOf st4) lo x := by rw [← hst4]; exact D4
        clear hst4 D4 al blk
        refine wpS_bind (wpS_modify ?_)
        have sb3 : Sb lo st (setArr st4 (mirror (arrOf st4) lo (lo + x) ((lo + x - lo) / 2))) := sb4.to (mir_perm _ _ _ _) (fun p hp => by rw [kat_mir (by rw [sb4.size]; omega), if_neg (by omega)])
        have U3 : Upw O (mirror (arrOf st4) lo (lo + x) ((lo + x - lo) / 2)) lo x := fun p q h1 h2 => by
          rw [kat_mir (by rw [sb4.size]; omega), kat_mir (by rw [sb4.size]; omega), if_pos (by omega), if_pos (by omega), show lo + (lo + x) - 1 - (lo + p) = lo + (x - 1 - p) by omega, show lo + (lo + x) - 1 - (lo + q) = lo + (x - 1 - q) by omega]
          exact D4' _ _ (by omega) (by omega)
        show wpS M A E s _ Q (setArr st4 (mirror (arrOf st4) lo (lo + x) ((lo + x - lo) / 2)))
        generalize hst3 : setArr st4 (mirror (arrOf st4) lo (lo + x) ((lo + x - lo) / 2)) = st3 at *
        have U3' : Upw O (arrOf st3) lo x := by rw [← hst3]; exact U3
        clear hst3 U3
        refine wpS_bind (asc_ok (O := O) (lo := lo) (by omega) (by omega) U3' (fun y n R n0 hn r1 r2 => ?_) fun n n1 n2 un hn => ?_)
        · dsimp only
          refine wpS_bind (cmp _ _ _ sb3 (by omega) (by omega) ?_)
          dsimp only
          by_cases hb : O.blt (kat (arrOf st3) (lo + n)) (kat (arrOf st3) (lo + n - 1)) = true
          · rw [if_pos hb]; exact wpS_pure (r1 hb)
          · rw [if_neg hb]; exact wpS_pure (r2 (by simpa using hb))
        · dsimp only
          exact wpS_pure (q n st3 sb3 (by omega) n2 un)
      · rw [if_neg he]
        refine wpS_bind (wpS_modify ?_)
        have sb3 : Sb lo st (setArr st2 (mirror (arrOf st2) lo (lo + x) ((lo + x - lo) / 2))) := sb2.to (mir_perm _ _ _ _) (fun p hp => by rw [kat_mir (by rw [sb2.size]; omega), if_neg (by omega)])
        have U3 : Upw O (mirror (arrOf st2) lo (lo + x) ((lo + x - lo) / 2)) lo x := fun p q h1 h2 => by
          rw [kat_mir (by rw [sb2.size]; omega), kat_mir (by rw [sb2.size]; omega), if_pos (by omega), if_pos (by omega), show lo + (lo + x) - 1 - (lo + p) = lo + (x - 1 - p) by omega, show lo + (lo + x) - 1 - (lo + q) = lo + (x - 1 - q) by omega]
          exact a2 _ _ (by omega) (by omega)
        show wpS M A E s _ Q (setArr st2 (mirror (arrOf st2) lo (lo + x) ((lo + x - lo) / 2)))
        generalize hst3 : setArr st2 (mirror (arrOf st2) lo (lo + x) ((lo + x - lo) / 2)) = st3 at *
        have U3' : Upw O (arrOf st3) lo x := by rw [← hst3]; exact U3
        clear hst3 U3
        refine wpS_bind (asc_ok (O := O) (lo := lo) (by omega) (by omega) U3' (fun y n R n0 hn r1 r2 => ?_) fun n n1 n2 un hn => ?_)
        · dsimp only
          refine wpS_bind (cmp _ _ _ sb3 (by omega) (by omega) ?_)
          dsimp only
          by_cases hb : O.blt (kat (arrOf st3) (lo + n)) (kat (arrOf st3) (lo + n - 1)) = true
          · rw [if_pos hb]; exact wpS_pure (r1 hb)
          · rw [if_neg hb]; exact wpS_pure (r2 (by simpa using hb))
        · dsimp only
          exact wpS_pure (q n st3 sb3 (by omega) n2 un)
  · rw [if_neg c2]
    have en : n = 1 := by omega
    have sb1 := Sb.refl lo st
    have D1' : Dwn O (arrOf st) lo (n + 1) := by
      refine Dwn.more (fun p q h1 h2 => ?_) (by omega) (O.lt_le hlt)
      have : p = q := by omega
      subst this
      exact O.le_refl _
    refine wpS_bind (wpS_lift (wpAny_rule ⟨rfl, ?_⟩))
    refine wpS_bind (wpS_mono (wpS_forRange (I := fun x c st' => Sb lo st st' ∧ ∃ e, c = (none, x, e) ∧ e + 1 ≤ x ∧ Dwn O (arrOf st') lo x ∧ ∀ p, x ≤ p + e + 1 → p < x → O.le (kat (arrOf st') (lo + p)) (kat (arrOf st') (lo + x - 1))) (Q := fun c st' => Sb lo st st' ∧ ∃ x e, c = (none, x, e) ∧ n + 1 ≤ x ∧ x ≤ nr ∧ e + 1 ≤ x ∧ Dwn O (arrOf st') lo x ∧ ∀ p, x ≤ p + e + 1 → p < x → O.le (kat (arrOf st') (lo + p)) (kat (arrOf st') (lo + x - 1))) ?dstep ?dfin ⟨sb1, 0, rfl, by omega, D1', fun p h1 h2 => by rw [show lo + p = lo + (n + 1) - 1 by omega]; exact O.le_refl _⟩) ?dpost)
    case dfin =>
      rintro c st' ⟨sb, e, rfl, a1, a2, a3⟩
      exact ⟨sb, _, e, rfl, by omega, by omega, a1, a2, a3⟩
    case dstep =>
      rintro x c st2 hx hx2 ⟨sb2, e, rfl, a1, a2, a3⟩
      dsimp only
      refine wpS_bind (cmp _ _ _ sb2 (by omega) (by omega) ?_)
      dsimp only
      by_cases hb : O.blt (kat (arrOf st2) (lo + x)) (kat (arrOf st2) (lo + x - 1)) = true
      · rw [if_pos hb]
        by_cases he : e > 0
        · rw [if_pos he]
          refine wpS_bind (wpS_modify (wpS_pure ?_))
          have hsz : lo + x ≤ (arrOf st2).size := by rw [sb2.size]; omega
          have blk : ∀ p q, lo + x - (e + 1) ≤ p → p < lo + x → lo + x - (e + 1) ≤ q → q < lo + x → O.le (kat (arrOf st2) p) (kat (arrOf st2) q) := fun p q h1 h2 h3 h4 => by
            have b1 := a3 (p - lo) (by omega) (by omega)
            have b2 := a2 (q - lo) (x - 1) (by omega) (by omega)
            rw [show lo + (p - lo) = p by omega] at b1
            rw [show lo + (q - lo) = q by omega, show lo + (x - 1) = lo + x - 1 by omega] at b2
            exact O.le_trans b1 b2
          have al := mir_alike (O := O) (a := arrOf st2) hsz blk
          have sb5 : Sb lo st (setArr st2 (mirror (arrOf st2) (lo + x - (e + 1)) (lo + x) ((lo + x - (lo + x - (e + 1))) / 2))) := sb2.to (mir_perm _ _ _ _) (fun p hp => by rw [kat_mir hsz, if_neg (by omega)])
          refine ⟨sb5, 0, rfl, by omega, ?_, fun p h1 h2 => by rw [show lo + p = lo + (x + 1) - 1 by omega]; exact O.le_refl _⟩
          exact Dwn.alike (a2.more (by omega) (O.lt_le hb)) al
        · rw [if_neg he]
          exact wpS_pure ⟨sb2, 0, rfl, by omega, a2.more (by omega) (O.lt_le hb), fun p h1 h2 => by rw [show lo + p = lo + (x + 1) - 1 by omega]; exact O.le_refl _⟩
      · rw [if_neg hb]
        have hb' : O.le (kat (arrOf st2) (lo + x - 1)) (kat (arrOf st2) (lo + x)) := by unfold SOrd.le; simpa using hb
        refine wpS_bind (cmp _ _ _ sb2 (by omega) (by omega) ?_)
        dsimp only
        by_cases hc : O.blt (kat (arrOf st2) (lo + x - 1)) (kat (arrOf st2) (lo + x)) = true
        · rw [if_pos hc]
          exact wpS_pure ⟨sb2, x, e, rfl, hx, by omega, a1, a2, a3⟩
        · rw [if_neg hc]
          have hc' : O.le (kat (arrOf st2) (lo + x)) (kat (arrOf st2) (lo + x - 1)) := by unfold SOrd.le; simpa using hc
          refine wpS_pure ⟨sb2, e + 1, rfl, by omega, a2.more (by omega) hc', fun p h1 h2 => ?_⟩
          rw [show lo + (x + 1) - 1 = lo + x by omega]
          by_cases ep : p = x
          · subst ep; exact O.le_refl _
          · exact O.le_trans (a3 p (by omega) (by omega)) hb'
    case dpost =>
      rintro c st2 ⟨sb2, x, e, rfl, hx, hx2, a1, a2, a3⟩
      dsimp only
      by_cases he : e > 0
      · rw [if_pos he]
        refine wpS_bind (wpS_modify ?_)
        have hsz : lo + x ≤ (arrOf st2).size := by rw [sb2.size]; omega
        have blk : ∀ p q, lo + x - (e + 1) ≤ p → p < lo + x → lo + x - (e + 1) ≤ q → q < lo + x → O.le (kat (arrOf st2) p) (kat (arrOf st2) q) := fun p q h1 h2 h3 h4 => by
          have b1 := a3 (p - lo) (by omega) (by omega)
          have b2 := a2 (q - lo) (x - 1) (by omega) (by omega)
          rw [show lo + (p - lo) = p by omega] at b1
          rw [show lo + (q - lo) = q by omega, show lo + (x - 1) = lo + x - 1 by omega] at b2
          exact O.le_trans b1 b2
        have al := mir_alike (O := O) (a := arrOf st2) hsz blk
        have sb4 : Sb lo st (setArr st2 (mirror (arrOf st2) (lo + x - (e + 1)) (lo + x) ((lo + x - (lo + x - (e + 1))) / 2))) := sb2.to (mir_perm _ _ _ _) (fun p hp => by rw [kat_mir hsz, if_neg (by omega)])
        have D4 := Dwn.alike a2 al
        show wpS M A E s _ Q (setArr st2 (mirror (arrOf st2) (lo + x - (e + 1)) (lo + x) ((lo + x - (lo + x - (e + 1))) / 2)))
        generalize hst4 : setArr st2 (mirror (arrOf st2) (lo + x - (e + 1)) (lo + x) ((lo + x - (lo + x - (e + 1))) / 2)) = st4 at *
        have D4' : Dwn O (arrOf st4) lo x := by rw [← hst4]; exact D4
        clear hst4 D4 al blk
        refine wpS_bind (wpS_modify ?_)
        have sb3 : Sb lo st (setArr st4 (mirror (arrOf st4) lo (lo + x) ((lo + x - lo) / 2))) := sb4.to (mir_perm _ _ _ _) (fun p hp => by rw [kat_mir (by rw [sb4.size]; omega), if_neg (by omega)])
        have U3 : Upw O (mirror (arrOf st4) lo (lo + x) ((lo + x - lo) / 2)) lo x := fun p q h1 h2 => by
          rw [kat_mir (by rw [sb4.size]; omega), kat_mir (by rw [sb4.size]; omega), if_pos (by omega), if_pos (by omega), show lo + (lo + x) - 1 - (lo + p) = lo + (x - 1 - p) by omega, show lo + (lo + x) - 1 - (lo + q) = lo + (x - 1 - q) by omega]
          exact D4' _ _ (by omega) (by omega)
        show wpS M A E s _ Q (setArr st4 (mirror (arrOf st4) lo (lo + x) ((lo + x - lo) / 2)))
        generalize hst3 : setArr st4 (mirror (arrOf st4) lo (lo + x) ((lo + x - lo) / 2)) = st3 at *
        have U3' : Upw O (arrOf st3) lo x := by rw [← hst3]; exact U3
        clear hst3 U3
        refine wpS_bind (asc_ok (O := O) (lo := lo) (by omega) (by omega) U3' (fun y n R n0 hn r1 r2 => ?_) fun n n1 n2 un hn => ?_)
        · dsimp only
          refine wpS_bind (cmp _ _ _ sb3 (by omega) (by omega) ?_)
          dsimp only
          by_cases hb : O.blt (kat (arrOf st3) (lo + n)) (kat (arrOf st3) (lo + n - 1)) = true
          · rw [if_pos hb]; exact wpS_pure (r1 hb)
          · rw [if_neg hb]; exact wpS_pure (r2 (by simpa using hb))
        · dsimp only
          exact wpS_pure (q n st3 sb3 (by omega) n2 un)
      · rw [if_neg he]
        refine wpS_bind (wpS_modify ?_)
        have sb3 : Sb lo st (setArr st2 (mirror (arrOf st2) lo (lo + x) ((lo + x - lo) / 2))) := sb2.to (mir_perm _ _ _ _) (fun p hp => by rw [kat_mir (by rw [sb2.size]; omega), if_neg (by omega)])
        have U3 : Upw O (mirror (arrOf st2) lo (lo + x) ((lo + x - lo) / 2)) lo x := fun p q h1 h2 => by
          rw [kat_mir (by rw [sb2.size]; omega), kat_mir (by rw [sb2.size]; omega), if_pos (by omega), if_pos (by omega), show lo + (lo + x) - 1 - (lo + p) = lo + (x - 1 - p) by omega, show lo + (lo + x) - 1 - (lo + q) = lo + (x - 1 - q) by omega]
          exact a2 _ _ (by omega) (by omega)
        show wpS M A E s _ Q (setArr st2 (mirror (arrOf st2) lo (lo + x) ((lo + x - lo) / 2)))
        generalize hst3 : setArr st2 (mirror (arrOf st2) lo (lo + x) ((lo + x - lo) / 2)) = st3 at *
        have U3' : Upw O (arrOf st3) lo x := by rw [← hst3]; exact U3
        clear hst3 U3
        refine wpS_bind (asc_ok (O := O) (lo := lo) (by omega) (by omega) U3' (fun y n R n0 hn r1 r2 => ?_) fun n n1 n2 un hn => ?_)
        · dsimp only
          refine wpS_bind (cmp _ _ _ sb3 (by omega) (by omega) ?_)
          dsimp only
          by_cases hb : O.blt (kat (arrOf st3) (lo + n)) (kat (arrOf st3) (lo + n - 1)) = true
          · rw [if_pos hb]; exact wpS_pure (r1 hb)
          · rw [if_neg hb]; exact wpS_pure (r2 (by simpa using hb))
        · dsimp only
          exact wpS_pure (q n st3 sb3 (by omega) n2 un)
end
end L2
set_option Elab.async false
set_option linter.all false
set_option maxRecDepth 100000
set_option maxHeartbeats 1000000
namespace L2
open PySem PyProof.Rows
section
variable {M : Model} {A : Around} {E : Value → Shared → Prop} {s : Shared} {O : SOrd M A E s}
theorem halve {ρ : Type} {mid : Nat → Nat → Nat} {n lo hi : Nat} {b : Nat → Bool} {Q : Option ρ × Nat × Nat → SortSt → Prop} {st : SortSt} {f : Nat → Option ρ × Nat × Nat → StateT SortSt Sem (ForInStep (Option ρ × Nat × Nat))}
    (md : ∀ l h, l < h → l ≤ mid l h ∧ mid l h < h) (mono : ∀ i j, i ≤ j → j < n → b j = true → b i = true)
    (f0 : ∀ x lo hi R, lo ≥ hi → R (.done (none, lo, hi)) st → wpS M A E s (f x (none, lo, hi)) R st)
    (f1 : ∀ x lo hi R, lo < hi → hi ≤ n → (b (mid lo hi) = true → R (.yield (none, mid lo hi + 1, hi)) st) → (b (mid lo hi) = false → R (.yield (none, lo, mid lo hi)) st) → wpS M A E s (f x (none, lo, hi)) R st)
    (h1 : lo ≤ hi) (h2 : hi ≤ n) (hlo : ∀ i, i < lo → b i = true) (hhi : ∀ i, hi ≤ i → i < n → b i = false)
    (q : ∀ k, k ≤ n → (∀ i, i < k → b i = true) → (∀ i, k ≤ i → i < n → b i = false) → Q (none, k, k) st) : wpS M A E s (forIn [0:n] (none, lo, hi) f) Q st := by
  refine wpS_mono (wpS_forRange (I := fun x c st' => st' = st ∧ ∃ l r, c = (none, l, r) ∧ l ≤ r ∧ r ≤ n ∧ r - l ≤ n - x ∧ (∀ i, i < l → b i = true) ∧ ∀ i, r ≤ i → i < n → b i = false) (Q := fun c st' => st' = st ∧ ∃ k, c = (none, k, k) ∧ k ≤ n ∧ (∀ i, i < k → b i = true) ∧ ∀ i, k ≤ i → i < n → b i = false) ?_ ?_ ⟨rfl, lo, hi, rfl, h1, h2, by omega, hlo, hhi⟩) ?_
  · rintro x c st' _ hx ⟨rfl, l, r, rfl, a1, a2, a3, a4, a5⟩
    by_cases hc : l ≥ r
    · have e : l = r := by omega
      subst e
      exact f0 x l l _ hc ⟨rfl, l, rfl, a2, a4, a5⟩
    · have mm := md l r (by omega)
      refine f1 x l r _ (by omega) a2 (fun hb => ⟨rfl, _, _, rfl, by omega, a2, by omega, fun i hi => mono i _ (by omega) (by omega) hb, a5⟩) (fun hb => ⟨rfl, _, _, rfl, by omega, by omega, by omega, a4, fun i h1 h2 => ?_⟩)
      cases c : b i with
      | false => rfl
      | true => rw [mono _ i h1 h2 c] at hb; cases hb
  · rintro c st' ⟨rfl, l, r, rfl, a1, a2, a3, a4, a5⟩
    have e : l = r := by omega
    subst e
    exact ⟨rfl, l, rfl, a2, a4, a5⟩
  · rintro c st' ⟨rfl, k, rfl, a1, a2, a3⟩
    exact q k a1 a2 a3
theorem Upw.put {a : Array Keyed} {lo k l : Nat} (h : Upw O a lo k) (hs : lo + k < a.size) (hl : l ≤ k) (h1 : ∀ p, p < l → O.le (kat a (lo + p)) (kat a (lo + k))) (h2 : ∀ p, l ≤ p → p < k → O.le (kat a (lo + k)) (kat a (lo + p))) : Upw O (bubble a (lo + k) (lo + k - (lo + l))) lo (k + 1) := by
  have e : ∀ p, p ≤ k → kat (bubble a (lo + k) (lo + k - (lo + l))) (lo + p) = if p = l then kat a (lo + k) else if l < p then kat a (lo + (p - 1)) else kat a (lo + p) := fun p hp => by
    rw [kat_bub hs (by omega), show lo + k - (lo + k - (lo + l)) = lo + l by omega]
    by_cases e1 : p = l
    · rw [if_pos (by omega), if_pos e1]
    · rw [if_neg (by omega), if_neg e1]
      by_cases e2 : l < p
      · rw [if_pos (by omega), if_pos e2, show lo + p - 1 = lo + (p - 1) by omega]
      · rw [if_neg (by omega), if_neg e2]
  intro p q hpq hq
  rw [e p (by omega), e q (by omega)]
  by_cases p1 : p = l
  · rw [if_pos p1]
    by_cases q1 : q = l
    · rw [if_pos q1]; exact O.le_refl _
    · rw [if_neg q1, if_pos (by omega)]
      exact h2 _ (by omega) (by omega)
  · rw [if_neg p1]
    by_cases p2 : l < p
    · rw [if_pos p2, if_neg (by omega), if_pos (by omega)]
      exact h _ _ (by omega) (by omega)
    · rw [if_neg p2]
      by_cases q1 : q = l
      · rw [if_pos q1]
        exact h1 p (by omega)
      · rw [if_neg q1]
        by_cases q2 : l < q
        · rw [if_pos q2]
          exact h _ _ (by omega) (by omega)
        · rw [if_neg q2]
          exact h _ _ hpq (by omega)
theorem bins_ok {lo n m : Nat} {Q : Bool → SortSt → Prop} {st : SortSt} (hk : kindOf st = O.kd) (ok : ∀ z ∈ (arrOf st).toList, O.ok z) (hs : lo + n ≤ (arrOf st).size) (hm : m ≤ n) (u : Upw O (arrOf st) lo m) (h0 : 0 < n)
    (q : ∀ st', Sb lo st st' → Upw O (arrOf st') lo n → Q true st') : wpS M A E s (binarySort' lo n m) Q st := by
  have okS : ∀ {st'}, Sb lo st st' → ∀ z ∈ (arrOf st').toList, O.ok z := fun {st'} h z hz => ok z (h.perm.mem_iff.mp hz)
  delta binarySort'
  refine wpS_bind (wpS_mono (wpS_forRange (I := fun k c st' => c = (none, ()) ∧ Sb lo st st' ∧ Upw O (arrOf st') lo k) (Q := fun c st' => c = (none, ()) ∧ Sb lo st st' ∧ Upw O (arrOf st') lo n) ?step ?fin ?init) ?post)
  case init =>
    refine ⟨rfl, Sb.refl lo st, fun p r h1 h2 => ?_⟩
    by_cases e : m = 0
    · have : p = r := by omega
      subst this
      exact O.le_refl _
    · exact u p r h1 (by omega)
  case fin =>
    rintro c st' ⟨rfl, sb, uu⟩
    exact ⟨rfl, sb, fun p r h1 h2 => uu p r h1 (by omega)⟩
  case post =>
    rintro c st' ⟨rfl, sb, uu⟩
    exact wpS_pure (q st' sb uu)
  case step =>
    rintro k c st1 hk1 hk2 ⟨rfl, sb1, u1⟩
    dsimp only
    have hsz : lo + k < (arrOf st1).size := by rw [sb1.size]; omega
    have rise : ∀ p q, p ≤ q → q < k → (!O.blt (kat (arrOf st1) (lo + k)) (kat (arrOf st1) (lo + q))) = true → (!O.blt (kat (arrOf st1) (lo + k)) (kat (arrOf st1) (lo + p))) = true := fun p q h1 h2 h3 => by
      have h4 : O.le (kat (arrOf st1) (lo + q)) (kat (arrOf st1) (lo + k)) := by unfold SOrd.le; simpa using h3
      have h5 := O.le_trans (u1 p q h1 h2) h4
      unfold SOrd.le at h5
      rw [h5]
      rfl
    refine wpS_bind (halve (ρ := Bool) (n := k) (mid := fun l h => (l + h) / 2) (b := fun p => !O.blt (kat (arrOf st1) (lo + k)) (kat (arrOf st1) (lo + p))) (st := st1) (fun l h z => by omega) rise (fun x l h T z t => ?_) (fun x l h T z1 z2 t1 t2 => ?_) (Nat.zero_le k) (Nat.le_refl k) (fun p z => absurd z (Nat.not_lt_zero p)) (fun p z1 z2 => absurd z1 (by omega)) fun c c1 c2 c3 => ?_)
    · dsimp only
      rw [if_pos z]
      exact wpS_pure t
    · dsimp only at t1 t2 ⊢
      rw [if_neg (by omega)]
      refine wpS_bind (lta_ok (O := O) (sb1.kind.trans hk) (okS sb1) (by omega) (by omega) ?_)
      dsimp only
      cases less : O.blt (kat (arrOf st1) (lo + k)) (kat (arrOf st1) (lo + (l + h) / 2)) with
      | true => exact wpS_pure (t2 (by rw [less]; rfl))
      | false => exact wpS_pure (t1 (by rw [less]; rfl))
    · dsimp only
      refine wpS_bind (wpS_modify (wpS_pure ?_))
      have sb5 : Sb lo st (setArr st1 (bubble (arrOf st1) (lo + k) (lo + k - (lo + c)))) := sb1.to (bub_perm _ _ _) (fun p hp => by rw [kat_bub hsz (by omega), if_neg (by omega), if_neg (by omega)])
      refine ⟨rfl, sb5, u1.put hsz c1 (fun p z => ?_) fun p z1 z2 => ?_⟩
      · have := c2 p z
        unfold SOrd.le
        simpa using this
      · have := c3 p z1 z2
        exact O.lt_le (by simpa using this)
end
end L2
set_option Elab.async false
set_option linter.all false
set_option maxRecDepth 100000
set_option maxHeartbeats 1000000
namespace L2
open PySem PyProof.Rows
def starts : Nat → List (List Keyed) → List (Nat × Nat)
  | _, [] => []
  | c, r :: rs => (c, r.length) :: starts (c + r.length) rs
theorem starts_length : ∀ (c : Nat) (rs : List (List Keyed)), (starts c rs).length = rs.length
  | _, [] => rfl
  | c, r :: rs => by show (starts _ rs).length + 1 = _; rw [starts_length]; rfl
theorem starts_append : ∀ (c : Nat) (rs qs : List (List Keyed)), starts c (rs ++ qs) = starts c rs ++ starts (c + rs.flatten.length) qs
  | c, [], qs => by show starts c qs = starts (c + 0) qs; rw [Nat.add_zero]
  | c, r :: rs, qs => by
    show (c, r.length) :: starts (c + r.length) (rs ++ qs) = (c, r.length) :: (starts (c + r.length) rs ++ _)
    rw [starts_append, List.flatten_cons, List.length_append, Nat.add_assoc]
theorem starts_two (c : Nat) (As Bs : List (List Keyed)) (X Y Z : List Keyed) (h : Z.length = X.length + Y.length) :
    ((starts c (As ++ X :: Y :: Bs)).set As.length (c + As.flatten.length, X.length + Y.length)).eraseIdx (As.length + 1) = starts c (As ++ Z :: Bs) := by
  rw [starts_append, starts_append]
  have e : As.length = (starts c As).length := (starts_length c As).symm
  show ((starts c As ++ (c + As.flatten.length, X.length) :: (c + As.flatten.length + X.length, Y.length) :: starts (c + As.flatten.length + X.length + Y.length) Bs).set As.length _).eraseIdx (As.length + 1) = starts c As ++ (c + As.flatten.length, Z.length) :: starts (c + As.flatten.length + Z.length) Bs
  rw [List.set_append_right _ _ (by omega), show As.length - (starts c As).length = 0 by omega, List.set_cons_zero, List.eraseIdx_append_of_length_le (by omega), show As.length + 1 - (starts c As).length = 1 by omega, h, ← Nat.add_assoc]
  rfl
theorem ite_lt {c : Prop} [Decidable c] {a b n : Nat} (h1 : a + 1 < n) (h2 : b + 1 < n) : (if c then a else b) + 1 < n := by split <;> assumption
def shp (p : Array (Nat × Nat × Nat)) : List (Nat × Nat) := p.toList.map fun x => (x.1, x.2.1)
theorem shp_at {p : Array (Nat × Nat × Nat)} {i : Nat} {v : Nat × Nat} (h : (shp p)[i]? = some v) : ∃ w, p[i]? = some (v.1, v.2, w) := by
  unfold shp at h
  rw [List.getElem?_map, Array.getElem?_toList] at h
  obtain ⟨x, hx, rfl⟩ := Option.map_eq_some_iff.mp h
  exact ⟨x.2.2, hx⟩
theorem map_eraseIdx' {α β : Type} (f : α → β) : ∀ (l : List α) (j : Nat), (l.eraseIdx j).map f = (l.map f).eraseIdx j
  | [], _ => rfl
  | _ :: _, 0 => rfl
  | x :: l, j + 1 => by rw [List.eraseIdx_cons_succ, List.map_cons, map_eraseIdx' f l j]; rfl
theorem shp_merge {p : Array (Nat × Nat × Nat)} {i c n w : Nat} (h : i + 1 < p.size) : shp ((p.setIfInBounds i (c, n, w)).eraseIdxIfInBounds (i + 1)) = ((shp p).set i (c, n)).eraseIdx (i + 1) := by
  unfold shp
  rw [Array.eraseIdxIfInBounds, dif_pos (by simpa using h), Array.toList_eraseIdx, Array.toList_setIfInBounds, map_eraseIdx', List.map_set]
theorem shp_push {p : Array (Nat × Nat × Nat)} {c n w : Nat} : shp (p.push (c, n, w)) = shp p ++ [(c, n)] := by
  unfold shp
  rw [Array.toList_push, List.map_append]
  rfl
theorem shp_mod {p : Array (Nat × Nat × Nat)} {i w : Nat} : shp (p.modify i fun x => (x.1, x.2.1, w)) = shp p := by
  unfold shp
  apply List.ext_getElem?
  intro j
  rw [List.getElem?_map, List.getElem?_map, Array.getElem?_toList, Array.getElem?_toList, Array.getElem?_modify]
  split
  · cases p[j]? <;> rfl
  · rfl
theorem shp_size {p : Array (Nat × Nat × Nat)} : (shp p).length = p.size := by unfold shp; rw [List.length_map, Array.length_toList]
section
variable {M : Model} {A : Around} {E : Value → Shared → Prop} {s : Shared} (O : SOrd M A E s)
theorem wpS_ite {α σ : Type} {c : Prop} [Decidable c] {t e : StateT σ Sem α} {Q : α → σ → Prop} {st : σ} (h1 : c → wpS M A E s t Q st) (h2 : ¬ c → wpS M A E s e Q st) : wpS M A E s (if c then t else e) Q st := by
  by_cases h : c
  · rw [if_pos h]; exact h1 h
  · rw [if_neg h]; exact h2 h
structure RI (st0 st : SortSt) (rs : List (List Keyed)) (rest : List Keyed) : Prop where
  kind : kindOf st = O.kd
  fail : failedOf st = none
  arr : (arrOf st).toList = rs.flatten ++ rest
  perm : (arrOf st).toList.Perm (arrOf st0).toList
  so : ∀ r ∈ rs, r.Pairwise O.le ∧ 0 < r.length
  pend : shp (pendingOf st) = starts 0 rs
variable {O}
theorem RI.psize {st0 st : SortSt} {rs : List (List Keyed)} {rest : List Keyed} (h : RI O st0 st rs rest) : (pendingOf st).size = rs.length := by rw [← shp_size, h.pend, starts_length]
theorem RI.size {st0 st : SortSt} {rs : List (List Keyed)} {rest : List Keyed} (h : RI O st0 st rs rest) : (arrOf st0).size = rs.flatten.length + rest.length := by
  rw [← Array.length_toList, ← h.perm.length_eq, h.arr, List.length_append]
theorem RI.merge {st0 st : SortSt} {rs : List (List Keyed)} {rest : List Keyed} (h : RI O st0 st rs rest) (ok : ∀ z ∈ (arrOf st0).toList, O.ok z) {i : Nat} (hi : i + 1 < rs.length) {Q : Bool → SortSt → Prop}
    (q : ∀ st' rs', RI O st0 st' rs' rest → rs'.length + 1 = rs.length → rs'.flatten.length = rs.flatten.length → Q true st') : wpS M A E s (mergeAt' i) Q st := by
  obtain ⟨As, X, Y, Bs, rfl, rfl⟩ : ∃ As X Y Bs, rs = As ++ X :: Y :: Bs ∧ As.length = i := by
    refine ⟨rs.take i, rs[i], rs[i + 1], rs.drop (i + 2), ?_, by rw [List.length_take]; omega⟩
    rw [← List.drop_eq_getElem_cons hi, ← List.drop_eq_getElem_cons (show i < rs.length by omega), List.take_append_drop]
  have sX := h.so X (by simp)
  have sY := h.so Y (by simp)
  have g1 : (shp (pendingOf st))[As.length]? = some (As.flatten.length, X.length) := by
    rw [h.pend, starts_append, List.getElem?_append_right (by rw [starts_length]; omega), starts_length, Nat.sub_self, Nat.zero_add]
    rfl
  have g2 : (shp (pendingOf st))[As.length + 1]? = some (As.flatten.length + X.length, Y.length) := by
    rw [h.pend, starts_append, List.getElem?_append_right (by rw [starts_length]; omega), starts_length, show As.length + 1 - As.length = 1 by omega, Nat.zero_add]
    rfl
  obtain ⟨w1, p1⟩ := shp_at g1
  obtain ⟨w2, p2⟩ := shp_at g2
  refine mat_ok (O := O) (nb := Y.length) (sb := 0) (na := 0) (P := As.flatten) (X := X) (Y := Y) (S := Bs.flatten ++ rest) h.kind h.fail p1 p2 ?_ (fun z hz => ok z (h.perm.mem_iff.mp hz)) sX.2 sY.2 sX.1 sY.1 fun a' g Z e1 e2 e3 => ?_
  · rw [h.arr]
    simp only [List.flatten_append, List.flatten_cons, List.append_assoc]
  · have zl : Z.length = X.length + Y.length := by rw [e3.length_eq, List.length_append]
    refine q _ (As ++ Z :: Bs) ⟨h.kind, h.fail, ?_, ?_, fun r hr => ?_, ?_⟩ ?_ ?_
    · show a'.toList = _
      rw [e1]
      simp only [List.flatten_append, List.flatten_cons, List.append_assoc]
    · show a'.toList.Perm _
      refine List.Perm.trans ?_ h.perm
      rw [e1, h.arr]
      simp only [List.flatten_append, List.flatten_cons, List.append_assoc]
      refine List.Perm.append_left _ ?_
      rw [← List.append_assoc X]
      exact e3.append_right _
    · rcases List.mem_append.mp hr with hr | hr
      · exact h.so r (by simp [hr])
      · rcases List.mem_cons.mp hr with rfl | hr
        · exact ⟨e2, by omega⟩
        · exact h.so r (by simp [hr])
    · show shp (((pendingOf st).setIfInBounds As.length (As.flatten.length, X.length + Y.length, w1)).eraseIdxIfInBounds (As.length + 1)) = _
      rw [shp_merge (by rw [h.psize]; simp), h.pend]
      have := starts_two 0 As Bs X Y Z zl
      rw [Nat.zero_add] at this
      exact this
    · simp only [List.length_append, List.length_cons]; omega
    · simp only [List.flatten_append, List.flatten_cons, List.length_append]; omega
theorem RI.sb {st0 st st' : SortSt} {rs : List (List Keyed)} {rest : List Keyed} (h : RI O st0 st rs rest) (b : Sb rs.flatten.length st st') : ∃ rest', rest'.length = rest.length ∧ RI O st0 st' rs rest' := by
  have e : (arrOf st').toList.take rs.flatten.length = rs.flatten := by
    apply List.ext_getElem?
    intro j
    by_cases hj : j < rs.flatten.length
    · have hs : j < (arrOf st').size := by rw [b.size, ← Array.length_toList, h.arr, List.length_append]; omega
      have hs2 : j < (arrOf st).size := by rw [← b.size]; exact hs
      have e1 := kat_list hs
      have e2 := kat_list hs2
      rw [List.getElem?_take_of_lt hj, e1, b.same j hj, ← e2, h.arr, List.getElem?_append_left hj]
    · rw [List.getElem?_eq_none (by rw [List.length_take]; omega), List.getElem?_eq_none (by omega)]
  have e2 : (arrOf st').toList = rs.flatten ++ (arrOf st').toList.drop rs.flatten.length := by
    conv => lhs; rw [← List.take_append_drop rs.flatten.length (arrOf st').toList, e]
  refine ⟨(arrOf st').toList.drop rs.flatten.length, ?_, ?_⟩
  · have l1 := b.perm.length_eq
    rw [h.arr, List.length_append] at l1
    rw [List.length_drop, l1]
    omega
  · have be := b.eq
    refine ⟨b.kind.trans h.kind, ?_, e2, b.perm.trans h.perm, h.so, ?_⟩
    · rw [be]; exact h.fail
    · rw [be]; exact h.pend
theorem RI.push {st0 st : SortSt} {rs : List (List Keyed)} {rest : List Keyed} {n : Nat} (h : RI O st0 st rs rest) (hn : 0 < n) (hl : n ≤ rest.length) (u : (rest.take n).Pairwise O.le) : RI O st0 (setPending st ((pendingOf st).push (rs.flatten.length, n, 0))) (rs ++ [rest.take n]) (rest.drop n) := by
  have l1 : (rest.take n).length = n := by rw [List.length_take]; omega
  refine ⟨h.kind, h.fail, ?_, h.perm, fun r hr => ?_, ?_⟩
  · show (arrOf st).toList = _
    rw [h.arr, List.flatten_append, List.flatten_singleton, List.append_assoc, List.take_append_drop]
  · rcases List.mem_append.mp hr with hr | hr
    · exact h.so r hr
    · rw [List.mem_singleton.mp hr]; exact ⟨u, by omega⟩
  · show shp ((pendingOf st).push (rs.flatten.length, n, 0)) = _
    rw [shp_push, h.pend, starts_append, Nat.zero_add]
    show _ = starts 0 rs ++ [(rs.flatten.length, (rest.take n).length)]
    rw [l1]
theorem Upw.take {st0 st : SortSt} {rs : List (List Keyed)} {rest : List Keyed} {n : Nat} (h : RI O st0 st rs rest) (hl : n ≤ rest.length) (u : Upw O (arrOf st) rs.flatten.length n) : (rest.take n).Pairwise O.le := by
  rw [List.pairwise_iff_getElem]
  intro p r hp hr hpr
  rw [List.length_take] at hp hr
  have e : ∀ p, p < n → kat (arrOf st) (rs.flatten.length + p) = kl rest p := fun p hp => by rw [kat_kl, h.arr, kl_right]
  have := u p r (by omega) (by omega)
  rw [e p (by omega), e r (by omega), kl_get (by omega), kl_get (by omega)] at this
  rw [List.getElem_take, List.getElem_take]
  exact this
theorem sruns_ok {Q : Unit → SortSt → Prop} {st : SortSt} (hk : kindOf st = O.kd) (hf : failedOf st = none) (hp : pendingOf st = #[]) (ok : ∀ z ∈ (arrOf st).toList, O.ok z)
    (q : ∀ st', (arrOf st').toList.Perm (arrOf st).toList → failedOf st' = none → (arrOf st').toList.Pairwise O.le → Q () st') : wpS M A E s sortRuns' Q st := by
  delta sortRuns'
  refine wpS_bind (wpS_get ?_)
  dsimp only
  have ri0 : RI O st st [] (arrOf st).toList := ⟨hk, hf, rfl, .refl _, (fun r h => by cases h), by rw [hp]; rfl⟩
  refine wpS_bind (wpS_mono (wpS_forRange (I := fun x c st' => ∃ rs rest, c = (none, rs.flatten.length) ∧ RI O st st' rs rest ∧ (x ≤ rs.flatten.length ∨ rest = [])) (Q := fun c st' => ∃ lo rs, c = (none, lo) ∧ RI O st st' rs []) ?step ?fin ⟨[], (arrOf st).toList, rfl, ri0, .inl (Nat.zero_le _)⟩) ?post)
  case fin =>
    rintro c st' ⟨rs, rest, rfl, ri, hx⟩
    refine ⟨_, rs, rfl, ?_⟩
    rcases hx with hx | rfl
    · have := ri.size
      have hx' : (arrOf st).size ≤ rs.flatten.length := Nat.le_trans (Nat.le_max_right _ _) hx
      have : rest = [] := List.eq_nil_of_length_eq_zero (by omega)
      rw [this] at ri
      exact ri
    · exact ri
  case step =>
    rintro x c st1 _ hx ⟨rs, rest, rfl, ri, hxr⟩
    dsimp only
    have hsz : (arrOf st).size = rs.flatten.length + rest.length := ri.size
    by_cases c1 : rs.flatten.length ≥ (arrOf st).size
    · rw [if_pos c1]
      have : rest = [] := List.eq_nil_of_length_eq_zero (by omega)
      rw [this] at ri
      exact wpS_pure ⟨_, rs, rfl, ri⟩
    rw [if_neg c1]
    have okS : ∀ z ∈ (arrOf st1).toList, O.ok z := fun z hz => ok z (ri.perm.mem_iff.mp hz)
    have hs1 : (arrOf st1).size = (arrOf st).size := by rw [← Array.length_toList, ← Array.length_toList]; exact ri.perm.length_eq
    refine wpS_bind (crun_ok (O := O) ri.kind okS (by rw [hs1]; show rs.flatten.length + ((arrOf st).size - rs.flatten.length) = _; omega) (by show 0 < (arrOf st).size - _; omega) fun n st2 sb2 n0 n1 u2 => ?_)
    replace n1 : n ≤ (arrOf st).size - rs.flatten.length := n1
    dsimp only
    obtain ⟨rest2, l2, ri2⟩ := ri.sb sb2
    refine wpS_ite (fun c2 => ?_) (fun c2 => ?_)
    · replace c2 : n < minRun' (arrOf st).size (arrOf st).size 0 := c2
      refine wpS_bind (wpS_lift (wpAny_rule ⟨rfl, ?_⟩))
      have okS2 : ∀ z ∈ (arrOf st2).toList, O.ok z := fun z hz => ok z (ri2.perm.mem_iff.mp hz)
      have hs2 : (arrOf st2).size = (arrOf st).size := by rw [sb2.size, hs1]
      have fo : min ((arrOf st).size - rs.flatten.length) (minRun' (arrOf st).size (arrOf st).size 0) ≤ (arrOf st).size - rs.flatten.length ∧ n ≤ min ((arrOf st).size - rs.flatten.length) (minRun' (arrOf st).size (arrOf st).size 0) := by omega
      refine wpS_bind (bins_ok (O := O) (lo := rs.flatten.length) (n := min ((arrOf st).size - rs.flatten.length) (minRun' (arrOf st).size (arrOf st).size 0)) ri2.kind okS2 (by rw [hs2]; have := fo.1; omega) fo.2 u2 (by have := fo.2; omega) fun st3 sb3 u3 => ?_)
      rw [if_neg (by simp)]
      obtain ⟨rest3, l3, ri3⟩ := ri2.sb sb3
      have tk := Upw.take ri3 (by have := fo.1; omega) u3
      have m0 : 0 < min ((arrOf st).size - rs.flatten.length) (minRun' (arrOf st).size (arrOf st).size 0) := by have := fo.2; omega
      have ml : min ((arrOf st).size - rs.flatten.length) (minRun' (arrOf st).size (arrOf st).size 0) ≤ rest3.length := by have := fo.1; omega
      refine wpS_bind (wpS_get ?_)
      cases hb : (pendingOf st3).back? with
      | none =>
        dsimp only
        refine wpS_bind (wpS_modify (wpS_pure ?_))
        have ri5 := ri3.push m0 ml tk
        have fl : (rs ++ [rest3.take (min ((arrOf st).size - rs.flatten.length) (minRun' (arrOf st).size (arrOf st).size 0))]).flatten.length = rs.flatten.length + (min ((arrOf st).size - rs.flatten.length) (minRun' (arrOf st).size (arrOf st).size 0)) := by rw [List.flatten_append, List.flatten_singleton, List.length_append, List.length_take, Nat.min_eq_left ml]
        refine ⟨rs ++ [rest3.take (min ((arrOf st).size - rs.flatten.length) (minRun' (arrOf st).size (arrOf st).size 0))], rest3.drop (min ((arrOf st).size - rs.flatten.length) (minRun' (arrOf st).size (arrOf st).size 0)), ?_, ri5, ?_⟩
        · rw [fl]; all_goals rfl
        · rw [fl]
          rcases hxr with h | h
          · exact .inl (by omega)
          · rw [h, List.length_nil] at hsz; omega
      | some v =>
        obtain ⟨s1, n1', w1⟩ := v
        dsimp only
        refine wpS_bind (wpS_mono (wpS_forRange (I := fun y c st' => c = (none, ()) ∧ ∃ rs', RI O st st' rs' rest3 ∧ rs'.flatten.length = rs.flatten.length) (Q := fun c st' => c = (none, ()) ∧ ∃ rs', RI O st st' rs' rest3 ∧ rs'.flatten.length = rs.flatten.length) ?_ (fun c st' h => h) ⟨rfl, rs, ri3, rfl⟩) ?_)
        · rintro y c st4 _ hy ⟨rfl, rs4, ri4, e4⟩
          refine wpS_bind (wpS_get ?_)
          by_cases c5 : rs4.length > 1
          · have ps := ri4.psize
            rw [if_pos (show (pendingOf st4).size > 1 by rw [ps]; exact c5)]
            have hg : (pendingOf st4).size - 2 < (pendingOf st4).size := by omega
            rw [show (pendingOf st4)[(pendingOf st4).size - 2]? = some (pendingOf st4)[(pendingOf st4).size - 2] from getElem?_pos (pendingOf st4) ((pendingOf st4).size - 2) hg]
            generalize (pendingOf st4)[(pendingOf st4).size - 2] = v
            obtain ⟨v1, v2, v3⟩ := v
            dsimp only
            split
            · exact wpS_pure ⟨rfl, rs4, ri4, e4⟩
            · refine wpS_bind (ri4.merge ok (by rw [ps]; omega) fun st5 rs5 ri5 f1 f2 => ?_)
              rw [if_neg (by simp)]
              exact wpS_pure ⟨rfl, rs5, ri5, by omega⟩
          · rw [if_neg (show ¬ (pendingOf st4).size > 1 by rw [ri4.psize]; exact c5)]
            exact wpS_pure ⟨rfl, rs4, ri4, e4⟩
        · rintro c st4 ⟨rfl, rs4, ri4, e4⟩
          dsimp only
          refine wpS_bind (wpS_modify (wpS_bind (wpS_modify (wpS_pure ?_))))
          have ri5 := ri4.push m0 ml tk
          rw [e4] at ri5
          have fl : (rs4 ++ [rest3.take (min ((arrOf st).size - rs.flatten.length) (minRun' (arrOf st).size (arrOf st).size 0))]).flatten.length = rs.flatten.length + (min ((arrOf st).size - rs.flatten.length) (minRun' (arrOf st).size (arrOf st).size 0)) := by rw [List.flatten_append, List.flatten_singleton, List.length_append, List.length_take, Nat.min_eq_left ml, e4]
          refine ⟨rs4 ++ [rest3.take (min ((arrOf st).size - rs.flatten.length) (minRun' (arrOf st).size (arrOf st).size 0))], rest3.drop (min ((arrOf st).size - rs.flatten.length) (minRun' (arrOf st).size (arrOf st).size 0)), ?_, ⟨ri5.kind, ri5.fail, ri5.arr, ri5.perm, ri5.so, ?_⟩, ?_⟩
          · rw [fl]; all_goals rfl
          · have := ri5.pend
            rw [← this]
            show shp (Array.push _ _) = shp (Array.push _ _)
            rw [shp_push, shp_push]
            congr 1
            exact shp_mod
          · rw [fl]
            rcases hxr with h | h
            · exact .inl (by omega)
            · rw [h, List.length_nil] at hsz; omega
    · have tk := Upw.take ri2 (by omega) u2
      have m0 : 0 < n := n0
      have ml : n ≤ rest2.length := by omega
      refine wpS_bind (wpS_get ?_)
      cases hb : (pendingOf st2).back? with
      | none =>
        dsimp only
        refine wpS_bind (wpS_modify (wpS_pure ?_))
        have ri5 := ri2.push m0 ml tk
        have fl : (rs ++ [rest2.take (n)]).flatten.length = rs.flatten.length + (n) := by rw [List.flatten_append, List.flatten_singleton, List.length_append, List.length_take, Nat.min_eq_left ml]
        refine ⟨rs ++ [rest2.take (n)], rest2.drop (n), ?_, ri5, ?_⟩
        · rw [fl]; all_goals rfl
        · rw [fl]
          rcases hxr with h | h
          · exact .inl (by omega)
          · rw [h, List.length_nil] at hsz; omega
      | some v =>
        obtain ⟨s1, n1', w1⟩ := v
        dsimp only
        refine wpS_bind (wpS_mono (wpS_forRange (I := fun y c st' => c = (none, ()) ∧ ∃ rs', RI O st st' rs' rest2 ∧ rs'.flatten.length = rs.flatten.length) (Q := fun c st' => c = (none, ()) ∧ ∃ rs', RI O st st' rs' rest2 ∧ rs'.flatten.length = rs.flatten.length) ?_ (fun c st' h => h) ⟨rfl, rs, ri2, rfl⟩) ?_)
        · rintro y c st4 _ hy ⟨rfl, rs4, ri4, e4⟩
          refine wpS_bind (wpS_get ?_)
          by_cases c5 : rs4.length > 1
          · have ps := ri4.psize
            rw [if_pos (show (pendingOf st4).size > 1 by rw [ps]; exact c5)]
            have hg : (pendingOf st4).size - 2 < (pendingOf st4).size := by omega
            rw [show (pendingOf st4)[(pendingOf st4).size - 2]? = some (pendingOf st4)[(pendingOf st4).size - 2] from getElem?_pos (pendingOf st4) ((pendingOf st4).size - 2) hg]
            generalize (pendingOf st4)[(pendingOf st4).size - 2] = v
            obtain ⟨v1, v2, v3⟩ := v
            dsimp only
            split
            · exact wpS_pure ⟨rfl, rs4, ri4, e4⟩
            · refine wpS_bind (ri4.merge ok (by rw [ps]; omega) fun st5 rs5 ri5 f1 f2 => ?_)
              rw [if_neg (by simp)]
              exact wpS_pure ⟨rfl, rs5, ri5, by omega⟩
          · rw [if_neg (show ¬ (pendingOf st4).size > 1 by rw [ri4.psize]; exact c5)]
            exact wpS_pure ⟨rfl, rs4, ri4, e4⟩
        · rintro c st4 ⟨rfl, rs4, ri4, e4⟩
          dsimp only
          refine wpS_bind (wpS_modify (wpS_bind (wpS_modify (wpS_pure ?_))))
          have ri5 := ri4.push m0 ml tk
          rw [e4] at ri5
          have fl : (rs4 ++ [rest2.take (n)]).flatten.length = rs.flatten.length + (n) := by rw [List.flatten_append, List.flatten_singleton, List.length_append, List.length_take, Nat.min_eq_left ml, e4]
          refine ⟨rs4 ++ [rest2.take (n)], rest2.drop (n), ?_, ⟨ri5.kind, ri5.fail, ri5.arr, ri5.perm, ri5.so, ?_⟩, ?_⟩
          · rw [fl]; all_goals rfl
          · have := ri5.pend
            rw [← this]
            show shp (Array.push _ _) = shp (Array.push _ _)
            rw [shp_push, shp_push]
            congr 1
            exact shp_mod
          · rw [fl]
            rcases hxr with h | h
            · exact .inl (by omega)
            · rw [h, List.length_nil] at hsz; omega
  case post =>
    rintro c st1 ⟨lo, rs, rfl, ri⟩
    dsimp only
    have few : rs.length ≤ (arrOf st).size := by
      rw [ri.size]
      have : ∀ l : List (List Keyed), (∀ r ∈ l, 0 < r.length) → l.length ≤ l.flatten.length := by
        intro l
        induction l with
        | nil => intro _; exact Nat.le_refl _
        | cons r l ih =>
          intro h
          have h1 := h r (List.mem_cons_self ..)
          have h2 := ih fun y hy => h y (List.mem_cons_of_mem _ hy)
          rw [List.flatten_cons, List.length_append, List.length_cons]
          omega
      have := this rs fun r hr => (ri.so r hr).2
      omega
    refine wpS_bind (wpS_mono (wpS_forRange (I := fun x c st' => c = (none, ()) ∧ ∃ rs', RI O st st' rs' [] ∧ (rs'.length ≤ 1 ∨ rs'.length + x ≤ (arrOf st).size)) (Q := fun c st' => c = (none, ()) ∧ ∃ rs', RI O st st' rs' [] ∧ rs'.length ≤ 1) ?fstep ?ffin ⟨rfl, rs, ri, .inr (by omega)⟩) ?fpost)
    case ffin =>
      rintro c st' ⟨rfl, rs', ri', h⟩
      refine ⟨rfl, rs', ri', ?_⟩
      rcases h with h | h
      · exact h
      · have h' : rs'.length + max 0 (arrOf st).size ≤ (arrOf st).size := h
        omega
    case fpost =>
      rintro c st' ⟨rfl, rs', ri', h⟩
      dsimp only
      refine wpS_pure (q st' ri'.perm ri'.fail ?_)
      rw [ri'.arr, List.append_nil]
      match rs', h, ri' with
      | [], _, _ => exact List.Pairwise.nil
      | [r], _, ri' => rw [List.flatten_singleton]; exact (ri'.so r (List.mem_singleton.mpr rfl)).1
    case fstep =>
      rintro x c st2 _ hx ⟨rfl, rs', ri', h⟩
      refine wpS_bind (wpS_get ?_)
      by_cases c1 : rs'.length ≤ 1
      · rw [if_pos (show (pendingOf st2).size ≤ 1 by rw [ri'.psize]; exact c1)]
        exact wpS_pure ⟨rfl, rs', ri', c1⟩
      · rw [if_neg (show ¬ (pendingOf st2).size ≤ 1 by rw [ri'.psize]; exact c1)]
        have ps := ri'.psize
        refine wpS_bind (ri'.merge ok ?_ fun st3 rs3 ri3 e1 e2 => ?_)
        · refine ite_lt ?_ ?_
          · show (pendingOf st2).size - 2 - 1 + 1 < rs'.length
            rw [ps]
            omega
          · show (pendingOf st2).size - 2 + 1 < rs'.length
            rw [ps]
            omega
        · rw [if_neg (by simp)]
          exact wpS_pure ⟨rfl, rs3, ri3, .inr (by have := h.resolve_left c1; omega)⟩
end
end L2
set_option Elab.async false
set_option linter.all false
set_option maxRecDepth 100000
set_option maxHeartbeats 1000000
namespace L2
open PySem PyProof PyProof.Rows
section
variable {prog : Program} {w : World} {A : Around} {E : Value → Shared → Prop} {s : Shared}
def intOrd : SOrd (model prog w) A E s where
  kd := oneType'
  blt x y := decide (numOf x.1 < numOf y.1)
  ok x := ∃ n t, x.1 = .int n t
  run := fun {x y st Q} hx hy hk h => by
    obtain ⟨n, t, ex⟩ := hx
    obtain ⟨m, u, ey⟩ := hy
    have e : decide (numOf x.1 < numOf y.1) = decide (n < m) := by rw [ex, ey]; rfl
    rw [e] at h
    rw [lt'_eq]
    refine wpS_bind (wpS_get ?_)
    rw [hk, keyLt'_oneType, ex, ey]
    exact wpS_bind (wpS_lift (wpAny_attempt (oneLt_int ⟨rfl, wpS_pure h⟩)))
  asym := fun {x y} h => by
    have := of_decide_eq_true h
    exact decide_eq_false (by omega)
  neg := fun {x z} y h => by
    have := of_decide_eq_true h
    by_cases c : numOf x.1 < numOf y.1
    · exact .inl (decide_eq_true c)
    · exact .inr (decide_eq_true (by omega))
theorem sorted_to {xs : Array Keyed} (h : xs.toList.Pairwise (intOrd (prog := prog) (w := w) (A := A) (E := E) (s := s)).le) {k : Nat} (hk : k ≤ xs.size) : SortedTo xs k := fun i j hij hj => by
  have e := pw_kl h hij (by rw [Array.length_toList]; omega)
  have e2 : ¬ numOf (kl xs.toList j).1 < numOf (kl xs.toList i).1 := of_decide_eq_false e
  have kk : ∀ i, i < xs.size → K xs i = numOf (kl xs.toList i).1 := fun i hi => by
    rw [K_eq hi, kl_get (by rw [Array.length_toList]; exact hi)]
    rfl
  rw [kk i (by omega), kk j (by omega)]
  omega
theorem lsort_ok {a : Addr} {vs : List Value} {ns : List Int} {n : Nat} {P : Fin → Shared → Prop} (ho : s.heap.get? a = some (seqObj "list" vs.toArray n)) (hI : IntsAre vs ns) (hz : vs.length ≤ 100000)
    (h : ∀ (out : Array Value) (ns' : List Int), IntsAre out.toList ns' → ns'.Perm ns → ns'.Pairwise (· ≤ ·) → P (.done (.ret .none)) { s with heap := sortedHeap s.heap a vs out }) : wpAny (model prog w) A (Builtin.«list.sort» ⟨[.ref a], []⟩) P E s := by
  by_cases few : vs.length < 64
  · exact list_sort_tree ho hI few h
  obtain ⟨v1, v2, rest, rfl⟩ : ∃ v1 v2 rest, vs = v1 :: v2 :: rest := by
    match vs, few with
    | [], f => exact absurd (by decide) f
    | [_], f => exact absurd (by show 1 < 64; decide) f
    | v1 :: v2 :: rest, _ => exact ⟨v1, v2, rest, rfl⟩
  have big : sizeLine = 16777216 := by decide
  have la : a < s.heap.objs.size := Heap.lt_size ho
  have sz : (pairsOf (v1 :: v2 :: rest)).size = rest.length + 2 := by rw [pairsOf_size]; rfl
  rw [list_sort_plain]
  obtain ⟨e1, o1⟩ : ∃ e1, (s.heap.update a (Obj.mapSeq fun _ => #[])).get? a = some (seqObj "list" #[] e1) := ⟨_, get?_update_seq ho _⟩
  refine wpAny_bind (listItems_at ho rfl (wpAny_bind (listUpdate_at ho rfl (wpAny_bind (seqEpoch_at o1 rfl (wpAny_bind (wpAny_newTuple (wpAny_bind (wpAny_newList (wpAny_holding ?c0)))))))  (hsz := by rw [List.size_toArray, big]; omega) (hsz2 := by show 0 ≤ _; omega))))
  case c0 =>
  have o2 : (((s.heap.update a (Obj.mapSeq fun _ => #[])).push (seqObj "tuple" (v1 :: v2 :: rest).toArray 0)).push (seqObj "list" #[] 0)).get? a = some (seqObj "list" #[] e1) := by
    have z1 := Heap.size_update s.heap a (Obj.mapSeq fun _ => #[])
    rw [Heap.get?_push_ne, Heap.get?_push_ne]
    · exact o1
    · exact Nat.ne_of_lt (by rw [z1]; exact la)
    · exact Nat.ne_of_lt (by rw [size_push', z1]; exact Nat.lt_succ_of_lt la)
  have two : ¬ (v1 :: v2 :: rest).toArray.size < 2 := by rw [List.size_toArray]; show ¬ rest.length + 1 + 1 < 2; omega
  dsimp only
  rw [if_neg two, if_neg two, keyKind_ints hI]
  refine wpAny_bind (wpAny_pure ?_)
  refine wpAny_bind (wpAny_mono (sruns_ok (O := intOrd) (Q := fun _ st' => (arrOf st').toList.Perm (pairsOf (v1 :: v2 :: rest)).toList ∧ failedOf st' = none ∧ (arrOf st').toList.Pairwise (intOrd (prog := prog) (w := w) (A := A) (E := E) (s := _)).le) rfl rfl rfl (fun z hz => ?_) fun st' a1 a2 a3 => ⟨a1, a2, a3⟩) ?_ fun _ _ e => e)
  · exact hI.intKeys z hz
  rintro ⟨_, st'⟩ s' ⟨rfl, pm, fl, so⟩
  have pz := pm.length_eq
  rw [Array.length_toList, Array.length_toList, sz] at pz
  obtain ⟨ns', h1, h2, h3⟩ := sorted_out hI (Array.perm_iff_toList_perm.mpr pm) (sorted_to so (by rw [sz]; exact Nat.le_of_eq pz.symm))
  have lz : (rest.length + 2) ≤ 100000 := hz
  dsimp only
  refine wpAny_bind (seqEpoch_at o2 rfl (wpAny_bind (listUpdate_at o2 rfl ?_ (hsz := Nat.zero_le _) (hsz2 := by show ((arrOf st').map (·.2)).size ≤ _; rw [Array.size_map, pz, big]; omega))))
  rw [fl]
  simp only [bne_self_eq_false, Bool.false_eq_true, if_false]
  exact wpAny_pure (h _ ns' h1 h2 h3)
end
end L2
set_option Elab.async false
set_option linter.all false
set_option maxRecDepth 100000
set_option maxHeartbeats 1000000
namespace L2
open PySem PyProof PyProof.Rows
section
variable {prog : Program} {w : World} {A : Around} {E : Value → Shared → Prop} {s : Shared} {KK : Type} [DecidableEq KK] {knd : KeyKind prog w KK}
theorem sorted_dict_big {d : Addr} {kvs : List (KK × Value)} {ep : Nat} {ns : List Int} {Q : Value → Shared → Prop} (hh : A.handled = none) (hS : (d == sysModules) = false) (hm : s.heap.DictAt knd d kvs ep) (few : kvs.length ≤ 100000)
    (hi : ∀ acc : Array Value, ItemsOf (fun i v => ∃ k x, kvs[i]? = some (k, x) ∧ knd.is k v = true) acc kvs.length → IntsAre acc.toList ns)
    (q : ∀ h' tk l (out : Array Value) e ns', (∀ b o, s.heap.get? b = some o → h'.get? b = some o) → s.heap.objs.size ≤ l → h'.get? l = some (seqObj "list" out e) → IntsAre out.toList ns' → ns'.Perm ns → ns'.Pairwise (· ≤ ·) → Q (.ref l) { s with heap := h', toks := tk }) : wpAny (model prog w) A (call (.builtin "sorted") [.ref d]) Q E s := by
  refine Calls.call_function_entry kind_sorted plain_sorted entry_sorted (args_sorted1 _) (show wpAny _ _ (checkCount "sorted" 1 1 1 >>= fun _ => collect (.ref d) >>= _) _ _ s from wpAny_bind (wpAny_pure (wpAny_bind ?c1)))
  refine keys_of_dict hh hS hm (by rw [show sizeLine = 16777216 by decide]; omega) fun h1 tk acc sz k1 it => ?c2
  have hI := hi acc it
  have len : acc.toList.length ≤ 100000 := by rw [Array.length_toList, it.1]; exact few
  refine wpAny_bind (wpAny_newList ?c3)
  have g1 : (h1.push (seqObj "list" acc.toList.toArray 0)).get? h1.objs.size = some (seqObj "list" acc.toList.toArray 0) := Heap.get?_push_size _ rfl
  show wpAny _ _ _ _ _ { heap := h1.push (seqObj "list" acc.toList.toArray 0), gens := s.gens, drawn := s.drawn, toks := tk, os := s.os }
  refine wpAny_bind (wpAny_holding (wpAny_call_entry slot_list_sort ⟨_, g1, rfl⟩ entry_list_sort (lsort_ok g1 hI len fun out ns' p1 p2 p3 => ⟨_, rfl, ?c4⟩) (args_list_sort _)))
  obtain ⟨e, ge⟩ := sortedHeap_at (out := out) g1
  refine wpAny_pure ⟨_, rfl, q _ tk h1.objs.size out e ns' (fun b o z => ?c5) ?c6 ge p1 p2 p3⟩
  case c5 =>
    have lt := Heap.lt_size (k1 b o z)
    rw [sortedHeap_old (Nat.ne_of_lt lt) (by rw [size_push']; exact Nat.lt_succ_of_lt lt)]
    exact Heap.get?_push_of_some _ (k1 b o z)
  case c6 => exact sz
theorem sorted_list_big {l : Addr} {vs : List Value} {ns : List Int} {Q : Value → Shared → Prop} (hl : s.heap.IsList l vs.toArray) (hI : IntsAre vs ns) (few : vs.length ≤ 100000)
    (q : ∀ h' l' (out : Array Value) e ns', (∀ b o, s.heap.get? b = some o → h'.get? b = some o) → s.heap.objs.size ≤ l' → h'.get? l' = some (seqObj "list" out e) → IntsAre out.toList ns' → ns'.Perm ns → ns'.Pairwise (· ≤ ·) → Q (.ref l') { s with heap := h' }) : wpAny (model prog w) A (call (.builtin "sorted") [.ref l]) Q E s := by
  refine Calls.call_function_entry kind_sorted plain_sorted entry_sorted (args_sorted1 _) (show wpAny _ _ (checkCount "sorted" 1 1 1 >>= fun _ => collect (.ref l) >>= _) _ _ s from wpAny_bind (wpAny_pure (wpAny_bind (collect_list hl ?c1 (by rw [show sizeLine = 16777216 by decide]; omega)))))
  case c1 =>
  have k1 : ∀ b o, s.heap.get? b = some o → ((s.heap.push (seqObj "list" #[] 0)).update s.heap.objs.size (Obj.mapSeq (· ++ vs.toArray))).get? b = some o := fun b o z => (Heap.get?_update_other _ _ (Ne.symm (Nat.ne_of_lt (Heap.lt_size z)))).trans (Heap.get?_push_of_some _ z)
  have z1 : s.heap.objs.size ≤ ((s.heap.push (seqObj "list" #[] 0)).update s.heap.objs.size (Obj.mapSeq (· ++ vs.toArray))).objs.size := by rw [Heap.size_update, size_push']; exact Nat.le_succ _
  generalize (s.heap.push (seqObj "list" #[] 0)).update s.heap.objs.size (Obj.mapSeq (· ++ vs.toArray)) = h1 at *
  refine wpAny_bind (wpAny_newList ?c3)
  have g1 : (h1.push (seqObj "list" vs.toArray 0)).get? h1.objs.size = some (seqObj "list" vs.toArray 0) := Heap.get?_push_size _ rfl
  show wpAny _ _ _ _ _ { s with heap := h1.push (seqObj "list" vs.toArray 0) }
  refine wpAny_bind (wpAny_holding (wpAny_call_entry slot_list_sort ⟨_, g1, rfl⟩ entry_list_sort (lsort_ok g1 hI few fun out ns' p1 p2 p3 => ⟨_, rfl, ?c4⟩) (args_list_sort _)))
  obtain ⟨e, ge⟩ := sortedHeap_at (out := out) g1
  refine wpAny_pure ⟨_, rfl, q _ h1.objs.size out e ns' (fun b o z => ?c5) z1 ge p1 p2 p3⟩
  have lt := Heap.lt_size (k1 b o z)
  rw [sortedHeap_old (Nat.ne_of_lt lt) (by rw [size_push']; exact Nat.lt_succ_of_lt lt)]
  exact Heap.get?_push_of_some _ (k1 b o z)
end
section
variable {X : Cx}
theorem call_sortDB (hh : X.A.handled = none) : CallR X (.builtin "sorted") (fun xs H Q => ∃ (a : Addr) (kvs : List (Key × V)) (ns : List Int), xs = [.ref a] ∧ Rd H a (.dK kvs) ∧ kvs.map (·.1) = ns.map Sum.inl ∧ ns.length ≤ 1000 ∧
    ∀ ns' : List Int, ns'.Perm ns → ns'.Pairwise (· ≤ ·) → ∀ l, H l = none → Q (.ref l) (upd H l (.lst (ns'.map V.int)))) := by
  intro pins s σ H xs us Q I r h
  obtain ⟨a, kvs, ns, rfl, hk, ek, hl, q⟩ := h
  obtain ⟨u, rfl, ru⟩ := vals1 r
  cases ru
  obtain ⟨hz, hS, vs, rk, m⟩ := dk_rd I.hok hk
  obtain ⟨ep, hm0⟩ := m.dictAt
  have e1 : vs.map (·.1) = kvs.map (·.1) := by
    clear hz m hm0 q hk ek
    induction rk with
    | nil => rfl
    | cons a b ih => rw [List.map_cons, List.map_cons, ih, a.1]
  have lv : vs.length = ns.length := by
    have := congrArg List.length (e1.trans ek)
    simpa using this
  refine sorted_dict_big (ns := ns) hh hS hm0 (by omega) (fun acc it => ?_) fun h' tk l out e ns' kp le g i1 i2 i3 => ?_
  · refine ints_by (by rw [Array.length_toList, it.1, lv]) fun i u n a b => ?_
    obtain ⟨k, x, e2, e3⟩ := it.2 i u (by simpa using a)
    have e4 : (vs.map (·.1))[i]? = some k := by rw [List.getElem?_map, e2]; rfl
    rw [e1, ek, List.getElem?_map, b] at e4
    cases e4
    rw [mixKind_is] at e3
    exact Value.isInt_shape (show Value.isInt n u = true from e3)
  · have rel : Vals (ns'.map V.int) out.toList := vals_ints i1
    refine ⟨.ref l, _, I.laid (a := l) (o := .lst (ns'.map V.int)) (t' := tk) kp le ⟨?_, out.toList, e, rel, by simpa using g⟩, rfl, q ns' i2 i3 l (I.hok.fresh le)⟩
    have := i2.length_eq
    rw [List.length_map, show sizeLine = 16777216 by decide]
    omega
theorem call_sortLB : CallR X (.builtin "sorted") (fun xs H Q => ∃ (a : Addr) (ns : List Int), xs = [.ref a] ∧ SqL X.K H a (ns.map V.int) ∧ ns.length ≤ 1000 ∧
    ∀ ns' : List Int, ns'.Perm ns → ns'.Pairwise (· ≤ ·) → ∀ l, H l = none → Q (.ref l) (upd H l (.lst (ns'.map V.int)))) := by
  intro pins s σ H xs us Q I r h
  obtain ⟨a, ns, rfl, hq, hl, q⟩ := h
  obtain ⟨u, rfl, ru⟩ := vals1 r
  cases ru
  obtain ⟨its, rv, pl, hz⟩ := I.list hq
  have ll := rv.length
  rw [List.length_map] at ll
  have hI : IntsAre its ns := ints_by ll.symm fun i u n a b => by
    obtain ⟨u', e, r'⟩ := rv.get (i := i) (x := .int n) (by rw [List.getElem?_map, b]; rfl)
    rw [a] at e
    cases e
    exact r'
  refine sorted_list_big pl.isList hI (by omega) fun h' l out e ns' kp le g p1 p2 p3 => ?_
  have rel : Vals (ns'.map V.int) out.toList := vals_ints p1
  refine ⟨.ref l, _, I.laid (a := l) (o := .lst (ns'.map V.int)) (t' := s.toks) kp le ⟨?_, out.toList, e, rel, by simpa using g⟩, rfl, q ns' p2 p3 l (I.hok.fresh le)⟩
  have := p2.length_eq
  rw [List.length_map, show sizeLine = 16777216 by decide]
  omega
end
end L2
set_option Elab.async false
set_option linter.all false
set_option maxRecDepth 100000
set_option maxHeartbeats 400000
namespace L2
open PySem PyProof PyProof.Rows
def Itk (d : Addr) (o : Obj) (kvs : List (Key × V)) : It :=
  ⟨fun i H => H d = some (.frz o (.dK kvs)) ∧ i < kvs.length, fun i H v H' => H' = H ∧ ∃ k x, kvs[i]? = some (k, x) ∧ v = kV k, fun i H => H d = some (.frz o (.dK kvs)) ∧ kvs.length ≤ i⟩
theorem turn_keys {P : Program} {w : World} {K : PySem.W.Frag} {tg : Expr} {d it : Addr} {o : Obj} {es : Array DictEntry} {ep : Nat} {kvs : List (Key × V)} (ed : o.data = .dict es ep) :
    Turn P w K tg (Itk d o kvs) [it] it (fun i h => h.IsKeyIter it d i kvs.length ep) where
  mem := by simp
  obj := fun i h st b hb => by
    have e : b = it := by simpa using hb
    subst e
    obtain ⟨o, e, c, dd⟩ := st
    exact ⟨o, e, fun v z => by rw [dd] at z; cases z⟩
  keep := fun i h h' st k => st.at fun o e => k it (by simp) o e
  item := by
    intro X hP hw hK hc i pins s σ H E I hf st hg
    subst hP hw hK
    obtain ⟨hd, hi⟩ := hg
    obtain ⟨hS, vs, rk, hm⟩ := frz_at I.hok hd ed
    have lv : kvs.length = vs.length := Paired.length rk
    rw [lv] at st
    obtain ⟨k, x, ex⟩ : ∃ k x, kvs[i]? = some (k, x) := ⟨kvs[i].1, kvs[i].2, List.getElem?_eq_getElem hi⟩
    obtain ⟨v, ev, rv⟩ := KV.get rk ex
    obtain ⟨f0, f1, f2, f3, f4, f5⟩ := hf it (by simp)
    refine wpAny_pyNext_dict_item st hm ev fun key h' hkey st' sb => ?_
    have I1 : Inv X pins σ H { s with heap := h' } := I.turned (t' := s.toks) (fun b o hb e => (sb.2 b hb).trans e) f0 f1 f3 f4 f5
    obtain ⟨o', e, c, dd⟩ := id st'
    exact ⟨key, rfl, go_of (s := { s with heap := h' }) e c dd (by decide) ⟨kV k, H, I1, rel_key hkey, ⟨rfl, k, x, ex, rfl⟩, by rw [lv]; exact st', fun b hb => (hf b hb).1⟩⟩
  done := by
    intro X hP hw hK hc i pins s σ H E I hf st hg
    subst hP hw hK
    obtain ⟨hd, hi⟩ := hg
    obtain ⟨hS, vs, rk, hm⟩ := frz_at I.hok hd ed
    have lv : kvs.length = vs.length := Paired.length rk
    rw [lv] at st hi
    obtain ⟨f0, f1, f2, f3, f4, f5⟩ := hf it (by simp)
    exact wpAny_pyNext_dict_end (I.ok.hd hc) st hm (List.getElem?_eq_none hi) fun h' eb => ⟨rfl, I.turned (t' := s.toks) (fun b o hb e => eb b o hb e) f0 f1 f3 f4 f5⟩
  self := fun _ _ _ _ _ st h => wpAny_pyIter_keyiter st h
section
variable {X : Cx} {o : Expr} {to : TE}
def iKeys (to : TE) : TI := fun σ H R => to σ H fun x H1 => ∃ d kvs, x = .ref d ∧ H1 d = some (.dK kvs) ∧ ∀ ob, R (Itk d ob kvs) (upd H1 d (.frz ob (.dK kvs)))
theorem pi_keys {tg : Expr} (ho : PE X o to) : PI X tg o (iKeys to) := by
  intro pins s σ H R I h
  refine thn (ho pins s σ H _ I h) fun v s1 ⟨x, H1, I1, r1, q1⟩ => ?_
  obtain ⟨d, kvs, rfl, hd, q⟩ := q1
  cases r1
  obtain ⟨ob, eo, I2⟩ := I1.freeze hd
  obtain ⟨hz, hS, vs, rk, m⟩ := dk_of I1.hok hd
  obtain ⟨ep, hm⟩ := m.dictAt
  obtain ⟨o', es, eo', c, ed, r⟩ := id hm
  rw [eo] at eo'
  cases eo'
  have lv : kvs.length = vs.length := Paired.length rk
  refine wpAny_pyIter_dict hS hm ?_
  refine ⟨s1.heap.objs.size, [s1.heap.objs.size], _, _, _, rfl, I2.kept (t' := s1.toks) fun b u e => Heap.get?_push_of_some _ e, turn_keys ed, ?_, fun b hb => ?_, q ob⟩
  · rw [lv]
    exact ⟨_, Heap.get?_push_size _ rfl, rfl, rfl⟩
  · have e : b = s1.heap.objs.size := by simpa using hb
    subst e
    exact I2.fpOk (Nat.le_refl _) (I2.hok.fresh (Nat.le_refl _))
end
end L2
set_option Elab.async false
set_option linter.all false
set_option maxRecDepth 100000
set_option maxHeartbeats 400000
namespace L2
open PySem PyProof PyProof.Rows
section
variable {X : Cx}
theorem call_listD (hh : X.A.handled = none) : CallR X (.type "list") (fun xs H Q => ∃ (a : Addr) (kvs : List (Key × V)) (ns : List Int), xs = [.ref a] ∧ Rd H a (.dK kvs) ∧ kvs.map (·.1) = ns.map Sum.inl ∧ ∀ l, H l = none → Q (.ref l) (upd H l (.lst (ns.map V.int)))) := by
  intro pins s σ H xs us Q I r h
  obtain ⟨a, kvs, ns, rfl, hk, ek, q⟩ := h
  obtain ⟨u, rfl, ru⟩ := vals1 r
  cases ru
  obtain ⟨hz, hS, vs, rk, m⟩ := dk_rd I.hok hk
  obtain ⟨ep, hm0⟩ := m.dictAt
  have e1 : vs.map (·.1) = kvs.map (·.1) := by
    clear hz m hm0 q hk ek
    induction rk with
    | nil => rfl
    | cons a b ih => rw [List.map_cons, List.map_cons, ih, a.1]
  have lv : vs.length = ns.length := by
    have := congrArg List.length (e1.trans ek)
    simpa using this
  have lk : kvs.length = vs.length := Paired.length rk
  refine PySem.W.kdl_call (PySem.W.kdl_dict hS) hh hm0 (by rw [← lk]; exact hz) fun h' tk acc c kp gl it => ?_
  have hI : IntsAre acc.toList ns := by
    refine ints_by (by rw [Array.length_toList, it.1, lv]) fun i u n a b => ?_
    obtain ⟨k, x, e2, e3⟩ := it.2 i u (by simpa using a)
    have e4 : (vs.map (·.1))[i]? = some k := by rw [List.getElem?_map, e2]; rfl
    rw [e1, ek, List.getElem?_map, b] at e4
    cases e4
    rw [mixKind_is] at e3
    exact Value.isInt_shape (show Value.isInt n u = true from e3)
  refine ⟨.ref s.heap.objs.size, _, I.laid (a := s.heap.objs.size) (o := .lst (ns.map V.int)) (t' := tk) kp (Nat.le_refl _) ⟨?_, acc.toList, c, vals_ints hI, by simpa using gl⟩, rfl, q _ (I.hok.fresh (Nat.le_refl _))⟩
  rw [List.length_map, ← lv, ← lk]
  exact hz
end
end L2
set_option Elab.async false
set_option linter.all false
set_option maxRecDepth 100000
set_option maxHeartbeats 0
namespace K22
open PySem L2
def top (i : Nat) : Stmt := PySem.Challenge.pw_nolocktree_k22_whole_as_soon_as_nobody_l.main.body.getD i (.Pass ⟨0, 0, 0, 0⟩)
structure Txt (K : PySem.W.Frag) (mg : Str → Option Value) : Prop where
  n_len : mg "len" = none
  n_max : mg "max" = none
  n_min : mg "min" = none
  n_isinstance : mg "isinstance" = none
  n_list : mg "list" = none
  n_tuple : mg "tuple" = none
  n_int : mg "int" = none
  n_bool : mg "bool" = none
  n_enumerate : mg "enumerate" = none
  n_range : mg "range" = none
  n_repr : mg "repr" = none
  n_all : mg "all" = none
  n_set : mg "set" = none
  n_sorted : mg "sorted" = none
  n_dict : mg "dict" = none
  n_zip : mg "zip" = none
  c_cnt : ∃ t, mg "GREATEST_COUNT" = some (.int 1000000 t)
def OkD (P : Program) (w : World) (K : PySem.W.Frag) (mg : Str → Option Value) (base : Heap) (x : Str) (st : Stmt) (ps : List Str) (k : Nat) (sp : Sp) : Prop :=
  ∃ f fd, Dn K mg x x st ps f fd ∧ FnOk P w K mg base CX0 k f fd ps sp
def Box (H : Hp) (p : Addr) (n : Nat) : Prop := ∃ a b c : Int, H p = some (.lst [.int a, .int b, .int c]) ∧ 0 ≤ a ∧ 0 ≤ b ∧ b < 2147483629 ∧ 0 ≤ c ∧ c ≤ n
theorem Box.lst {H : Hp} {p : Addr} {n : Nat} (x : Box H p n) : ∃ xs, H p = some (.lst xs) := let ⟨_, _, _, h, _⟩ := x; ⟨_, h⟩
def spTake : Sp := fun vs H Q _ => ∃ (p : Addr) (m : Int) (n : Nat), vs = [.ref p, .int m] ∧ Box H p n ∧ n ≤ 1000000 ∧ 0 < m ∧ m ≤ 1000000000000000000000000000000 ∧
  ∀ (r : Int) (H' : Hp), 0 ≤ r → r < m → Box H' p (n + 1) → KB p H H' → Q (.int r) H'
section
variable {P : Program} {w : World} {K : PySem.W.Frag} {mg : Str → Option Value} {base : Heap}
abbrev s__law_take : Stmt := top 18
theorem sc__law_take : FnScope ["_law_box_here", "_law_many", "_law_digit", "_law_number"] ["_law_box_here", "_law_many"] (defScope s__law_take) := ⟨rfl, rfl, rfl, by decide +kernel, rfl, by decide +kernel, by decide +kernel⟩
theorem log_small {m : Int} (h : 0 < m) (h2 : m ≤ 1000000000000000000000000000000) : m.natAbs.log2 < 9000 := by
  have e : m.natAbs < 2 ^ 110 := by omega
  have := (Nat.log2_lt (by omega)).mpr e
  omega
theorem small_mod {x : Int} : (x % 2147483629).natAbs < 2 ^ 64 := by omega
theorem ok_take (hd : ∃ f fd, Dn K mg "_law_take" "_law_take" s__law_take ["_law_box_here", "_law_many"] f fd) (T : Txt K mg) : OkD P w K mg base "_law_take" s__law_take ["_law_box_here", "_law_many"] 1 spTake := by
  obtain ⟨f, fd, D⟩ := hd
  refine ⟨f, fd, D, D.fn.ok sc__law_take (fun vs H Q E h => ?_) (fun cdv A outer s H vs Q E hr h => ?_)⟩
  · obtain ⟨_, _, _, rfl, _⟩ := h
    rfl
  · obtain ⟨p, m, n, rfl, ⟨a, b, c, hb, ha, hb0, hb1, hc0, hc1⟩, hn, hm, hm2, k⟩ := h
    have sc := sc__law_take
    refine ⟨_, (pss_cons (ps_if (pt_cmpR op_gt (pe_ix ix_list (pv 0) pe_int (fun _ _ => rfl)) pe_int (nomark _))
      (pss_cons (ps_set (i := 2) sc.nd rfl (Or.inl rfl) (pe_op op_mod (pe_ix ix_list (pv 0) pe_int (fun _ _ => rfl)) (pv 1)))
    (pss_cons (ps_asg (pe_op op_fdivL (pe_ix ix_list (pv 0) pe_int (fun _ _ => rfl)) (pv 1)) (pg_sub (pv 0) pe_int set_list))
    (pss_one (ps_ret (pv 2)))))
      pss_nil)
    (pss_cons (ps_asg (pe_op op_add (pe_ix ix_list (pv 0) pe_int (fun _ _ => rfl)) pe_int) (pg_sub (pv 0) pe_int set_list))
    (pss_cons (ps_set (i := 3) sc.nd rfl (Or.inl rfl) (pe_op op_mod (pe_op op_add (pe_op op_pow (pe_op op_add (pe_ix ix_list (pv 0) pe_int (fun _ _ => rfl)) (pe_op op_mul pe_int (pe_ix ix_list (pv 0) pe_int (fun _ _ => rfl)))) pe_int) (pe_op op_mul pe_int (pe_ix ix_list (pv 0) pe_int (fun _ _ => rfl)))) pe_int))
    (pss_one (ps_ret (pe_op op_mod (pe_op op_fdivL (pe_op op_mod (pe_op op_pow (pv 3) pe_int) pe_int) pe_int) (pv 1))))))), ?_⟩
    refine ⟨_, rfl, _, _, _, _, rfl, rfl, SqL.of hb, rfl, _, _, rfl, rfl, _, rfl, ?_⟩
    refine ite2 (fun h0 => ?_) (fun h0 => ?_)
    · refine ⟨_, rfl, _, _, _, _, rfl, rfl, SqL.of hb, rfl, _, rfl, _, _, rfl, rfl, hm, ?_⟩
      refine ⟨_, rfl, _, _, _, _, rfl, rfl, SqL.of hb, rfl, _, rfl, _, _, rfl, rfl, ⟨hm, log_small hm hm2⟩, ?_⟩
      refine ⟨_, rfl, _, _, _, _, rfl, rfl, hb, rfl, _, rfl, ?_⟩
      exact k _ _ (Int.emod_nonneg _ (by omega)) (Int.emod_lt_of_pos _ hm) ⟨a / m, b, c, upd_same, Int.ediv_nonneg ha (by omega), hb0, hb1, hc0, by omega⟩ (KB.refl.updP)
    · refine ⟨_, rfl, _, _, _, _, rfl, rfl, SqL.of hb, rfl, _, _, rfl, rfl, ?_⟩
      refine ⟨_, rfl, _, _, _, _, rfl, rfl, hb, rfl, ?_⟩
      have hb' : upd H p (.lst ([V.int a, V.int b, V.int c].set 2 (V.int (c + 1)))) p = some (.lst [V.int a, V.int b, V.int (c + 1)]) := upd_same
      refine ⟨_, rfl, _, _, _, _, rfl, rfl, SqL.of hb', rfl, _, rfl, _, _, _, _, rfl, rfl, SqL.of hb', rfl, _, _, rfl, rfl, .inl ⟨by decide, by decide⟩, _, _, rfl, rfl, _, _, rfl, rfl, ⟨by decide, by decide, ?_⟩, ?_⟩
      · show (b + 104729 * (c + 1)).natAbs < 2 ^ 64
        omega
      refine ⟨_, rfl, _, _, _, _, rfl, rfl, SqL.of hb', rfl, _, _, rfl, rfl, .inl ⟨by decide, by decide⟩, _, _, rfl, rfl, _, _, rfl, rfl, (by show (0 : Int) < 2147483629; decide), ?_⟩
      refine ⟨_, rfl, _, _, rfl, rfl, ⟨by decide, by decide, small_mod⟩, _, _, rfl, rfl, (by show (0 : Int) < 2147483587; decide), _, _, rfl, rfl, ⟨by decide, by decide +kernel⟩, _, rfl, _, _, rfl, rfl, hm, ?_⟩
      exact k _ _ (Int.emod_nonneg _ (by omega)) (Int.emod_lt_of_pos _ hm) ⟨a, b, c + 1, hb', ha, hb0, hb1, by omega, by omega⟩ (KB.refl.updP)
end
end K22
set_option Elab.async false
set_option linter.all false
set_option maxRecDepth 100000
set_option maxHeartbeats 0
namespace K22
open PySem L2
theorem cp {j : Int} (h0 : 0 ≤ j) (h1 : j ≤ 1000000) : CPow 10 j := ⟨h0, h1, by decide⟩
theorem atI_mem {xs : List V} {r : Int} (h0 : 0 ≤ r) (h1 : r < xs.length) : ∃ v, v ∈ xs ∧ atI xs r = some v := by
  have hj : r.toNat < xs.length := by omega
  refine ⟨xs[r.toNat], List.getElem_mem hj, ?_⟩
  have e : xs[r.toNat]? = some xs[r.toNat] := by simp [hj]
  have := atI_nat e
  rwa [show ((r.toNat : Nat) : Int) = r by omega] at this
theorem atI_ints {ns : List Int} {r : Int} (h0 : 0 ≤ r) (h1 : r < ns.length) : ∃ z, z ∈ ns ∧ atI (ns.map V.int) r = some (.int z) := by
  obtain ⟨v, hv, e⟩ := atI_mem (xs := ns.map V.int) h0 (by simpa using h1)
  obtain ⟨z, hz, rfl⟩ := List.mem_map.mp hv
  exact ⟨z, hz, e⟩
section
variable {P : Program} {w : World} {K : PySem.W.Frag} {mg : Str → Option Value} {base : Heap}
abbrev s__law_cell : Stmt := top 16
theorem sc__law_cell : FnScope ["_law_script", "_law_k"] ["_law_script", "_law_k"] (defScope s__law_cell) := ⟨rfl, rfl, rfl, by decide +kernel, rfl, by decide +kernel, by decide +kernel⟩
def spCell (K : PySem.W.Frag) : Sp := fun vs H Q _ => ∃ (a : Addr) (k : Nat) (ns : List Int), vs = [.ref a, .int k] ∧ SqL K H a (ns.map V.int) ∧ ∀ i : Int, Q (.int i) H
theorem ok_cell (hd : ∃ f fd, Dn K mg "_law_cell" "_law_cell" s__law_cell ["_law_script", "_law_k"] f fd) (T : Txt K mg) : OkD P w K mg base "_law_cell" s__law_cell ["_law_script", "_law_k"] 1 (spCell K) := by
  obtain ⟨f, fd, D⟩ := hd
  refine ⟨f, fd, D, D.fn.ok sc__law_cell (fun vs H Q E h => ?_) (fun cdv A outer s H vs Q E hr h => ?_)⟩
  · obtain ⟨_, _, _, rfl, _⟩ := h
    rfl
  · obtain ⟨a, j, ns, rfl, hS, k⟩ := h
    have sc := sc__law_cell
    refine ⟨_, (pss_cons (ps_if (pt_cmpR op_lt (pv 1) (pe_callB call_len_seq rfl T.n_len bt_len (pa_c (pv 0) pa_nil)) (nomark _))
      (pss_one (ps_ret (pe_ix ix_list (pv 0) (pv 1) (fun _ _ => rfl))))
      pss_nil)
    (pss_one (ps_ret (pe_op op_add (pe_op op_mul pe_int (pv 1)) pe_int)))), ?_⟩
    refine ⟨_, rfl, _, rfl, _, _, rfl, .inl hS, _, _, rfl, rfl, _, rfl, ?_⟩
    refine ite2 (fun h0 => ?_) (fun h0 => ?_)
    · have h1 : (j : Int) < ((ns.map V.int).length : Nat) := of_decide_eq_true h0
      obtain ⟨z, _, e⟩ := atI_ints (ns := ns) (r := (j : Int)) (by omega) (by simpa using h1)
      exact ⟨_, rfl, _, rfl, _, _, _, _, rfl, rfl, hS, e, k z⟩
    · exact ⟨_, rfl, _, _, rfl, rfl, .inl ⟨by decide, by decide⟩, _, _, rfl, rfl, k _⟩
abbrev s__law_box : Stmt := top 17
theorem sc__law_box : FnScope ["_law_cell_here"] ["_law_cell_here"] (defScope s__law_box) := ⟨rfl, rfl, rfl, by decide +kernel, rfl, by decide +kernel, by decide +kernel⟩
def spBox : Sp := fun vs H Q _ => ∃ (c : Int), vs = [.int c] ∧ ∀ (p : Addr) (H' : Hp), H p = none → Box H' p 0 → Same H H' → Q (.ref p) H'
theorem ok_box (hd : ∃ f fd, Dn K mg "_law_box" "_law_box" s__law_box ["_law_cell_here"] f fd) (T : Txt K mg) : OkD P w K mg base "_law_box" s__law_box ["_law_cell_here"] 1 spBox := by
  obtain ⟨f, fd, D⟩ := hd
  refine ⟨f, fd, D, D.fn.ok sc__law_box (fun vs H Q E h => ?_) (fun cdv A outer s H vs Q E hr h => ?_)⟩
  · obtain ⟨_, rfl, _⟩ := h
    rfl
  · obtain ⟨c, rfl, k⟩ := h
    have sc := sc__law_box
    refine ⟨_, (pss_one (ps_ret (pe_lst (pa_c (pe_callB (call_max2 rfl) rfl T.n_max bt_max (pa_c pe_int (pa_c (pe_op op_sub (pv 0) (pe_op op_pow pe_int pe_int)) pa_nil))) (pa_c (pe_op op_mod (pv 0) pe_int) (pa_c pe_int pa_nil)))))), ?_⟩
    refine ⟨_, rfl, _, _, rfl, rfl, cp (by decide) (by decide), _, _, rfl, rfl, _, _, rfl, _, rfl, _, _, rfl, rfl, (by show (0 : Int) < 2147483629; decide), (by show 3 ≤ sizeLine; decide), fun p hp => ?_⟩
    refine k p _ hp ⟨_, _, _, upd_same, ?_, Int.emod_nonneg _ (by decide), Int.emod_lt_of_pos _ (by decide), Int.le_refl _, Int.le_refl _⟩ (Same.upd hp)
    generalize c - 10 ^ (18 : Int).toNat = z
    by_cases hz : z > 0
    · rw [if_pos hz]; omega
    · rw [if_neg hz]; omega
end
end K22
set_option Elab.async false
set_option linter.all false
set_option maxRecDepth 100000
set_option maxHeartbeats 1000000
namespace K22
open PySem L2
def isI : V → Bool | .int _ => true | _ => false
def isB : V → Bool | .bl _ => true | _ => false
def whole (v : V) (lo hi : Int) : Bool := match v with | .int i => decide (lo ≤ i) && decide (i ≤ hi) | _ => false
section
variable {K : PySem.W.Frag} {H : Hp} {v : V} {t : Value}
theorem meta_int : PySem.W.kitMeta "int" = true := by decide +kernel
theorem meta_bool : PySem.W.kitMeta "bool" = true := by decide +kernel
theorem kit_ref {C : Addr} {n : String} (hm : PySem.W.kitMeta n = true) (h : PySem.W.subIn K (.ref C) (.type n) = some false) : PySem.W.kitOne K (.ref C) (.type n) = some false := by
  unfold PySem.W.kitOne
  rw [if_neg (by intro z; cases (beq_iff_eq.mp z))]
  show (if PySem.W.kitMeta n = true then _ else _) = _
  rw [if_pos hm, h]
theorem inst_int (x : Thg K H v t) : PySem.W.kitOne K t (.type "int") = some (isI v || isB v) := by
  cases x with
  | exc e d x => exact kit_ref meta_int x.ki
  | exn e x => exact kit_ref meta_int x.ki
  | _ => kernel_rfl
theorem inst_bool (x : Thg K H v t) : PySem.W.kitOne K t (.type "bool") = some (isB v) := by
  cases x with
  | exc e d x => exact kit_ref meta_bool x.kb
  | exn e x => exact kit_ref meta_bool x.kb
  | _ => kernel_rfl
end
section
variable {P : Program} {w : World} {K : PySem.W.Frag} {mg : Str → Option Value} {base : Heap}
abbrev s_is_number : Stmt := top 8
theorem sc_is_number : FnScope ["thing"] ["thing"] (defScope s_is_number) := ⟨rfl, rfl, rfl, by decide +kernel, rfl, by decide +kernel, by decide +kernel⟩
def spIsN (K : PySem.W.Frag) : Sp := fun vs H Q _ => ∃ (v : V) (t : Value), vs = [v] ∧ Thg K H v t ∧ Q (.bl (isI v)) H
theorem ok_isN (hd : ∃ f fd, Dn K mg "is_number" "is_number" s_is_number ["thing"] f fd) (T : Txt K mg) : OkD P w K mg base "is_number" s_is_number ["thing"] 1 (spIsN K) := by
  obtain ⟨f, fd, D⟩ := hd
  refine ⟨f, fd, D, D.fn.ok sc_is_number (fun vs H Q E h => ?_) (fun cdv A outer s H vs Q E hr h => ?_)⟩
  · obtain ⟨_, _, rfl, _⟩ := h
    rfl
  · obtain ⟨v, t, rfl, x, k⟩ := h
    refine ⟨_, (pss_one (ps_ret (pe_and (pe_callB call_inst rfl T.n_isinstance bt_isinstance (pa_c (pv 0) (pa_c (pe_bltn (v := .ty "int") rfl T.n_int bt_int rfl) pa_nil))) (pe_one (pe_not (pe_callB call_inst rfl T.n_isinstance bt_isinstance (pa_c (pv 0) (pa_c (pe_bltn (v := .ty "bool") rfl T.n_bool bt_bool rfl) pa_nil)))))))), ?_⟩
    refine ⟨_, rfl, v, _, t, _, rfl, x, .inl ⟨"int", rfl, inst_int x⟩, _, rfl, ?_⟩
    cases hv : v with
    | int i =>
      rw [hv] at k x
      exact iteT ⟨_, rfl, _, _, t, _, rfl, x, .inl ⟨"bool", rfl, inst_bool x⟩, _, rfl, k⟩
    | bl b =>
      rw [hv] at k x
      exact iteT ⟨_, rfl, _, _, t, _, rfl, x, .inl ⟨"bool", rfl, inst_bool x⟩, _, rfl, k⟩
    | _ =>
      rw [hv] at k
      exact iteF k
abbrev s_is_whole : Stmt := top 9
theorem sc_is_whole : FnScope ["thing", "low", "high"] ["thing", "low", "high"] (defScope s_is_whole) := ⟨rfl, rfl, rfl, by decide +kernel, rfl, by decide +kernel, by decide +kernel⟩
def spIsW (K : PySem.W.Frag) : Sp := fun vs H Q _ => ∃ (v : V) (t : Value) (lo hi : Int), vs = [v, .int lo, .int hi] ∧ Thg K H v t ∧ Q (.bl (whole v lo hi)) H
theorem ok_isW (hd : ∃ f fd, Dn K mg "is_whole" "is_whole" s_is_whole ["thing", "low", "high"] f fd) (T : Txt K mg) (h1 : OkD P w K mg base "is_number" s_is_number ["thing"] 1 (spIsN K)) :
    OkD P w K mg base "is_whole" s_is_whole ["thing", "low", "high"] 2 (spIsW K) := by
  obtain ⟨f, fd, D⟩ := hd
  obtain ⟨f1, fd1, Dis_number, Gis_number⟩ := h1
  refine ⟨f, fd, D, D.fn.ok sc_is_whole (fun vs H Q E h => ?_) (fun cdv A outer s H vs Q E hr h => ?_)⟩
  · obtain ⟨_, _, _, _, rfl, _⟩ := h
    rfl
  · obtain ⟨v, t, lo, hi, rfl, x, k⟩ := h
    refine ⟨_, (pss_one (ps_ret (pe_and (pe_call Gis_number (hr.mono (by decide)) rfl Dis_number.m Dis_number.fn.kp Dis_number.b .nil pass0 (pa_c (pv 0) pa_nil)) (pe_one (pe_chain op_le op_le (pv 1) (pv 0) (pv 2)))))), ?_⟩
    refine ⟨_, rfl, v, t, rfl, x, _, rfl, ?_⟩
    cases hv : v with
    | int i =>
      rw [hv] at k
      refine iteT ⟨_, rfl, _, rfl, _, _, rfl, rfl, _, rfl, ite2 (fun h1 => ?_) (fun h1 => ?_)⟩
      · refine ⟨_, rfl, _, _, rfl, rfl, ?_⟩
        have h2 : decide (lo ≤ i) = true := h1
        have k' : Q (.bl (decide (lo ≤ i) && decide (i ≤ hi))) H := k
        rw [h2, Bool.true_and] at k'
        exact k'
      · have h2 : decide (lo ≤ i) = false := Bool.eq_false_iff.mpr h1
        have k' : Q (.bl (decide (lo ≤ i) && decide (i ≤ hi))) H := k
        rw [h2, Bool.false_and] at k'
        exact k'
    | _ =>
      rw [hv] at k
      exact iteF k
abbrev s_is_place : Stmt := top 10
theorem sc_is_place : FnScope ["thing"] ["thing"] (defScope s_is_place) := ⟨rfl, rfl, rfl, by decide +kernel, rfl, by decide +kernel, by decide +kernel⟩
def placeV : V → Bool | .int i => decide (0 ≤ i) | _ => false
def spIsP (K : PySem.W.Frag) : Sp := fun vs H Q _ => ∃ (v : V) (t : Value), vs = [v] ∧ Thg K H v t ∧ Q (.bl (placeV v)) H
theorem ok_isP (hd : ∃ f fd, Dn K mg "is_place" "is_place" s_is_place ["thing"] f fd) (T : Txt K mg) (h1 : OkD P w K mg base "is_number" s_is_number ["thing"] 1 (spIsN K)) :
    OkD P w K mg base "is_place" s_is_place ["thing"] 2 (spIsP K) := by
  obtain ⟨f, fd, D⟩ := hd
  obtain ⟨f1, fd1, Dis_number, Gis_number⟩ := h1
  refine ⟨f, fd, D, D.fn.ok sc_is_place (fun vs H Q E h => ?_) (fun cdv A outer s H vs Q E hr h => ?_)⟩
  · obtain ⟨_, _, rfl, _⟩ := h
    rfl
  · obtain ⟨v, t, rfl, x, k⟩ := h
    refine ⟨_, (pss_one (ps_ret (pe_and (pe_call Gis_number (hr.mono (by decide)) rfl Dis_number.m Dis_number.fn.kp Dis_number.b .nil pass0 (pa_c (pv 0) pa_nil)) (pe_one (pe_cmpR op_ge (pv 0) pe_int (nomark _)))))), ?_⟩
    refine ⟨_, rfl, v, t, rfl, x, _, rfl, ?_⟩
    cases hv : v with
    | int i =>
      rw [hv] at k
      exact iteT ⟨_, rfl, _, _, rfl, rfl, k⟩
    | _ =>
      rw [hv] at k
      exact iteF k
abbrev s_is_count : Stmt := top 11
theorem sc_is_count : FnScope ["thing"] ["thing"] (defScope s_is_count) := ⟨rfl, rfl, rfl, by decide +kernel, rfl, by decide +kernel, by decide +kernel⟩
def cntV (v : V) : Bool := whole v 0 1000000
def spIsC (K : PySem.W.Frag) : Sp := fun vs H Q _ => ∃ (v : V) (t : Value), vs = [v] ∧ Thg K H v t ∧ Q (.bl (cntV v)) H
theorem ok_isC (hd : ∃ f fd, Dn K mg "is_count" "is_count" s_is_count ["thing"] f fd) (T : Txt K mg) (h1 : OkD P w K mg base "is_whole" s_is_whole ["thing", "low", "high"] 2 (spIsW K)) :
    OkD P w K mg base "is_count" s_is_count ["thing"] 3 (spIsC K) := by
  obtain ⟨f, fd, D⟩ := hd
  obtain ⟨f1, fd1, Dis_whole, Gis_whole⟩ := h1
  obtain ⟨t_GREATEST_COUNT, c_GREATEST_COUNT⟩ := T.c_cnt
  refine ⟨f, fd, D, D.fn.ok sc_is_count (fun vs H Q E h => ?_) (fun cdv A outer s H vs Q E hr h => ?_)⟩
  · obtain ⟨_, _, rfl, _⟩ := h
    rfl
  · obtain ⟨v, t, rfl, x, k⟩ := h
    refine ⟨_, (pss_one (ps_ret (pe_call Gis_whole (hr.mono (by decide)) rfl Dis_whole.m Dis_whole.fn.kp Dis_whole.b .nil pass0 (pa_c (pv 0) (pa_c pe_int (pa_c (pe_glob (v := .int (1000000)) rfl c_GREATEST_COUNT ⟨t_GREATEST_COUNT, rfl⟩) pa_nil)))))), ?_⟩
    exact ⟨_, rfl, v, t, _, _, rfl, x, k⟩
abbrev s_is_doer : Stmt := top 12
theorem sc_is_doer : FnScope ["thing"] ["thing"] (defScope s_is_doer) := ⟨rfl, rfl, rfl, by decide +kernel, rfl, by decide +kernel, by decide +kernel⟩
theorem ok_isD (hd : ∃ f fd, Dn K mg "is_doer" "is_doer" s_is_doer ["thing"] f fd) (T : Txt K mg) (h1 : OkD P w K mg base "is_count" s_is_count ["thing"] 3 (spIsC K)) :
    OkD P w K mg base "is_doer" s_is_doer ["thing"] 4 (spIsC K) := by
  obtain ⟨f, fd, D⟩ := hd
  obtain ⟨f1, fd1, Dis_count, Gis_count⟩ := h1
  refine ⟨f, fd, D, D.fn.ok sc_is_doer (fun vs H Q E h => ?_) (fun cdv A outer s H vs Q E hr h => ?_)⟩
  · obtain ⟨_, _, rfl, _⟩ := h
    rfl
  · obtain ⟨v, t, rfl, x, k⟩ := h
    refine ⟨_, (pss_one (ps_ret (pe_call Gis_count (hr.mono (by decide)) rfl Dis_count.m Dis_count.fn.kp Dis_count.b .nil pass0 (pa_c (pv 0) pa_nil)))), ?_⟩
    exact ⟨_, rfl, v, t, rfl, x, k⟩
end
end K22
set_option Elab.async false
set_option linter.all false
set_option maxRecDepth 100000
set_option maxHeartbeats 2000000
namespace K22
open PySem L2
def RowAt (tp : Bool) (H : Hp) (a : Addr) (xs : List V) : Prop := H a = some (if tp then .tup xs else .lst xs)
theorem itb_go {K : PySem.W.Frag} {tp : Bool} {H : Hp} {a : Addr} {xs : List V} {i : Nat} {x : V} (h : RowAt tp H a xs) (e : xs[i]? = some x) : (ItB K tp a).go i H := by
  cases tp with
  | true => exact ⟨xs, x, SqT.of h, e⟩
  | false => exact ⟨xs, x, SqL.of h, e⟩
theorem itb_yld {K : PySem.W.Frag} {tp : Bool} {H H' : Hp} {a : Addr} {xs : List V} {i : Nat} {v : V} (h : RowAt tp H a xs) (y : (ItB K tp a).yld i H v H') : H' = H ∧ xs[i]? = some v := by
  cases tp with
  | true => exact ⟨y.1, y.2 xs (SqT.of h)⟩
  | false => exact ⟨y.1, y.2 xs (SqL.of h)⟩
theorem itb_stop {K : PySem.W.Frag} {tp : Bool} {H : Hp} {a : Addr} {xs : List V} {i : Nat} (h : RowAt tp H a xs) (e : xs.length ≤ i) : (ItB K tp a).stop i H := by
  cases tp with
  | true => exact ⟨xs, SqT.of h, e⟩
  | false => exact ⟨xs, SqL.of h, e⟩
theorem sameD {H1 H2 : Hp} {D : Addr} {o : HO} (s : Same H1 H2) (d : H1 D = none) : Same H1 (upd H2 D o) := fun b u q => by rw [upd_ne (ne_of_none q d)]; exact s b u q
theorem iteE {b c : Bool} {A B : Prop} (e : b = c) (h : if c = true then A else B) : if b = true then A else B := by subst e; exact h
theorem big1000 : (2001 : Nat) ≤ sizeLine := by decide
theorem comp_pure {J : It} {js : List Nat} {tc : TT} {te : TE} {σ : St} {H1 : Hp} {Q : VK} (xs : List V) (p : V → Bool) (g : V → V)
    (hJ : ∀ i H2, Same H1 H2 → (i < xs.length → J.go i H2) ∧ (∀ v H3, J.yld i H2 v H3 → i < xs.length → H3 = H2 ∧ xs[i]? = some v) ∧ (xs.length ≤ i → J.stop i H2))
    (hc : ∀ x ∈ xs, ∀ H2 (R : Bool → Hp → Prop), Same H1 H2 → (∀ H3, Same H2 H3 → R (p x) H3) → tc (blkSt js σ (some x)) H2 R)
    (he : ∀ x ∈ xs, p x = true → ∀ H2 (R : VK), Same H1 H2 → (∀ H3, Same H2 H3 → R (g x) H3) → te (blkSt js σ (some x)) H2 R)
    (hz : xs.length ≤ 2000) (q : ∀ d H2, H1 d = none → Same H1 H2 → H2 d = some (.lst ((xs.filter p).map g)) → Q (.ref d) H2) (D : Addr) (hD : H1 D = none) :
    ∃ W : Nat → Nat → Hp → Prop, (∃ m, W 0 m (upd H1 D (.lst []))) ∧ ∀ i m H2, W i m H2 →
      (J.stop i H2 ∧ Q (.ref D) H2) ∨ (J.go i H2 ∧ ∀ v H3, J.yld i H2 v H3 → tc (blkSt js σ (some v)) H3 fun b H4 =>
        if b = true then te (blkSt js σ (some v)) H4 fun y H5 => ∃ ys, H5 D = some (.lst ys) ∧ ys.length < sizeLine ∧ ∃ m', m' < m ∧ W (i + 1) m' (upd H5 D (.lst (ys ++ [y])))
        else ∃ m', m' < m ∧ W (i + 1) m' H4) := by
  refine ⟨fun i m H2 => i + m = xs.length ∧ Same H1 H2 ∧ H2 D = some (.lst (((xs.take i).filter p).map g)), ⟨xs.length, by omega, sameD (Same.refl _) hD, by simp [upd_same]⟩, ?_⟩
  rintro i m H2 ⟨hm, S2, e2⟩
  by_cases hi : i < xs.length
  · obtain ⟨j1, j2, j3⟩ := hJ i H2 S2
    refine .inr ⟨j1 hi, fun v H3 yl => ?_⟩
    obtain ⟨rfl, ev⟩ := j2 v H3 yl hi
    have hv : v ∈ xs := List.mem_of_getElem? ev
    have tk : xs.take (i + 1) = xs.take i ++ [v] := by
      rw [List.take_add_one, ev]
      rfl
    have len : (((xs.take i).filter p).map g).length ≤ 2000 := by
      rw [List.length_map]
      exact Nat.le_trans (List.length_filter_le _ _) (by rw [List.length_take]; omega)
    refine hc v hv H3 _ S2 fun H4 S4 => ?_
    cases hp : p v with
    | false => exact iteF ⟨m - 1, by omega, by omega, S2.trans S4, by rw [tk, List.filter_append]; simp [hp, S4 _ _ e2]⟩
    | true =>
      refine iteT (he v hv hp H4 _ (S2.trans S4) fun H5 S5 => ⟨_, S5 _ _ (S4 _ _ e2), by have := big1000; omega, m - 1, by omega, by omega, sameD ((S2.trans S4).trans S5) hD, ?_⟩)
      rw [upd_same, tk, List.filter_append]
      simp [hp]
  · refine .inl ⟨(hJ i H2 S2).2.2 (by omega), q D H2 hD S2 ?_⟩
    rw [e2, List.take_of_length_le (by omega)]
theorem tcb1 {r : List V → Hp → VK → Prop} {ta : TE} {σ : St} {H : Hp} {Q : VK} (h : ta σ H fun x H1 => r [x] H1 Q) : tCB r (tCons ta tNil) σ H Q := h
theorem tret1 {te : TE} {D : Ends} {σ : St} {H : Hp} (h : te σ H D.rt) : tRet te D σ H := h
theorem tasg1 {te : TE} {g : TG} {D : Ends} {σ : St} {H : Hp} (h : te σ H fun x H1 => g x σ H1 D.nx) : tAsg te g D σ H := h
theorem comp_f {J : It} {js : List Nat} {wi : TI} {tc : TT} {te : TE} {σ : St} {H H1 : Hp} {Q : VK} (xs : List V) (p : V → Bool) (g : V → V) (hw : ∀ R : It → Hp → Prop, R J H1 → wi σ H R)
    (hJ : ∀ i H2, Same H1 H2 → (i < xs.length → J.go i H2) ∧ (∀ v H3, J.yld i H2 v H3 → i < xs.length → H3 = H2 ∧ xs[i]? = some v) ∧ (xs.length ≤ i → J.stop i H2))
    (hc : ∀ x ∈ xs, ∀ H2 (R : Bool → Hp → Prop), Same H1 H2 → (∀ H3, Same H2 H3 → R (p x) H3) → tc (blkSt js σ (some x)) H2 R)
    (he : ∀ x ∈ xs, p x = true → ∀ H2 (R : VK), Same H1 H2 → (∀ H3, Same H2 H3 → R (g x) H3) → te (blkSt js σ (some x)) H2 R)
    (hz : xs.length ≤ 2000) (q : ∀ d H2, H1 d = none → Same H1 H2 → H2 d = some (.lst ((xs.filter p).map g)) → Q (.ref d) H2) : tComp js wi tc te σ H Q :=
  hw _ fun D hD => comp_pure xs p g hJ hc he hz q D hD
theorem it_row {K : PySem.W.Frag} {tp : Bool} {H1 : Hp} {a : Addr} {xs : List V} (h : RowAt tp H1 a xs) : ∀ i H2, Same H1 H2 →
    (i < xs.length → (ItB K tp a).go i H2) ∧ (∀ v H3, (ItB K tp a).yld i H2 v H3 → i < xs.length → H3 = H2 ∧ xs[i]? = some v) ∧ (xs.length ≤ i → (ItB K tp a).stop i H2) := fun i H2 S => by
  have h2 : RowAt tp H2 a xs := S _ _ h
  refine ⟨fun hi => ?_, fun v H3 y _ => itb_yld h2 y, fun hi => itb_stop h2 hi⟩
  exact itb_go h2 (x := xs[i]) (by simp [hi])
theorem passX {X : Cx} : Passes (CXo X.prog X.w) X E0 := fun pins σ H s e s' I h => by
  obtain ⟨v, H', I', rv, q⟩ := I.after h
  exact q.2.elim
theorem kb_back {H H1 : Hp} {p l : Addr} (k : KB p H H1) (h : H1 l = none) (n : l ≠ p) : H l = none := by
  cases c : H l with
  | none => rfl
  | some o => rw [k l o c n] at h; cases h
theorem tseq1 {t u : TS} {D : Ends} {σ : St} {H : Hp} (h : t { D with nx := fun σ' H' => u D σ' H' } σ H) : tSeq t u D σ H := h
theorem seq2 {t u : TS} {D : Ends} {σ : St} {H : Hp} (R : St → Hp → Prop) (mk : ∀ N : St → Hp → Prop, (∀ σ' H', R σ' H' → N σ' H') → t { D with nx := N } σ H) (q : ∀ σ' H', R σ' H' → u D σ' H') : tSeq t u D σ H := tseq1 (mk _ q)
theorem Box.same {H H' : Hp} {p : Addr} {n : Nat} (x : Box H p n) (s : Same H H') : Box H' p n := let ⟨a, b, c, h1, r⟩ := x; ⟨a, b, c, s _ _ h1, r⟩
theorem comp2_pure {K : PySem.W.Frag} {J : It} {js : List Nat} {tc : TT} {te : TE} {σ : St} {H1 : Hp} {Q : VK} (ps : List (Int × Int)) (p : Int × Int → Bool) (g : Int × Int → V)
    (hJ : ∀ i H2, Same H1 H2 → (i < ps.length → J.go i H2) ∧ (∀ v H3 x, J.yld i H2 v H3 → ps[i]? = some x → ∃ t, v = .ref t ∧ Same H2 H3 ∧ H3 t = some (.tup [.int x.1, .int x.2])) ∧ (ps.length ≤ i → J.stop i H2))
    (hc : ∀ x ∈ ps, ∀ H2 (R : Bool → Hp → Prop), Same H1 H2 → (∀ H3, Same H2 H3 → R (p x) H3) → tc (blkSt2 js σ (some (.int x.1)) (some (.int x.2))) H2 R)
    (he : ∀ x ∈ ps, p x = true → ∀ H2 (R : VK), Same H1 H2 → (∀ H3, Same H2 H3 → R (g x) H3) → te (blkSt2 js σ (some (.int x.1)) (some (.int x.2))) H2 R)
    (hz : ps.length ≤ 2000) (q : ∀ d H2, H1 d = none → Same H1 H2 → H2 d = some (.lst ((ps.filter p).map g)) → Q (.ref d) H2) (D : Addr) (hD : H1 D = none) :
    ∃ W : Nat → Nat → Hp → Prop, (∃ m, W 0 m (upd H1 D (.lst []))) ∧ ∀ i m H2, W i m H2 →
      (J.stop i H2 ∧ Q (.ref D) H2) ∨ (J.go i H2 ∧ ∀ v H3, J.yld i H2 v H3 → ∃ t y y', v = .ref t ∧ SqT K H3 t [y, y'] ∧ tc (blkSt2 js σ (some y) (some y')) H3 fun b H4 =>
        if b = true then te (blkSt2 js σ (some y) (some y')) H4 fun y H5 => ∃ ys, H5 D = some (.lst ys) ∧ ys.length < sizeLine ∧ ∃ m', m' < m ∧ W (i + 1) m' (upd H5 D (.lst (ys ++ [y])))
        else ∃ m', m' < m ∧ W (i + 1) m' H4) := by
  refine ⟨fun i m H2 => i + m = ps.length ∧ Same H1 H2 ∧ H2 D = some (.lst (((ps.take i).filter p).map g)), ⟨ps.length, by omega, sameD (Same.refl _) hD, by simp [upd_same]⟩, ?_⟩
  rintro i m H2 ⟨hm, S2, e2⟩
  by_cases hi : i < ps.length
  · obtain ⟨j1, j2, j3⟩ := hJ i H2 S2
    have ex : ps[i]? = some ps[i] := List.getElem?_eq_getElem hi
    generalize ps[i] = x at ex
    refine .inr ⟨j1 hi, fun v H3 yl => ?_⟩
    obtain ⟨t, rfl, S3, et⟩ := j2 v H3 x yl ex
    have hx : x ∈ ps := List.mem_of_getElem? ex
    have tk : ps.take (i + 1) = ps.take i ++ [x] := by rw [List.take_add_one, ex]; rfl
    have len : (((ps.take i).filter p).map g).length ≤ 2000 := by
      rw [List.length_map]
      exact Nat.le_trans (List.length_filter_le _ _) (by rw [List.length_take]; omega)
    refine ⟨t, _, _, rfl, SqT.of et, hc x hx H3 _ (S2.trans S3) fun H4 S4 => ?_⟩
    have S34 := S3.trans S4
    cases hp : p x with
    | false => exact iteF ⟨m - 1, by omega, by omega, S2.trans S34, by rw [tk, List.filter_append]; simp [hp, S34 _ _ e2]⟩
    | true =>
      refine iteT (he x hx hp H4 _ (S2.trans S34) fun H5 S5 => ⟨_, S5 _ _ (S34 _ _ e2), by have := big1000; omega, m - 1, by omega, by omega, sameD ((S2.trans S34).trans S5) hD, ?_⟩)
      rw [upd_same, tk, List.filter_append]
      simp [hp]
  · refine .inl ⟨(hJ i H2 S2).2.2 (by omega), q D H2 hD S2 ?_⟩
    rw [e2, List.take_of_length_le (by omega)]
def Tups (H : Hp) (ts : List Addr) (ps : List (Int × Int)) : Prop := ts.length = ps.length ∧ ∀ (j : Nat) (t : Addr) (x : Int × Int), ts[j]? = some t → ps[j]? = some x → H t = some (.tup [.int x.1, .int x.2])
theorem it_prs {K : PySem.W.Frag} {H1 : Hp} {l : Addr} {ts : List Addr} {ps : List (Int × Int)} (hl : H1 l = some (.lst (ts.map V.ref))) (h : Tups H1 ts ps) : ∀ i H2, Same H1 H2 →
    (i < ps.length → (Itl K l).go i H2) ∧ (∀ v H3 x, (Itl K l).yld i H2 v H3 → ps[i]? = some x → ∃ t, v = .ref t ∧ Same H2 H3 ∧ H3 t = some (.tup [.int x.1, .int x.2])) ∧ (ps.length ≤ i → (Itl K l).stop i H2) := fun i H2 S => by
  have h2 : SqL K H2 l (ts.map V.ref) := SqL.of (S _ _ hl)
  have le := h.1
  refine ⟨fun hi => ⟨_, .ref ts[i], h2, by rw [List.getElem?_map, List.getElem?_eq_getElem (by omega)]; rfl⟩, fun v H3 x yl ex => ?_, fun hi => ⟨_, h2, by rw [List.length_map]; omega⟩⟩
  obtain ⟨rfl, y2⟩ := yl
  have ev := y2 _ h2
  rw [List.getElem?_map] at ev
  obtain ⟨t, et, rfl⟩ := Option.map_eq_some_iff.mp ev
  exact ⟨t, rfl, Same.refl _, S _ _ (h.2 i t x et ex)⟩
def kL (ps : List (Int × Int)) : List (Key × V) := ps.map fun p => (Sum.inl p.1, V.int p.2)
def kT (ns : List Int) : List (Key × V) := ns.map fun n => (Sum.inl n, V.bl true)
theorem kL_at {ps : List (Int × Int)} {i : Nat} {x : Int × Int} (h : ps[i]? = some x) : (kL ps)[i]? = some (Sum.inl x.1, V.int x.2) := by unfold kL; rw [List.getElem?_map, h]; rfl
theorem kL_len (ps : List (Int × Int)) : (kL ps).length = ps.length := by unfold kL; rw [List.length_map]
theorem kT_len (ns : List Int) : (kT ns).length = ns.length := by unfold kT; rw [List.length_map]
theorem it_its {H1 : Hp} {d : Addr} {o : Obj} {ps : List (Int × Int)} (hd : H1 d = some (.frz o (.dK (kL ps)))) : ∀ i H2, Same H1 H2 →
    (i < ps.length → (Iti d o (kL ps)).go i H2) ∧ (∀ v H3 x, (Iti d o (kL ps)).yld i H2 v H3 → ps[i]? = some x → ∃ t, v = .ref t ∧ Same H2 H3 ∧ H3 t = some (.tup [.int x.1, .int x.2])) ∧ (ps.length ≤ i → (Iti d o (kL ps)).stop i H2) := fun i H2 S => by
  refine ⟨fun hi => ⟨S _ _ hd, by rw [kL_len]; exact hi⟩, fun v H3 x yl ex => ?_, fun hi => ⟨S _ _ hd, by rw [kL_len]; exact hi⟩⟩
  obtain ⟨t, k, y, rfl, ft, e, rfl⟩ := yl
  rw [kL_at ex] at e
  cases e
  exact ⟨t, rfl, Same.upd ft, upd_same⟩
theorem it_vals {H1 : Hp} {d : Addr} {o : Obj} {ps : List (Int × Int)} (hd : H1 d = some (.frz o (.dK (kL ps)))) : ∀ i H2, Same H1 H2 →
    (i < (ps.map fun p => V.int p.2).length → (Itv d o (kL ps)).go i H2) ∧ (∀ v H3, (Itv d o (kL ps)).yld i H2 v H3 → i < (ps.map fun p => V.int p.2).length → H3 = H2 ∧ (ps.map fun p => V.int p.2)[i]? = some v) ∧ ((ps.map fun p => V.int p.2).length ≤ i → (Itv d o (kL ps)).stop i H2) := fun i H2 S => by
  rw [List.length_map]
  refine ⟨fun hi => ⟨S _ _ hd, by rw [kL_len]; exact hi⟩, fun v H3 yl hi => ?_, fun hi => ⟨S _ _ hd, by rw [kL_len]; exact hi⟩⟩
  obtain ⟨rfl, k, e⟩ := yl
  rw [kL_at (List.getElem?_eq_getElem hi)] at e
  cases e
  exact ⟨rfl, by rw [List.getElem?_map, List.getElem?_eq_getElem hi]; rfl⟩
theorem comp_vals {js : List Nat} {te to : TE} {σ : St} {H : Hp} {Q : VK} {d : Addr} {ps : List (Int × Int)} (hto : ∀ R : VK, R (.ref d) H → to σ H R) (hd : H d = some (.dK (kL ps))) (hz : ps.length ≤ 1000) (g : Int → V)
    (he : ∀ x ∈ ps, ∀ H2 (R : VK), KB d H H2 → (∀ H3, Same H2 H3 → R (g x.2) H3) → te (blkSt js σ (some (.int x.2))) H2 R)
    (q : ∀ l H', H l = none → Same H H' → H' l = some (.lst (ps.map fun x => g x.2)) → Q (.ref l) H') : tThaw (tComp js (iVals to) (fun _ H Q => Q true H) te) σ H Q := by
  refine ⟨d, _, hd, (fun _ _ z => nomatch z), hto _ ⟨d, kL ps, rfl, hd, fun ob D hD => ?_⟩⟩
  have kb : ∀ {H2 : Hp}, Same (upd H d (.frz ob (.dK (kL ps)))) H2 → KB d H H2 := fun S b o z n => S _ _ (by rw [upd_ne n]; exact z)
  refine comp_pure (js := js) (tc := fun _ H Q => Q true H) (te := te) (σ := σ) (Q := fun x H1 => ∃ o kvs, H1 d = some (.frz o (.dK kvs)) ∧ Q x (upd H1 d (.dK kvs))) (ps.map fun p => V.int p.2) (fun _ => true) (fun v => match v with | .int z => g z | v => v) (it_vals upd_same) ?_ ?_ (by rw [List.length_map]; omega) ?_ D hD
  · exact fun v hv H2 R' S2 r => r H2 (Same.refl _)
  · intro v hv _ H2 R' S2 r
    obtain ⟨c, hc, rfl⟩ := List.mem_map.mp hv
    exact he c hc H2 R' (kb S2) r
  · intro l H2 fl S2 e2
    have e3 := S2 _ _ (upd_same (H := H) (a := d) (o := .frz ob (.dK (kL ps))))
    refine ⟨ob, kL ps, e3, q l _ ?_ (fun b o z => ?_) ?_⟩
    · cases c : H l with
      | none => rfl
      | some o =>
        by_cases hb : l = d
        · subst hb; rw [upd_same] at fl; cases fl
        · rw [upd_ne hb, c] at fl; cases fl
    · by_cases hb : b = d
      · subst hb
        rw [hd] at z
        cases z
        exact upd_same
      · rw [upd_ne hb]
        exact kb S2 b o z hb
    · rw [upd_ne (ne_of e2 e3 (fun z => nomatch z)), e2, List.filter_eq_self.mpr (fun _ _ => rfl), List.map_map]
      rfl
theorem comp_items {K : PySem.W.Frag} {js : List Nat} {tc : TT} {te to : TE} {σ : St} {H : Hp} {Q : VK} {d : Addr} {ps : List (Int × Int)} (hto : ∀ R : VK, R (.ref d) H → to σ H R) (hd : H d = some (.dK (kL ps))) (hz : ps.length ≤ 1000) (p : Int × Int → Bool) (g : Int × Int → V)
    (hc : ∀ x ∈ ps, ∀ H2 (R : Bool → Hp → Prop), KB d H H2 → (∀ H3, Same H2 H3 → R (p x) H3) → tc (blkSt2 js σ (some (.int x.1)) (some (.int x.2))) H2 R)
    (he : ∀ x ∈ ps, p x = true → ∀ H2 (R : VK), KB d H H2 → (∀ H3, Same H2 H3 → R (g x) H3) → te (blkSt2 js σ (some (.int x.1)) (some (.int x.2))) H2 R)
    (q : ∀ l H', H l = none → Same H H' → H' l = some (.lst ((ps.filter p).map g)) → Q (.ref l) H') : tThaw (tComp2 K js (iItems to) tc te) σ H Q := by
  refine ⟨d, _, hd, (fun _ _ z => nomatch z), hto _ ⟨d, kL ps, rfl, hd, fun ob D hD => ?_⟩⟩
  have kb : ∀ {H2 : Hp}, Same (upd H d (.frz ob (.dK (kL ps)))) H2 → KB d H H2 := fun S b o z n => S _ _ (by rw [upd_ne n]; exact z)
  refine comp2_pure (K := K) (js := js) (tc := tc) (te := te) (σ := σ) (Q := fun x H1 => ∃ o kvs, H1 d = some (.frz o (.dK kvs)) ∧ Q x (upd H1 d (.dK kvs))) ps p g (it_its upd_same) (fun x hx H2 R S2 r => hc x hx H2 R (kb S2) r) (fun x hx hp H2 R S2 r => he x hx hp H2 R (kb S2) r) (by omega) ?_ D hD
  intro l H2 fl S2 e2
  have e3 := S2 _ _ (upd_same (H := H) (a := d) (o := .frz ob (.dK (kL ps))))
  refine ⟨ob, kL ps, e3, q l _ ?_ (fun b o z => ?_) ?_⟩
  · cases c : H l with
    | none => rfl
    | some o =>
      by_cases hb : l = d
      · subst hb; rw [upd_same] at fl; cases fl
      · rw [upd_ne hb, c] at fl; cases fl
  · by_cases hb : b = d
    · subst hb
      rw [hd] at z
      cases z
      exact upd_same
    · rw [upd_ne hb]
      exact kb S2 b o z hb
  · rw [upd_ne (ne_of e2 e3 (fun z => nomatch z)), e2]
theorem bt_sorted : bootBuiltins "sorted" = some (.builtin "sorted") := by decide +kernel
theorem kT_val (ns : List Int) (p : Int) : (valV (kT ns) (Sum.inl p)).isSome = decide (p ∈ ns) := by
  induction ns with
  | nil => rfl
  | cons n ns ih =>
    by_cases e : n = p
    · subst e
      rw [show kT (n :: ns) = (Sum.inl n, V.bl true) :: kT ns from rfl, valV_pos rfl, decide_eq_true (List.mem_cons_self ..)]
      rfl
    · rw [show kT (n :: ns) = (Sum.inl n, V.bl true) :: kT ns from rfl, valV_neg (fun z => e (Sum.inl.inj z)), ih]
      exact decide_eq_decide.mpr ⟨fun h => List.mem_cons_of_mem _ h, fun h => (List.mem_cons.mp h).resolve_left fun z => e z.symm⟩
theorem kL_val (ps : List (Int × Int)) (p : Int) : (valV (kL ps) (Sum.inl p)).isSome = decide (p ∈ ps.map (·.1)) := by
  induction ps with
  | nil => rfl
  | cons n ns ih =>
    by_cases e : n.1 = p
    · subst e
      rw [show kL (n :: ns) = (Sum.inl n.1, V.int n.2) :: kL ns from rfl, valV_pos rfl, decide_eq_true (by simp)]
      rfl
    · rw [show kL (n :: ns) = (Sum.inl n.1, V.int n.2) :: kL ns from rfl, valV_neg (fun z => e (Sum.inl.inj z)), ih]
      exact decide_eq_decide.mpr ⟨fun h => List.mem_cons_of_mem _ h, fun h => (List.mem_cons.mp h).resolve_left fun z => e z.symm⟩
theorem kT_some {ns : List Int} {p : Int} (h : p ∈ ns) : ∃ v, valV (kT ns) (Sum.inl p) = some v := by
  have := kT_val ns p
  rw [decide_eq_true h] at this
  exact Option.isSome_iff_exists.mp this
theorem kL_some {ps : List (Int × Int)} {p : Int} (h : p ∈ ps.map (·.1)) : ∃ v, valV (kL ps) (Sum.inl p) = some v := by
  have := kL_val ps p
  rw [decide_eq_true h] at this
  exact Option.isSome_iff_exists.mp this
theorem kT_none {ns : List Int} {p : Int} (h : p ∉ ns) : valV (kT ns) (Sum.inl p) = none := by
  have := kT_val ns p
  rw [decide_eq_false h] at this
  cases c : valV (kT ns) (Sum.inl p) with
  | none => rfl
  | some v => rw [c] at this; cases this
theorem kL_none {ps : List (Int × Int)} {p : Int} (h : p ∉ ps.map (·.1)) : valV (kL ps) (Sum.inl p) = none := by
  have := kL_val ps p
  rw [decide_eq_false h] at this
  cases c : valV (kL ps) (Sum.inl p) with
  | none => rfl
  | some v => rw [c] at this; cases this
theorem kT_put {ns : List Int} {p : Int} (h : p ∉ ns) : putK (kT ns) (Sum.inl p) (V.bl true) = kT (ns ++ [p]) := by
  rw [putK_new _ (kT_none h)]
  unfold kT
  rw [List.map_append]
  rfl
theorem kL_put {ps : List (Int × Int)} {p l : Int} (h : p ∉ ps.map (·.1)) : putK (kL ps) (Sum.inl p) (V.int l) = kL (ps ++ [(p, l)]) := by
  rw [putK_new _ (kL_none h)]
  unfold kL
  rw [List.map_append]
  rfl
theorem kT_drop (ns : List Int) (p : Int) : dropK (kT ns) (Sum.inl p) = kT (ns.filter fun n => decide (n ≠ p)) := by
  unfold dropK kT
  rw [List.filter_map]
  congr 1
  refine List.filter_congr fun n _ => decide_eq_decide.mpr ⟨fun h z => h (congrArg Sum.inl z), fun h z => h (Sum.inl.inj z)⟩
theorem kL_drop (ps : List (Int × Int)) (p : Int) : dropK (kL ps) (Sum.inl p) = kL (ps.filter fun x => decide (x.1 ≠ p)) := by
  unfold dropK kL
  rw [List.filter_map]
  congr 1
  refine List.filter_congr fun n _ => decide_eq_decide.mpr ⟨fun h z => h (congrArg Sum.inl z), fun h z => h (Sum.inl.inj z)⟩
theorem kT_keys (ns : List Int) : (kT ns).map (·.1) = ns.map Sum.inl := by unfold kT; rw [List.map_map]; rfl
end K22
set_option Elab.async false
set_option linter.all false
set_option maxRecDepth 100000
set_option maxHeartbeats 2000000
namespace K22
open PySem L2
theorem Fun_okX {P : Program} {w : World} {K : PySem.W.Frag} {mg : Str → Option Value} {base : Heap} {x qual : Str} {st : Stmt} {f : Addr} {fd : FuncData} {N ps : List Str} {k : Nat} {sp : Sp} (F : Fun K x qual st f fd) (S : FnScope N ps (defScope st)) (len : ∀ vs H Q E, sp vs H Q E → vs.length = ps.length)
    (hbody : ∀ (cdv : Value) (A : Around) (outer : List Env) (s : Shared) (H : Hp) (vs : List V) (Q : VK) (E : XK), Room k (A.deeper (PyProof.Rows.envOfC qual (defScope st) s.heap.objs.size f cdv)) → sp vs H Q E →
      ∃ t, PSs (cxOf (CXo P w) P w K mg base N qual (defScope st) f cdv A outer s H E) (defBody st) t ∧ t { nx := fun _ H' => Q .non H', rt := Q } (start N vs) H) : FnOk P w K mg base (CXo P w) (k + 1) f fd ps sp := by
  obtain ⟨oc, od, kV, doc, pm, an, cdv, ct, osl, rfl, lk, hcd⟩ := F.ex
  exact fn_of lk hcd S len fun A outer s H vs Q E hr hsp => hbody cdv A outer s H vs Q E hr hsp
structure ErN (K : PySem.W.Frag) (mg : Str → Option Value) (nm q : Str) (st : Stmt) (fld : Str) (C T fI : Addr) (fd : FuncData) : Prop where
  f : ExF K C T fI
  g : ExG K C
  b : BaseInit K T
  r : ExR K C
  fn : Fun K "__init__" q st fI fd
  bi : Binds K fd ["self", fld] []
  mC : mg nm = some (.ref C)
  mT : mg "TreeError" = some (.ref T)
  no : NoAttr K C fld
  xC : ExM K C
  self : PySem.W.mroIn K C (.ref C) = some true
def spErr (C : Addr) (fld : Str) : Sp := fun vs H Q _ => ∃ (e : Addr) (v : V), vs = [.ref e, v] ∧ H e = some (ExO C e none none none) ∧
  ∀ (dx t : Addr) (H' : Hp), H dx = none → H t = none → dx ≠ e → t ≠ e → dx ≠ t → H' e = some (ExO C e (some dx) (some t) none) → H' dx = some (XdO dx [(fld, v)]) → (∀ b, b ≠ e → b ≠ dx → b ≠ t → H' b = H b) → Q .non H'
section
variable {P : Program} {w : World} {K : PySem.W.Frag} {mg : Str → Option Value} {base : Heap}
theorem sc_NoPlace : FnScope ["self", "found"] ["self", "found"] (defScope (inClass (top 3) 0)) := ⟨rfl, rfl, rfl, by decide +kernel, rfl, by decide +kernel, by decide +kernel⟩
theorem ok_NoPlace {C TT fI : Addr} {fd : FuncData} (x : ErN K mg "NoPlace" "NoPlace.__init__" (inClass (top 3) 0) "found" C TT fI fd) : FnOk P w K mg base CX0 1 fI fd ["self", "found"] (spErr C "found") := by
  refine x.fn.ok sc_NoPlace (fun vs H Q E h => ?_) (fun cdv A outer s H vs Q E hr h => ?_)
  · obtain ⟨_, _, rfl, _⟩ := h
    rfl
  · obtain ⟨e, v, rfl, he, k⟩ := h
    refine ⟨_, (pss_cons (ps_expr (pe_baseInit x.f x.b rfl x.mT (pa_cons (pv 0) (pa_cons pe_str pa_nil)))) (pss_one (ps_exf x.f (pv 0) (pv 1) rfl))), ?_⟩
    refine ⟨_, rfl, e, none, none, none, _, rfl, (by show 1 ≤ sizeLine; decide), he, fun t f1 f2 => ?_⟩
    refine ⟨_, rfl, _, rfl, e, _, none, rfl, upd_same, x.no, fun dx h1 h2 => ?_⟩
    rw [upd_ne h2] at h1
    have h3 : dx ≠ t := (ne_of_none upd_same h1).symm
    rw [upd_ne h3] at h1
    refine k dx t _ h1 f1 h2 f2 h3 upd_same (by rw [upd_ne h2, upd_same]) fun b hb1 hb2 hb3 => ?_
    rw [upd_ne hb1, upd_ne hb2, upd_ne hb1, upd_ne hb3]
theorem sc_NoDoer : FnScope ["self", "found"] ["self", "found"] (defScope (inClass (top 4) 0)) := ⟨rfl, rfl, rfl, by decide +kernel, rfl, by decide +kernel, by decide +kernel⟩
theorem ok_NoDoer {C TT fI : Addr} {fd : FuncData} (x : ErN K mg "NoDoer" "NoDoer.__init__" (inClass (top 4) 0) "found" C TT fI fd) : FnOk P w K mg base CX0 1 fI fd ["self", "found"] (spErr C "found") := by
  refine x.fn.ok sc_NoDoer (fun vs H Q E h => ?_) (fun cdv A outer s H vs Q E hr h => ?_)
  · obtain ⟨_, _, rfl, _⟩ := h
    rfl
  · obtain ⟨e, v, rfl, he, k⟩ := h
    refine ⟨_, (pss_cons (ps_expr (pe_baseInit x.f x.b rfl x.mT (pa_cons (pv 0) (pa_cons pe_str pa_nil)))) (pss_one (ps_exf x.f (pv 0) (pv 1) rfl))), ?_⟩
    refine ⟨_, rfl, e, none, none, none, _, rfl, (by show 1 ≤ sizeLine; decide), he, fun t f1 f2 => ?_⟩
    refine ⟨_, rfl, _, rfl, e, _, none, rfl, upd_same, x.no, fun dx h1 h2 => ?_⟩
    rw [upd_ne h2] at h1
    have h3 : dx ≠ t := (ne_of_none upd_same h1).symm
    rw [upd_ne h3] at h1
    refine k dx t _ h1 f1 h2 f2 h3 upd_same (by rw [upd_ne h2, upd_same]) fun b hb1 hb2 hb3 => ?_
    rw [upd_ne hb1, upd_ne hb2, upd_ne hb1, upd_ne hb3]
theorem sc_Twice : FnScope ["self", "found"] ["self", "found"] (defScope (inClass (top 5) 0)) := ⟨rfl, rfl, rfl, by decide +kernel, rfl, by decide +kernel, by decide +kernel⟩
theorem ok_Twice {C TT fI : Addr} {fd : FuncData} (x : ErN K mg "Twice" "Twice.__init__" (inClass (top 5) 0) "found" C TT fI fd) : FnOk P w K mg base CX0 1 fI fd ["self", "found"] (spErr C "found") := by
  refine x.fn.ok sc_Twice (fun vs H Q E h => ?_) (fun cdv A outer s H vs Q E hr h => ?_)
  · obtain ⟨_, _, rfl, _⟩ := h
    rfl
  · obtain ⟨e, v, rfl, he, k⟩ := h
    refine ⟨_, (pss_cons (ps_expr (pe_baseInit x.f x.b rfl x.mT (pa_cons (pv 0) (pa_cons pe_str pa_nil)))) (pss_one (ps_exf x.f (pv 0) (pv 1) rfl))), ?_⟩
    refine ⟨_, rfl, e, none, none, none, _, rfl, (by show 1 ≤ sizeLine; decide), he, fun t f1 f2 => ?_⟩
    refine ⟨_, rfl, _, rfl, e, _, none, rfl, upd_same, x.no, fun dx h1 h2 => ?_⟩
    rw [upd_ne h2] at h1
    have h3 : dx ≠ t := (ne_of_none upd_same h1).symm
    rw [upd_ne h3] at h1
    refine k dx t _ h1 f1 h2 f2 h3 upd_same (by rw [upd_ne h2, upd_same]) fun b hb1 hb2 hb3 => ?_
    rw [upd_ne hb1, upd_ne hb2, upd_ne hb1, upd_ne hb3]
def Err (C : Addr) (fld : Str) (v : V) (H : Hp) (e : Addr) : Prop := ∃ (dx : Addr) (ar : Option Addr) (b : Addr), Fly C e (some dx) ar (some b) H ∧ H dx = some (XdO dx [(fld, v)]) ∧ dx ≠ e ∧ dx ≠ b
theorem raise_err {nm q fld : Str} {st : Stmt} {C TT fI : Addr} {fd : FuncData} (x : ErN K mg nm q st fld C TT fI fd) {v : V} {H : Hp} {E : XK} {te : TE} {σ : St} {D : Ends} (hv : ∀ R : List V → Hp → Prop, R [v] H → tCons te tNil σ H R)
    (q : ∀ e H', H e = none → Same H H' → Err C fld v H' e → E (.ref e) none H') : tRaise K E (tEx C (spErr C fld) (tCons te tNil)) D σ H := by
  delta tRaise tEx
  dsimp only
  refine hv _ ?_
  refine ⟨(by show 1 ≤ sizeLine; decide), fun e he => ⟨e, v, rfl, upd_same, fun dx t H' h1 h2 h3 h4 h5 a1 a2 a3 => ⟨rfl, C, e, some dx, some t, rfl, x.r, ⟨a1, fun b z => nomatch z⟩, fun b fb nb => ?_⟩⟩⟩
  rw [upd_ne h3] at h1
  rw [upd_ne h4] at h2
  have hdb : dx ≠ b := ne_of_none a2 fb
  refine q e _ he (fun c o z => ?_) ⟨dx, some t, b, fly_past nb, ?_, h3, hdb⟩
  · have n1 : c ≠ e := ne_of_none z he
    have n2 : c ≠ dx := ne_of_none z h1
    have n3 : c ≠ t := ne_of_none z h2
    have hc : H' c = some o := by rw [a3 c n1 n2 n3, upd_ne n1]; exact z
    have n4 : c ≠ b := ne_of_none hc fb
    show upd (upd H' b _) e _ c = _
    rw [upd_ne n1, upd_ne n4]
    exact hc
  · show upd (upd H' b _) e _ dx = _
    rw [upd_ne h3, upd_ne hdb]
    exact a2
end
section
variable {K : PySem.W.Frag} {mg : Str → Option Value}
end
def MtOk (P : Program) (w : World) (K : PySem.W.Frag) (mg : Str → Option Value) (base : Heap) (CX : CXT) (C : Addr) (nm : Str) (ps : List Str) (k : Nat) (sp : Sp) : Prop :=
  ∃ f fd, Meth K C nm f ∧ Binds K fd ps [] ∧ FnOk P w K mg base CX k f fd ps sp
structure RS where
  lap : Int
  us : List Int
  ks : List (Int × Int)
  fs : List Int
  cs : List (Int × Int)
def RS.places (S : RS) : List Int := S.us ++ S.ks.map (·.1) ++ S.fs
def past (cs : List (Int × Int)) (l : Int) : Bool := cs.all fun c => decide (l < c.2)
def RS.rel (S : RS) : RS := { S with ks := S.ks.filter (fun k => !past S.cs k.2), fs := S.fs ++ (S.ks.filter fun k => past S.cs k.2).map (·.1) }
def RS.gone (S : RS) (p : Int) : RS := { S with us := S.us.filter (fun n => decide (n ≠ p)), ks := S.ks ++ [(p, S.lap)], lap := S.lap + 1 }
def RS.left (S : RS) (n : Int) : RS := { S with cs := S.cs.filter fun c => decide (c.1 ≠ n) }
def RS.come (S : RS) (n : Int) : RS := { S with cs := S.cs ++ [(n, S.lap)] }
def RS.take (S : RS) (p : Int) : RS := { S with us := S.us ++ [p], fs := S.fs.filter fun n => decide (n ≠ p) }
structure RS.Ok (S : RS) : Prop where
  nd : S.places.Nodup
  rg : ∀ p ∈ S.places, 0 ≤ p ∧ p < (S.places.length : Nat)
  cn : (S.cs.map (·.1)).Nodup
  cr : ∀ c ∈ S.cs, 0 ≤ c.1 ∧ c.1 ≤ 1000000
theorem perm_filter {α : Type} (f : α → Bool) : ∀ l : List α, (l.filter f ++ l.filter fun x => !f x).Perm l
  | [] => .refl _
  | x :: l => by
    have ih := perm_filter f l
    cases c : f x with
    | true => rw [List.filter_cons_of_pos c, List.filter_cons_of_neg (by rw [c]; decide)]; exact ih.cons x
    | false =>
      rw [List.filter_cons_of_neg (by rw [c]; decide), List.filter_cons_of_pos (by rw [c]; rfl)]
      exact List.perm_middle.trans (ih.cons x)
theorem filter_out {p : Int} : ∀ {l : List Int}, l.Nodup → p ∈ l → (p :: l.filter fun n => decide (n ≠ p)).Perm l
  | x :: l, nd, h => by
    obtain ⟨n1, n2⟩ := List.nodup_cons.mp nd
    by_cases e : x = p
    · subst e
      have fs : l.filter (fun n => decide (n ≠ x)) = l := List.filter_eq_self.mpr fun y hy => decide_eq_true (show y ≠ x from fun z => n1 (by rw [← z]; exact hy))
      rw [List.filter_cons_of_neg (by simp), fs]
    · rw [List.filter_cons_of_pos (by simpa using e)]
      have hm : p ∈ l := (List.mem_cons.mp h).resolve_left fun z => e z.symm
      exact (List.Perm.swap ..).trans ((filter_out n2 hm).cons x)
theorem RS.Ok.of {S S' : RS} (o : S.Ok) (p : S'.places.Perm S.places) (c : S'.cs = S.cs) : S'.Ok := ⟨p.nodup_iff.mpr o.nd, fun q hq => by rw [p.length_eq]; exact o.rg q (p.mem_iff.mp hq), by rw [c]; exact o.cn, by rw [c]; exact o.cr⟩
theorem RS.rel_perm (S : RS) : S.rel.places.Perm S.places := by
  unfold RS.places RS.rel
  dsimp only
  have h1 : ((S.ks.filter fun k => past S.cs k.2).map (·.1) ++ (S.ks.filter fun k => !past S.cs k.2).map (·.1)).Perm (S.ks.map (·.1)) := by
    rw [← List.map_append]
    exact (perm_filter (fun k : Int × Int => past S.cs k.2) S.ks).map _
  have h2 : ((S.ks.filter fun k => !past S.cs k.2).map (·.1) ++ (S.fs ++ (S.ks.filter fun k => past S.cs k.2).map (·.1))).Perm (S.ks.map (·.1) ++ S.fs) := by
    rw [← List.append_assoc]
    refine List.perm_append_comm.trans ?_
    rw [← List.append_assoc]
    exact h1.append_right _
  rw [List.append_assoc, List.append_assoc]
  exact h2.append_left _
theorem RS.Ok.rel {S : RS} (o : S.Ok) : S.rel.Ok := o.of S.rel_perm rfl
theorem RS.gone_perm {S : RS} (o : S.Ok) {p : Int} (h : p ∈ S.us) : (S.gone p).places.Perm S.places := by
  have nu : S.us.Nodup := by
    have := o.nd
    unfold RS.places at this
    rw [List.append_assoc] at this
    exact (List.nodup_append.mp this).1
  have f := filter_out nu h
  unfold RS.places RS.gone
  dsimp only
  rw [List.map_append]
  show ((S.us.filter fun n => decide (n ≠ p)) ++ (S.ks.map (·.1) ++ [p]) ++ S.fs).Perm _
  refine List.Perm.append_right _ ?_
  rw [← List.append_assoc]
  refine List.perm_append_comm.trans ?_
  show (p :: ((S.us.filter fun n => decide (n ≠ p)) ++ S.ks.map (·.1))).Perm _
  exact f.append_right _
theorem RS.Ok.gone {S : RS} (o : S.Ok) {p : Int} (h : p ∈ S.us) : (S.gone p).Ok := o.of (RS.gone_perm o h) rfl
theorem RS.Ok.left {S : RS} (o : S.Ok) (n : Int) : (S.left n).Ok := ⟨o.nd, o.rg, o.cn.sublist (List.Sublist.map _ List.filter_sublist), fun c hc => o.cr c (List.mem_filter.mp hc).1⟩
theorem RS.Ok.come {S : RS} (o : S.Ok) {n : Int} (h0 : 0 ≤ n) (h1 : n ≤ 1000000) (hn : n ∉ S.cs.map (·.1)) : (S.come n).Ok := by
  refine ⟨o.nd, o.rg, ?_, fun c hc => ?_⟩
  · show ((S.cs ++ [(n, S.lap)]).map (·.1)).Nodup
    rw [List.map_append, List.nodup_append]
    exact ⟨o.cn, by simp, fun a ha b hb e => hn (by have e2 : b = n := List.mem_singleton.mp hb; rw [← e2, ← e]; exact ha)⟩
  · rcases List.mem_append.mp hc with h | h
    · exact o.cr c h
    · rw [List.mem_singleton.mp h]; exact ⟨h0, h1⟩
theorem RS.Ok.us {S : RS} (o : S.Ok) : S.us.Nodup := by
  have := o.nd
  unfold RS.places at this
  rw [List.append_assoc] at this
  exact (List.nodup_append.mp this).1
theorem RS.Ok.fsn {S : RS} (o : S.Ok) : S.fs.Nodup := (List.nodup_append.mp o.nd).2.1
theorem RS.Ok.take {S : RS} (o : S.Ok) {p : Int} (h : p ∈ S.fs) : (S.take p).Ok := by
  refine o.of ?_ rfl
  have f := filter_out o.fsn h
  unfold RS.places RS.take
  dsimp only
  have : (S.us ++ [p] ++ S.ks.map (·.1) ++ (S.fs.filter fun n => decide (n ≠ p))).Perm (S.us ++ S.ks.map (·.1) ++ (p :: S.fs.filter fun n => decide (n ≠ p))) := by
    rw [List.append_assoc, List.append_assoc, List.append_assoc]
    refine List.Perm.append_left _ ?_
    show (p :: (S.ks.map (·.1) ++ _)).Perm _
    exact (List.perm_middle (a := p)).symm
  exact this.trans (f.append_left _)
theorem RS.Ok.new {S : RS} (o : S.Ok) (h : S.fs = []) : (S.take (S.places.length : Nat)).Ok := by
  have ep : (S.take (S.places.length : Nat)).places.Perm (((S.places.length : Nat) : Int) :: S.places) := by
    unfold RS.places RS.take
    dsimp only
    rw [h, List.filter_nil, List.append_nil, List.append_nil, List.append_assoc]
    exact List.perm_middle
  refine ⟨ep.nodup_iff.mpr (List.nodup_cons.mpr ⟨fun hm => ?_, o.nd⟩), fun q hq => ?_, o.cn, o.cr⟩
  · have := (o.rg _ hm).2
    omega
  · rw [ep.length_eq, List.length_cons]
    rcases List.mem_cons.mp (ep.mem_iff.mp hq) with e | e
    · rw [e]; omega
    · have := o.rg q e
      omega
def Keep (l : List Addr) (H H' : Hp) : Prop := ∀ b o, H b = some o → b ∉ l → H' b = some o
theorem Keep.refl {l : List Addr} {H : Hp} : Keep l H H := fun _ _ h _ => h
theorem Keep.trans {l : List Addr} {H H1 H2 : Hp} (a : Keep l H H1) (b : Keep l H1 H2) : Keep l H H2 := fun c o h n => b c o (a c o h n) n
theorem Keep.mono {l m : List Addr} {H H' : Hp} (a : Keep l H H') (h : ∀ x ∈ l, x ∈ m) : Keep m H H' := fun c o e n => a c o e fun z => n (h c z)
theorem Same.keep {l : List Addr} {H H' : Hp} (a : Same H H') : Keep l H H' := fun b o h _ => a b o h
theorem Keep.upd {l : List Addr} {H H' : Hp} {q : Addr} {o : HO} (a : Keep l H H') (h : q ∈ l) : Keep l H (L2.upd H' q o) := fun b u e n => by rw [upd_ne (fun (z : b = q) => n (by rw [z]; exact h))]; exact a b u e n
theorem Keep.updN {l : List Addr} {H H' : Hp} {q : Addr} {o : HO} (a : Keep l H H') (h : H' q = none) : Keep l H (L2.upd H' q o) := fun b u e n => by rw [upd_ne (ne_of_none (a b u e n) h)]; exact a b u e n
structure IsR (C x dx du dk df dc : Addr) (H : Hp) (S : RS) : Prop where
  x : H x = some (.ins C dx [("in_use", .ref du), ("kept_laps", .ref dk), ("free_ones", .ref df), ("call_laps", .ref dc), ("lap_now", .int S.lap)])
  u : H du = some (.dK (kT S.us))
  k : H dk = some (.dK (kL S.ks))
  f : H df = some (.dK (kT S.fs))
  c : H dc = some (.dK (kL S.cs))
  nd : [du, dk, df, dc].Nodup
theorem IsR.same {C x dx du dk df dc : Addr} {H H' : Hp} {S : RS} (r : IsR C x dx du dk df dc H S) (s : Same H H') : IsR C x dx du dk df dc H' S := ⟨s _ _ r.x, s _ _ r.u, s _ _ r.k, s _ _ r.f, s _ _ r.c, r.nd⟩
theorem IsR.keep {C x dx du dk df dc : Addr} {H H' : Hp} {S : RS} {l : List Addr} (r : IsR C x dx du dk df dc H S) (s : Keep l H H') (n : ∀ b ∈ [x, du, dk, df, dc], b ∉ l) : IsR C x dx du dk df dc H' S :=
  ⟨s _ _ r.x (n _ (by simp)), s _ _ r.u (n _ (by simp)), s _ _ r.k (n _ (by simp)), s _ _ r.f (n _ (by simp)), s _ _ r.c (n _ (by simp)), r.nd⟩
structure RdN (K : PySem.W.Frag) (mg : Str → Option Value) (C f : Addr) (fd : FuncData) : Prop where
  mak : Mk K C f
  fn : Fun K "__init__" "Rounds.__init__" (inClass (top 14) 0) f fd
  bi : Binds K fd ["self"] []
  m : mg "Rounds" = some (.ref C)
  cl : Cls K C
  n1 : NoAttr K C "in_use"
  n2 : NoAttr K C "kept_laps"
  n3 : NoAttr K C "free_ones"
  n4 : NoAttr K C "call_laps"
  n5 : NoAttr K C "lap_now"
end K22
set_option Elab.async false
set_option linter.all false
set_option maxRecDepth 100000
set_option maxHeartbeats 1000000
namespace K22
open PySem L2
theorem Keep.free {l : List Addr} {H H' : Hp} {d : Addr} (k : Keep l H H') (h : H' d = none) (n : d ∉ l) : H d = none := by
  cases c : H d with
  | none => rfl
  | some o => rw [k d o c n] at h; cases h
section
variable {P : Program} {w : World} {K : PySem.W.Frag} {mg : Str → Option Value} {base : Heap}
theorem sc___init__ : FnScope ["self"] ["self"] (defScope (inClass (top 14) 0)) := ⟨rfl, rfl, rfl, by decide +kernel, rfl, by decide +kernel, by decide +kernel⟩
def spInit (C : Addr) : Sp := fun vs H Q _ => ∃ x dx, vs = [.ref x] ∧ H x = some (.ins C dx []) ∧ ∀ du dk df dc H', H du = none → H dk = none → H df = none → H dc = none → IsR C x dx du dk df dc H' ⟨0, [], [], [], []⟩ → Keep [x] H H' → Q .non H'
theorem ok_init {C f : Addr} {fd : FuncData} (R : RdN K mg C f fd) (T : Txt K mg) : FnOk P w K mg base CX0 1 f fd ["self"] (spInit C) := by
  refine R.fn.ok sc___init__ (fun vs H Q E h => ?_) (fun cdv A outer s H vs Q E hr h => ?_)
  · obtain ⟨_, _, rfl, _⟩ := h
    rfl
  · obtain ⟨x, dx, rfl, hx, q⟩ := h
    have sc := sc___init__
    refine ⟨_, (pss_cons (ps_fld (pv 0) pe_dnewK rfl)
    (pss_cons (ps_fld (pv 0) pe_dnewK rfl)
    (pss_cons (ps_fld (pv 0) pe_dnewK rfl)
    (pss_cons (ps_fld (pv 0) pe_dnewK rfl)
    (pss_one (ps_fld (pv 0) pe_int rfl)))))), ?_⟩
    have one : ∀ {H1 : Hp} {d : Addr} {fs fs' : List (Str × V)}, Keep [x] H H1 → H1 x = some (.ins C dx fs) → H1 d = none → H d = none ∧ d ≠ x ∧ Keep [x] H (upd (upd H1 d (.dK [])) x (.ins C dx fs')) ∧ upd (upd H1 d (.dK [])) x (.ins C dx fs') x = some (.ins C dx fs') ∧ upd (upd H1 d (.dK [])) x (.ins C dx fs') d = some (.dK []) ∧ (∀ b, b ≠ x → b ≠ d → upd (upd H1 d (.dK [])) x (.ins C dx fs') b = H1 b) := fun {H1 d fs fs'} k hx1 f1 => by
      have n1 : d ≠ x := (ne_of_none hx1 f1).symm
      exact ⟨k.free f1 (by simp [n1]), n1, (k.updN f1).upd (by simp), upd_same, by rw [upd_ne n1, upd_same], fun b h1 h2 => by rw [upd_ne h1, upd_ne h2]⟩
    intro d1 f1
    refine ⟨_, rfl, x, C, dx, _, rfl, (by rw [upd_ne (ne_of_none hx f1)]; exact hx), R.cl, R.n1, by decide, ?_⟩
    obtain ⟨z1, n1, k1, x1, e1, o1⟩ := one (fs' := putF "in_use" (.ref d1) []) Keep.refl hx f1
    generalize upd (upd H d1 (.dK [])) x _ = H1 at *
    intro d2 f2
    have m21 : d1 ≠ d2 := ne_of_none e1 f2
    refine ⟨_, rfl, x, C, dx, _, rfl, (by rw [upd_ne (ne_of_none x1 f2)]; exact x1), R.cl, R.n2, (by show 1 < 1000; decide), ?_⟩
    obtain ⟨z2, n2, k2, x2, e2, o2⟩ := one (fs' := putF "kept_laps" (.ref d2) (putF "in_use" (.ref d1) [])) k1 x1 f2
    generalize upd (upd H1 d2 (.dK [])) x _ = H2 at *
    replace e1 := (o2 d1 n1 m21).trans e1
    intro d3 f3
    have m31 : d1 ≠ d3 := ne_of_none e1 f3
    have m32 : d2 ≠ d3 := ne_of_none e2 f3
    refine ⟨_, rfl, x, C, dx, _, rfl, (by rw [upd_ne (ne_of_none x2 f3)]; exact x2), R.cl, R.n3, (by show 2 < 1000; decide), ?_⟩
    obtain ⟨z3, n3, k3, x3, e3, o3⟩ := one (fs' := putF "free_ones" (.ref d3) (putF "kept_laps" (.ref d2) (putF "in_use" (.ref d1) []))) k2 x2 f3
    generalize upd (upd H2 d3 (.dK [])) x _ = H3 at *
    replace e1 := (o3 d1 n1 m31).trans e1
    replace e2 := (o3 d2 n2 m32).trans e2
    intro d4 f4
    have m41 : d1 ≠ d4 := ne_of_none e1 f4
    have m42 : d2 ≠ d4 := ne_of_none e2 f4
    have m43 : d3 ≠ d4 := ne_of_none e3 f4
    refine ⟨_, rfl, x, C, dx, _, rfl, (by rw [upd_ne (ne_of_none x3 f4)]; exact x3), R.cl, R.n4, (by show 3 < 1000; decide), ?_⟩
    obtain ⟨z4, n4, k4, x4, e4, o4⟩ := one (fs' := putF "call_laps" (.ref d4) (putF "free_ones" (.ref d3) (putF "kept_laps" (.ref d2) (putF "in_use" (.ref d1) [])))) k3 x3 f4
    generalize upd (upd H3 d4 (.dK [])) x _ = H4 at *
    replace e1 := (o4 d1 n1 m41).trans e1
    replace e2 := (o4 d2 n2 m42).trans e2
    replace e3 := (o4 d3 n3 m43).trans e3
    refine ⟨_, rfl, x, C, dx, _, rfl, x4, R.cl, R.n5, (by show 4 < 1000; decide), ?_⟩
    refine q d1 d2 d3 d4 _ z1 z2 z3 z4 ⟨upd_same, by rw [upd_ne n1]; exact e1, by rw [upd_ne n2]; exact e2, by rw [upd_ne n3]; exact e3, by rw [upd_ne n4]; exact e4, ?_⟩ (k4.upd (by simp))
    simp [m21, m31, m32, m41, m42, m43]
theorem sc_many_places : FnScope ["self"] ["self"] (defScope (inClass (top 14) 10)) := ⟨rfl, rfl, rfl, by decide +kernel, rfl, by decide +kernel, by decide +kernel⟩
def spMany (C : Addr) : Sp := fun vs H Q _ => ∃ (x dx du dk df dc : Addr) (S : RS), vs = [.ref x] ∧ IsR C x dx du dk df dc H S ∧ Q (.int (S.places.length : Nat)) H
theorem ok_many {C f fW : Addr} {fd fdW : FuncData} (hf : Fun K "many_places" "Rounds.many_places" (inClass (top 14) 10) fW fdW) (R : RdN K mg C f fd) (T : Txt K mg) : FnOk P w K mg base CX0 1 fW fdW ["self"] (spMany C) := by
  refine hf.ok sc_many_places (fun vs H Q E h => ?_) (fun cdv A outer s H vs Q E hr h => ?_)
  · obtain ⟨_, _, _, _, _, _, _, rfl, _⟩ := h
    rfl
  · obtain ⟨x, dx, du, dk, df, dc, S, rfl, r, q⟩ := h
    refine ⟨_, (pss_one (ps_ret (pe_op op_add (pe_op op_add (pe_callB call_lenD rfl T.n_len bt_len (pa_c (pe_fld (pv 0) rfl) pa_nil)) (pe_callB call_lenD rfl T.n_len bt_len (pa_c (pe_fld (pv 0) rfl) pa_nil))) (pe_callB call_lenD rfl T.n_len bt_len (pa_c (pe_fld (pv 0) rfl) pa_nil))))), ?_⟩
    refine ⟨_, rfl, x, C, dx, _, _, rfl, r.x, R.cl, R.n1, rfl, du, _, rfl, r.u, _, rfl, x, C, dx, _, _, rfl, r.x, R.cl, R.n2, rfl, dk, _, rfl, r.k, _, _, rfl, rfl, _, rfl, x, C, dx, _, _, rfl, r.x, R.cl, R.n3, rfl, df, _, rfl, r.f, _, _, rfl, rfl, ?_⟩
    rw [kT_len, kL_len, kT_len]
    have e : ((S.places.length : Nat) : Int) = (S.us.length : Int) + (S.ks.length : Int) + (S.fs.length : Int) := by
      unfold RS.places
      simp only [List.length_append, List.length_map]
      omega
    rw [e] at q
    exact q
theorem sc_lap : FnScope ["self"] ["self"] (defScope (inClass (top 14) 11)) := ⟨rfl, rfl, rfl, by decide +kernel, rfl, by decide +kernel, by decide +kernel⟩
def spLap (C : Addr) : Sp := fun vs H Q _ => ∃ (x dx du dk df dc : Addr) (S : RS), vs = [.ref x] ∧ IsR C x dx du dk df dc H S ∧ Q (.int S.lap) H
theorem ok_lap {C f fW : Addr} {fd fdW : FuncData} (hf : Fun K "lap" "Rounds.lap" (inClass (top 14) 11) fW fdW) (R : RdN K mg C f fd) (T : Txt K mg) : FnOk P w K mg base CX0 1 fW fdW ["self"] (spLap C) := by
  refine hf.ok sc_lap (fun vs H Q E h => ?_) (fun cdv A outer s H vs Q E hr h => ?_)
  · obtain ⟨_, _, _, _, _, _, _, rfl, _⟩ := h
    rfl
  · obtain ⟨x, dx, du, dk, df, dc, S, rfl, r, q⟩ := h
    exact ⟨_, (pss_one (ps_ret (pe_fld (pv 0) rfl))), _, rfl, x, C, dx, _, _, rfl, r.x, R.cl, R.n5, rfl, q⟩
theorem sc_used : FnScope ["self"] ["self"] (defScope (inClass (top 14) 12)) := ⟨rfl, rfl, rfl, by decide +kernel, rfl, by decide +kernel, by decide +kernel⟩
theorem sc_free : FnScope ["self"] ["self"] (defScope (inClass (top 14) 14)) := ⟨rfl, rfl, rfl, by decide +kernel, rfl, by decide +kernel, by decide +kernel⟩
def spSorted (C : Addr) (fr : Bool) : Sp := fun vs H Q _ => ∃ (x dx du dk df dc : Addr) (S : RS), vs = [.ref x] ∧ IsR C x dx du dk df dc H S ∧ (if fr then S.fs else S.us).length ≤ 1000 ∧
  ∀ ns : List Int, ns.Perm (if fr then S.fs else S.us) → ns.Pairwise (· ≤ ·) → ∀ l, H l = none → Q (.ref l) (upd H l (.lst (ns.map V.int)))
theorem ok_used {C f fW : Addr} {fd fdW : FuncData} (hf : Fun K "used" "Rounds.used" (inClass (top 14) 12) fW fdW) (R : RdN K mg C f fd) (T : Txt K mg) : FnOk P w K mg base CX0 1 fW fdW ["self"] (spSorted C false) := by
  refine hf.ok sc_used (fun vs H Q E h => ?_) (fun cdv A outer s H vs Q E hr h => ?_)
  · obtain ⟨_, _, _, _, _, _, _, rfl, _⟩ := h
    rfl
  · obtain ⟨x, dx, du, dk, df, dc, S, rfl, r, hl, q⟩ := h
    exact ⟨_, (pss_one (ps_ret (pe_callB (call_sortDB hr.hd) rfl T.n_sorted bt_sorted (pa_c (pe_fld (pv 0) rfl) pa_nil)))), _, rfl, x, C, dx, _, _, rfl, r.x, R.cl, R.n1, rfl, du, _, S.us, rfl, .inl r.u, kT_keys _, hl, q⟩
theorem ok_free {C f fW : Addr} {fd fdW : FuncData} (hf : Fun K "free" "Rounds.free" (inClass (top 14) 14) fW fdW) (R : RdN K mg C f fd) (T : Txt K mg) : FnOk P w K mg base CX0 1 fW fdW ["self"] (spSorted C true) := by
  refine hf.ok sc_free (fun vs H Q E h => ?_) (fun cdv A outer s H vs Q E hr h => ?_)
  · obtain ⟨_, _, _, _, _, _, _, rfl, _⟩ := h
    rfl
  · obtain ⟨x, dx, du, dk, df, dc, S, rfl, r, hl, q⟩ := h
    exact ⟨_, (pss_one (ps_ret (pe_callB (call_sortDB hr.hd) rfl T.n_sorted bt_sorted (pa_c (pe_fld (pv 0) rfl) pa_nil)))), _, rfl, x, C, dx, _, _, rfl, r.x, R.cl, R.n3, rfl, df, _, S.fs, rfl, .inl r.f, kT_keys _, hl, q⟩
theorem sc_kept : FnScope ["self"] ["self"] (defScope (inClass (top 14) 13)) := ⟨rfl, rfl, rfl, by decide +kernel, rfl, by decide +kernel, by decide +kernel⟩
def spPairs (C : Addr) (gs : Bool) : Sp := fun vs H Q _ => ∃ (x dx du dk df dc : Addr) (S : RS), vs = [.ref x] ∧ IsR C x dx du dk df dc H S ∧
  ∀ l (ts : List Addr) H', H l = none → Same H H' → H' l = some (.lst (ts.map V.ref)) → Tups H' ts (if gs then S.cs else S.ks) → Q (.ref l) H'
theorem tups_of {H H' : Hp} {ts : List Addr} {ps : List (Int × Int)} (ln : ts.length = (kL ps).length) (h : ∀ (j : Nat) t k x, ts[j]? = some t → (kL ps)[j]? = some (k, x) → H' t = some (.tup [kV k, x]) ∧ H t = none) : Tups H' ts ps :=
  ⟨by rw [ln, kL_len], fun j t x a b => (h j t _ _ a (kL_at b)).1⟩
theorem ok_kept {C f fW : Addr} {fd fdW : FuncData} (hf : Fun K "kept" "Rounds.kept" (inClass (top 14) 13) fW fdW) (R : RdN K mg C f fd) (T : Txt K mg) : FnOk P w K mg base CX0 1 fW fdW ["self"] (spPairs C false) := by
  refine hf.ok sc_kept (fun vs H Q E h => ?_) (fun cdv A outer s H vs Q E hr h => ?_)
  · obtain ⟨_, _, _, _, _, _, _, rfl, _⟩ := h
    rfl
  · obtain ⟨x, dx, du, dk, df, dc, S, rfl, r, q⟩ := h
    refine ⟨_, (pss_one (ps_ret (pe_callTy (call_listI hr.hd) rfl T.n_list bt_list (pa_c (pe_items (pe_fld (pv 0) rfl)) pa_nil)))), ?_⟩
    refine ⟨_, rfl, x, C, dx, _, _, rfl, r.x, R.cl, R.n2, rfl, dk, _, rfl, r.k, fun v fv => ⟨v, dk, _, rfl, upd_same, .inl (by rw [upd_ne (ne_of_none r.k fv)]; exact r.k), fun l ts H' fl S' el ln tt => ?_⟩⟩
    have S1 := Same.upd (o := ViewI v dk) fv
    exact q l ts H' (S1.free fl) (S1.trans S') el (tups_of ln tt)
theorem sc_is_used : FnScope ["self", "thing"] ["self", "thing"] (defScope (inClass (top 14) 8)) := ⟨rfl, rfl, rfl, by decide +kernel, rfl, by decide +kernel, by decide +kernel⟩
def spIsU (C : Addr) : Sp := fun vs H Q _ => ∃ (x dx du dk df dc : Addr) (S : RS) (p : Int), vs = [.ref x, .int p] ∧ IsR C x dx du dk df dc H S ∧ S.Ok ∧ Q (.bl (decide (p ∈ S.us))) H
theorem ok_isU {C f fW : Addr} {fd fdW : FuncData} (hf : Fun K "is_used" "Rounds.is_used" (inClass (top 14) 8) fW fdW) (R : RdN K mg C f fd) (T : Txt K mg) (h1 : OkD P w K mg base "is_place" s_is_place ["thing"] 2 (spIsP K)) : FnOk P w K mg base CX0 3 fW fdW ["self", "thing"] (spIsU C) := by
  obtain ⟨f1, fd1, Dis_place, Gis_place⟩ := h1
  refine hf.ok sc_is_used (fun vs H Q E h => ?_) (fun cdv A outer s H vs Q E hr h => ?_)
  · obtain ⟨_, _, _, _, _, _, _, _, rfl, _⟩ := h
    rfl
  · obtain ⟨x, dx, du, dk, df, dc, S, p, rfl, r, ok, q⟩ := h
    refine ⟨_, (pss_one (ps_ret (pe_and (pe_call Gis_place (hr.mono (by decide)) rfl Dis_place.m Dis_place.fn.kp Dis_place.b .nil pass0 (pa_c (pv 1) pa_nil)) (pe_one (pe_cmpR (op_inD (hu_of hr)) (pv 1) (pe_fld (pv 0) rfl) (by with_unfolding_all rfl)))))), ?_⟩
    refine ⟨_, rfl, .int p, _, rfl, (DV.int (N := fun _ => False) (H := H) p).thg, _, rfl, ?_⟩
    show if decide (0 ≤ p) = true then _ else _
    by_cases h0 : 0 ≤ p
    · refine iteE (c := true) (decide_eq_true h0) (iteT ⟨_, rfl, _, rfl, x, C, dx, _, _, rfl, r.x, R.cl, R.n1, rfl, du, _, rfl, DGet.k (k := Sum.inl p) r.u, ?_⟩)
      rw [kT_val]
      exact q
    · refine iteE (c := false) (decide_eq_false h0) (iteF ?_)
      have n : p ∉ S.us := fun hm => h0 (ok.rg p (by unfold RS.places; rw [List.append_assoc]; exact List.mem_append_left _ hm)).1
      rw [decide_eq_false n] at q
      exact q
theorem sc_is_past : FnScope ["self", "lap"] ["self", "lap"] (defScope (inClass (top 14) 6)) := ⟨rfl, rfl, rfl, by decide +kernel, rfl, by decide +kernel, by decide +kernel⟩
def spPast (C : Addr) : Sp := fun vs H Q _ => ∃ (x dx du dk df dc : Addr) (lp l : Int) (cs : List (Int × Int)), vs = [.ref x, .int l] ∧ H x = some (.ins C dx [("in_use", .ref du), ("kept_laps", .ref dk), ("free_ones", .ref df), ("call_laps", .ref dc), ("lap_now", .int lp)]) ∧ H dc = some (.dK (kL cs)) ∧ cs.length ≤ 1000 ∧
  ∀ H', Same H H' → Q (.bl (past cs l)) H'
theorem ok_past {C f fW : Addr} {fd fdW : FuncData} (hf : Fun K "is_past" "Rounds.is_past" (inClass (top 14) 6) fW fdW) (R : RdN K mg C f fd) (T : Txt K mg) : FnOk P w K mg base CX0 1 fW fdW ["self", "lap"] (spPast C) := by
  refine hf.ok sc_is_past (fun vs H Q E h => ?_) (fun cdv A outer s H vs Q E hr h => ?_)
  · obtain ⟨_, _, _, _, _, _, _, _, _, rfl, _⟩ := h
    rfl
  · obtain ⟨x, dx, du, dk, df, dc, lp, l, cs, rfl, hx, hc, few, q⟩ := h
    have sc := sc_is_past
    refine' ⟨_, (pss_one (ps_ret (pe_callB (call_allB hr.hd) rfl T.n_all bt_all (pa_c (pe_thaw (pe_comp (blk_mk ["lap"] [1]) rfl (pi_vals (pe_fld (pv 0) rfl)) (fun _ _ _ _ _ => PTs.nil) (fun _ _ _ _ _ => (pe_cmpR op_gt (pv 0) (pv 1) (nomark _))))) pa_nil)))), ?_⟩
    refine tret1 (tcb1 (comp_vals (fun R' r => ⟨_, rfl, x, C, dx, _, _, rfl, hx, R.cl, R.n4, rfl, r⟩) hc few (fun z => .bl (decide (l < z))) (fun c _ H2 R' _ r => ⟨_, rfl, _, rfl, _, _, rfl, rfl, r H2 (Same.refl _)⟩) fun d H2 fl S2 e2 => ?_))
    refine ⟨d, cs.map (fun c => decide (l < c.2)), rfl, by rw [e2, List.map_map]; rfl, ?_⟩
    have e : (cs.map fun c => decide (l < c.2)).all id = past cs l := by unfold past; rw [List.all_map]; rfl
    rw [e]
    exact q _ S2
end
end K22
set_option Elab.async false
set_option linter.all false
set_option maxRecDepth 100000
set_option maxHeartbeats 1000000
namespace K22
open PySem L2
def RS.moved (S : RS) : List Int := (S.ks.filter fun k => past S.cs k.2).map (·.1)
theorem RS.Ok.ksn {S : RS} (o : S.Ok) : (S.ks.map (·.1)).Nodup := by
  have := o.nd
  unfold RS.places at this
  rw [List.append_assoc] at this
  exact (List.nodup_append.mp (List.nodup_append.mp this).2.1).1
theorem RS.Ok.kf {S : RS} (o : S.Ok) {p : Int} (h : p ∈ S.ks.map (·.1)) : p ∉ S.fs := fun hf => by
  have := (List.nodup_append.mp o.nd).2.2 p (List.mem_append_right _ h) p hf
  exact this rfl
theorem RS.Ok.uk {S : RS} (o : S.Ok) {p : Int} (h : p ∈ S.us) : p ∉ S.ks.map (·.1) := fun hk => by
  have := o.nd
  unfold RS.places at this
  rw [List.append_assoc] at this
  exact (List.nodup_append.mp this).2.2 p h p (List.mem_append_left _ hk) rfl
theorem RS.Ok.uf {S : RS} (o : S.Ok) {p : Int} (h : p ∈ S.us) : p ∉ S.fs := fun hk => by
  have := o.nd
  unfold RS.places at this
  rw [List.append_assoc] at this
  exact (List.nodup_append.mp this).2.2 p h p (List.mem_append_right _ hk) rfl
theorem RS.moved_sub (S : RS) {p : Int} (h : p ∈ S.moved) : p ∈ S.ks.map (·.1) := by
  unfold RS.moved at h
  obtain ⟨k, hk, rfl⟩ := List.mem_map.mp h
  exact List.mem_map.mpr ⟨k, (List.mem_filter.mp hk).1, rfl⟩
theorem RS.Ok.mvn {S : RS} (o : S.Ok) : S.moved.Nodup := o.ksn.sublist (List.Sublist.map _ List.filter_sublist)
theorem fst_inj {ks : List (Int × Int)} (nd : (ks.map (·.1)).Nodup) {a b : Int × Int} (ha : a ∈ ks) (hb : b ∈ ks) (e : a.1 = b.1) : a = b := by
  induction ks with
  | nil => cases ha
  | cons x xs ih =>
    rw [List.map_cons] at nd
    obtain ⟨n1, n2⟩ := List.nodup_cons.mp nd
    rcases List.mem_cons.mp ha with rfl | ha'
    · rcases List.mem_cons.mp hb with rfl | hb'
      · rfl
      · exact absurd (List.mem_map.mpr ⟨b, hb', e.symm⟩) n1
    · rcases List.mem_cons.mp hb with rfl | hb'
      · exact absurd (List.mem_map.mpr ⟨a, ha', e⟩) n1
      · exact ih n2 ha' hb'
theorem RS.Ok.stay {S : RS} (o : S.Ok) : (S.ks.filter fun k => decide (k.1 ∉ S.moved)) = S.ks.filter fun k => !past S.cs k.2 := by
  refine List.filter_congr fun k hk => ?_
  cases c : past S.cs k.2 with
  | true =>
    have : k.1 ∈ S.moved := List.mem_map.mpr ⟨k, List.mem_filter.mpr ⟨hk, c⟩, rfl⟩
    rw [decide_eq_false (fun z => z this)]
    rfl
  | false =>
    rw [decide_eq_true]
    · rfl
    · intro hm
      obtain ⟨k', hk', e⟩ := List.mem_map.mp hm
      obtain ⟨h1, h2⟩ := List.mem_filter.mp hk'
      rw [fst_inj o.ksn h1 hk e, c] at h2
      cases h2
theorem filter_take {ks : List (Int × Int)} {ms : List Int} {i : Nat} {m : Int} (h : ms[i]? = some m) : ((ks.filter fun k => decide (k.1 ∉ ms.take i)).filter fun k => decide (k.1 ≠ m)) = ks.filter fun k => decide (k.1 ∉ ms.take (i + 1)) := by
  rw [List.filter_filter]
  refine List.filter_congr fun k _ => ?_
  rw [List.take_add_one, h]
  by_cases h1 : k.1 = m
  · have hm : k.1 ∈ ms.take i ++ [m] := List.mem_append_right _ (List.mem_singleton.mpr h1)
    rw [decide_eq_false (fun z => z h1), Bool.false_and]
    exact (decide_eq_false fun z => z hm).symm
  · rw [decide_eq_true (show k.1 ≠ m from h1), Bool.true_and]
    refine decide_eq_decide.mpr ⟨fun z hm => ?_, fun z hm => z (List.mem_append_left _ hm)⟩
    rcases List.mem_append.mp hm with q | q
    · exact z q
    · exact h1 (List.mem_singleton.mp q)
theorem not_take {ms : List Int} (nd : ms.Nodup) {i : Nat} {m : Int} (h : ms[i]? = some m) : m ∉ ms.take i := fun hm => by
  obtain ⟨hi, e⟩ := List.getElem?_eq_some_iff.mp h
  obtain ⟨j, hj, ej⟩ := List.getElem_of_mem hm
  rw [List.length_take] at hj
  rw [List.getElem_take] at ej
  have := (List.getElem_inj nd).mp (ej.trans e.symm)
  omega
section
variable {P : Program} {w : World} {K : PySem.W.Frag} {mg : Str → Option Value} {base : Heap}
theorem sc_release : FnScope ["self", "past", "place"] ["self"] (defScope (inClass (top 14) 5)) := ⟨rfl, rfl, rfl, by decide +kernel, rfl, by decide +kernel, by decide +kernel⟩
def spRel (C : Addr) : Sp := fun vs H Q _ => ∃ (x dx du dk df dc : Addr) (S : RS), vs = [.ref x] ∧ IsR C x dx du dk df dc H S ∧ S.Ok ∧ S.places.length ≤ 500 ∧ S.cs.length ≤ 500 ∧
  ∀ H', IsR C x dx du dk df dc H' S.rel → Keep [dk, df] H H' → Q .non H'
theorem ok_rel {C f fW : Addr} {fd fdW : FuncData} (hf : Fun K "release" "Rounds.release" (inClass (top 14) 5) fW fdW) (R : RdN K mg C f fd) (T : Txt K mg) (m1 : MtOk P w K mg base CX0 C "is_past" ["self", "lap"] 1 (spPast C)) : FnOk P w K mg base CX0 3 fW fdW ["self"] (spRel C) := by
  obtain ⟨fp, fdp, Me_is_past, B_is_past, G_is_past⟩ := m1
  have CL := R.cl
  refine hf.ok sc_release (fun vs H Q E h => ?_) (fun cdv A outer s H vs Q E hr h => ?_)
  · obtain ⟨_, _, _, _, _, _, _, rfl, _⟩ := h
    rfl
  · obtain ⟨x, dx, du, dk, df, dc, S, rfl, r, ok, few, fewc, q⟩ := h
    have sc := sc_release
    have big := big1000
    have nd := r.nd
    simp only [List.nodup_cons, List.mem_cons, List.not_mem_nil, or_false, not_or] at nd
    obtain ⟨⟨n1, n2, n3⟩, ⟨n4, n5⟩, n6, _⟩ := nd
    have lk : S.ks.length ≤ 500 := by
      unfold RS.places at few
      simp only [List.length_append, List.length_map] at few
      omega
    have lf : S.fs.length + S.ks.length ≤ 500 := by
      unfold RS.places at few
      simp only [List.length_append, List.length_map] at few
      omega
    refine' ⟨_, (pss_cons (ps_thaw (ps_setComp22 (i := 1) (blk_mk2 ["self"] [0]) rfl (pi_items (pe_fld (pv 0) rfl)) (fun _ _ _ _ _ => (PTs.one (pt_val (pe_meth (pv 2) CL Me_is_past G_is_past (hr.mono (by decide)) B_is_past .nil pass0 (pa_c (pv 1) pa_nil))))) (fun _ _ _ _ _ => (pv 0)) sc.nd rfl rfl))
    (pss_one (ps_for PassesOwn.never rfl (pi_list (pv 1)) (pg_name (i := 2) sc.nd rfl (Or.inl rfl))
      (pss_cons (ps_expr (pe_dpop1 (pe_fld (pv 0) rfl) (pv 2) ⟨rfl, rfl, rfl, rfl⟩))
    (pss_one (ps_dput (hu_of hr) (pe_fld (pv 0) rfl) (pv 2) pe_bl rfl)))))), ?_⟩
    refine tseq1 (tsth1 (comp_items (fun R' z => ⟨_, rfl, x, C, dx, _, _, rfl, r.x, R.cl, R.n2, rfl, z⟩) r.k (by omega) (fun k => past S.cs k.2) (fun k => .int k.1) ?hc ?he fun D H1 fD S1 eD => ?_))
    case hc =>
      intro k hk H2 R' kb z
      have hx2 := kb _ _ r.x (ne_of r.x r.k (fun z => nomatch z))
      refine ⟨_, rfl, x, dx, _, rfl, hx2, rfl, _, rfl, ?_⟩
      dsimp only [tNil, List.append_nil]
      exact ⟨x, dx, du, dk, df, dc, S.lap, k.2, S.cs, rfl, hx2, kb _ _ r.c (Ne.symm n5), by omega, fun H3 S3 => ⟨_, rfl, z H3 S3⟩⟩
    case he => exact fun k hk _ H2 R' kb z => ⟨_, rfl, z H2 (Same.refl _)⟩
    have eD' : H1 D = some (.lst (S.moved.map V.int)) := by rw [eD]; unfold RS.moved; rw [List.map_map]; rfl
    have r1 := r.same S1
    have nDk : D ≠ dk := (ne_of_none r.k fD).symm
    have nDf : D ≠ df := (ne_of_none r.f fD).symm
    dsimp only [gName, tNext]
    refine ⟨_, rfl, D, rfl, ⟨_, SqL.of eD'⟩, for_list (xs := S.moved.map V.int) (fun i σ H2 => (∃ o2, σ = [some (.ref x), some (.ref D), o2]) ∧ IsR C x dx du dk df dc H2 { S with ks := S.ks.filter (fun k => decide (k.1 ∉ S.moved.take i)), fs := S.fs ++ S.moved.take i } ∧ Keep [dk, df] H H2 ∧ H2 D = some (.lst (S.moved.map V.int))) ⟨⟨_, rfl⟩, ⟨r1.x, r1.u, ?_, ?_, r1.c, r1.nd⟩, K22.Same.keep S1, eD'⟩ (fun i σ H2 _ ⟨_, _, _, e⟩ => SqL.of e) ?_ ?_⟩
    · rw [List.take_zero, List.filter_eq_self.mpr (fun k _ => decide_eq_true (by simp))]
      exact r1.k
    · rw [List.take_zero, List.append_nil]
      exact r1.f
    · rintro i v σ H2 hi ⟨⟨o2, rfl⟩, r2, k2, e2⟩
      rw [List.getElem?_map] at hi
      obtain ⟨m, hm, rfl⟩ := Option.map_eq_some_iff.mp hi
      have mk : m ∈ S.ks.map (·.1) := S.moved_sub (List.mem_of_getElem? hm)
      have nt := not_take ok.mvn hm
      have mi : m ∈ (S.ks.filter fun k => decide (k.1 ∉ S.moved.take i)).map (·.1) := by
        obtain ⟨k, hk, rfl⟩ := List.mem_map.mp mk
        exact List.mem_map.mpr ⟨k, List.mem_filter.mpr ⟨hk, decide_eq_true nt⟩, rfl⟩
      obtain ⟨v, ev⟩ := kL_some mi
      refine ⟨_, rfl, x, C, dx, _, _, rfl, r2.x, R.cl, R.n2, rfl, dk, rfl, .inl ⟨_, .inl r2.k⟩, _, rfl, _, Sum.inl m, v, r2.k, rfl, ev, ?_⟩
      rw [kL_drop, filter_take hm]
      have nxk : x ≠ dk := ne_of r2.x r2.k (fun z => nomatch z)
      have nxf : x ≠ df := ne_of r2.x r2.f (fun z => nomatch z)
      have hf3 : upd H2 dk (.dK (kL (S.ks.filter fun k => decide (k.1 ∉ S.moved.take (i + 1))))) df = some (.dK (kT (S.fs ++ S.moved.take i))) := by rw [upd_ne (Ne.symm n4)]; exact r2.f
      have hx3 : upd H2 dk (.dK (kL (S.ks.filter fun k => decide (k.1 ∉ S.moved.take (i + 1))))) x = some (.ins C dx [("in_use", .ref du), ("kept_laps", .ref dk), ("free_ones", .ref df), ("call_laps", .ref dc), ("lap_now", .int S.lap)]) := by rw [upd_ne nxk]; exact r2.x
      have ml : S.moved.length ≤ S.ks.length := by unfold RS.moved; rw [List.length_map]; exact List.length_filter_le _ _
      refine ⟨_, rfl, x, C, dx, _, _, rfl, hx3, R.cl, R.n3, rfl, _, rfl, df, _, rfl, DPut.k (k := Sum.inl m) hf3 (by rw [kT_len, List.length_append, List.length_take]; omega), ?_⟩
      have nf : m ∉ S.fs ++ S.moved.take i := fun z => by
        rcases List.mem_append.mp z with z | z
        · exact ok.kf mk z
        · exact nt z
      rw [kT_put nf]
      have ta : S.fs ++ S.moved.take i ++ [m] = S.fs ++ S.moved.take (i + 1) := by rw [List.append_assoc, List.take_add_one, hm]; rfl
      rw [ta]
      refine ⟨⟨_, rfl⟩, ⟨by rw [upd_ne nxf]; exact hx3, by rw [upd_ne n2, upd_ne n1]; exact r2.u, by rw [upd_ne n4, upd_same], upd_same, by rw [upd_ne (Ne.symm n6), upd_ne (Ne.symm n5)]; exact r2.c, r2.nd⟩, (k2.upd (by simp)).upd (by simp), by rw [upd_ne nDf, upd_ne nDk]; exact e2⟩
    · rintro σ H2 ⟨⟨o2, rfl⟩, r2, k2, e2⟩
      refine q H2 ?_ k2
      rw [List.length_map, List.take_length, ok.stay] at r2
      exact r2
theorem sc_given : FnScope ["self", "place"] ["self"] (defScope (inClass (top 14) 1)) := ⟨rfl, rfl, rfl, by decide +kernel, rfl, by decide +kernel, by decide +kernel⟩
def spGiven (C : Addr) : Sp := fun vs H Q _ => ∃ (x dx du dk df dc : Addr) (S : RS), vs = [.ref x] ∧ IsR C x dx du dk df dc H S ∧ S.Ok ∧ S.places.length ≤ 500 ∧
  ∀ (p : Int) H', (S.fs = [] ∧ p = (S.places.length : Nat) ∨ p ∈ S.fs ∧ ∀ n ∈ S.fs, p ≤ n) → IsR C x dx du dk df dc H' (S.take p) → Keep [du, df] H H' → Q (.int p) H'
theorem ok_given {C f fW : Addr} {fd fdW : FuncData} (hf : Fun K "given" "Rounds.given" (inClass (top 14) 1) fW fdW) (R : RdN K mg C f fd) (T : Txt K mg) (m1 : MtOk P w K mg base CX0 C "many_places" ["self"] 1 (spMany C)) : FnOk P w K mg base CX0 3 fW fdW ["self"] (spGiven C) := by
  obtain ⟨fp, fdp, Me_many_places, B_many_places, G_many_places⟩ := m1
  have CL := R.cl
  refine hf.ok sc_given (fun vs H Q E h => ?_) (fun cdv A outer s H vs Q E hr h => ?_)
  · obtain ⟨_, _, _, _, _, _, _, rfl, _⟩ := h
    rfl
  · obtain ⟨x, dx, du, dk, df, dc, S, rfl, r, ok, few, q⟩ := h
    have sc := sc_given
    have big := big1000
    have nd := r.nd
    simp only [List.nodup_cons, List.mem_cons, List.not_mem_nil, or_false, not_or] at nd
    obtain ⟨⟨n1, n2, n3⟩, ⟨n4, n5⟩, n6, _⟩ := nd
    have lu : S.us.length ≤ 500 := by
      unfold RS.places at few
      simp only [List.length_append, List.length_map] at few
      omega
    refine' ⟨_, (pss_cons (ps_set (i := 1) sc.nd rfl (Or.inl rfl) (pe_meth0 (pv 0) CL Me_many_places G_many_places (hr.mono (by decide)) B_many_places .nil pass0))
    (pss_cons (ps_if (pt_truth (pe_fld (pv 0) rfl) (fun _ => rfl))
      (pss_cons (ps_set (i := 1) sc.nd rfl (Or.inl rfl) (pe_callB (call_minD hr.hd) rfl T.n_min bt_min (pa_c (pe_fld (pv 0) rfl) pa_nil)))
    (pss_one (ps_expr (pe_dpop1 (pe_fld (pv 0) rfl) (pv 1) ⟨rfl, rfl, rfl, rfl⟩))))
      pss_nil)
    (pss_cons (ps_dput (hu_of hr) (pe_fld (pv 0) rfl) (pv 1) pe_bl rfl)
    (pss_one (ps_ret (pv 1)))))), ?_⟩
    refine ⟨_, rfl, x, dx, _, rfl, r.x, rfl, x, dx, du, dk, df, dc, S, rfl, r, ?_⟩
    dsimp only [gName, tNext]
    have nxu : x ≠ du := ne_of r.x r.u (fun z => nomatch z)
    have nxf : x ≠ df := ne_of r.x r.f (fun z => nomatch z)
    refine seq2 (fun σ H1 => ∃ p : Int, σ = [some (.ref x), some (.int p)] ∧ (S.fs = [] ∧ p = (S.places.length : Nat) ∨ p ∈ S.fs ∧ ∀ n ∈ S.fs, p ≤ n) ∧ IsR C x dx du dk df dc H1 { S with fs := S.fs.filter fun n => decide (n ≠ p) } ∧ Keep [du, df] H H1) ?s1 ?r1
    case s1 =>
      intro N z
      refine ⟨_, rfl, x, C, dx, _, _, rfl, r.x, R.cl, R.n3, rfl, _, .inr (.inr ⟨_, r.f, rfl⟩), ?_⟩
      by_cases he : S.fs = []
      · refine iteE (c := false) (by rw [he]; rfl) (iteF (z _ _ ⟨_, rfl, .inl ⟨he, rfl⟩, ?_, Keep.refl⟩))
        have e2 : (S.fs.filter fun n => decide (n ≠ ((S.places.length : Nat) : Int))) = S.fs := by rw [he]; rfl
        rw [e2]
        exact r
      · refine iteE (c := true) ?_ (iteT ?_)
        · cases hc : S.fs with
          | nil => exact absurd hc he
          | cons a as => rfl
        refine ⟨_, rfl, x, C, dx, _, _, rfl, r.x, R.cl, R.n3, rfl, df, _, S.fs, rfl, .inl r.f, kT_keys _, he, fun m hm mn => ?_⟩
        dsimp only [gName, tNext]
        obtain ⟨v, ev⟩ := kT_some hm
        refine ⟨_, rfl, x, C, dx, _, _, rfl, r.x, R.cl, R.n3, rfl, df, rfl, .inl ⟨_, .inl r.f⟩, _, rfl, _, Sum.inl m, v, r.f, rfl, ev, ?_⟩
        rw [kT_drop]
        exact z _ _ ⟨m, rfl, .inr ⟨hm, mn⟩, ⟨by rw [upd_ne nxf]; exact r.x, by rw [upd_ne n2]; exact r.u, by rw [upd_ne n4]; exact r.k, upd_same, by rw [upd_ne (Ne.symm n6)]; exact r.c, r.nd⟩, Keep.refl.upd (by simp)⟩
    case r1 =>
    rintro _ H1 ⟨p, rfl, hp, r1, k1⟩
    have np : p ∉ S.us := fun hu => by
      rcases hp with ⟨_, rfl⟩ | ⟨h1, _⟩
      · have := (ok.rg _ (by unfold RS.places; rw [List.append_assoc]; exact List.mem_append_left _ hu)).2
        omega
      · exact ok.uf hu h1
    refine ⟨_, rfl, x, C, dx, _, _, rfl, r1.x, R.cl, R.n1, rfl, _, rfl, du, _, rfl, DPut.k (k := Sum.inl p) r1.u (by rw [kT_len]; show S.us.length < _; omega), ?_⟩
    have e3 : putK (kT S.us) (Sum.inl p) (V.bl true) = kT (S.us ++ [p]) := kT_put np
    refine ⟨_, rfl, q p _ hp ⟨by rw [upd_ne nxu]; exact r1.x, by rw [upd_same]; exact congrArg (fun z => some (HO.dK z)) e3, by rw [upd_ne (Ne.symm n1)]; exact r1.k, by rw [upd_ne (Ne.symm n2)]; exact r1.f, by rw [upd_ne (Ne.symm n3)]; exact r1.c, r1.nd⟩ (k1.upd (by simp))⟩
end
end K22
set_option Elab.async false
set_option linter.all false
set_option maxRecDepth 100000
set_option maxHeartbeats 1000000
namespace K22
open PySem L2
theorem RS.gone_len {S : RS} (o : S.Ok) {p : Int} (h : p ∈ S.us) : (S.gone p).places.length = S.places.length := (RS.gone_perm o h).length_eq
section
variable {P : Program} {w : World} {K : PySem.W.Frag} {mg : Str → Option Value} {base : Heap}
theorem sc_went : FnScope ["self", "place"] ["self", "place"] (defScope (inClass (top 14) 2)) := ⟨rfl, rfl, rfl, by decide +kernel, rfl, by decide +kernel, by decide +kernel⟩
def spWent (C cE : Addr) : Sp := fun vs H Q E => ∃ (x dx du dk df dc : Addr) (S : RS) (p : Int), vs = [.ref x, .int p] ∧ IsR C x dx du dk df dc H S ∧ S.Ok ∧ S.places.length ≤ 500 ∧ S.cs.length ≤ 500 ∧
  (p ∈ S.us → ∀ H', IsR C x dx du dk df dc H' (S.gone p).rel → Keep [x, du, dk, df] H H' → Q .non H') ∧ (p ∉ S.us → ∀ e H', H e = none → Same H H' → Err cE "found" (.int p) H' e → E (.ref e) none H')
theorem ok_went {C f fW cE TT fI : Addr} {fd fdW fdI : FuncData} (hf : Fun K "went" "Rounds.went" (inClass (top 14) 2) fW fdW) (R : RdN K mg C f fd) (T : Txt K mg) (xNoPlace : ErN K mg "NoPlace" "NoPlace.__init__" (inClass (top 3) 0) "found" cE TT fI fdI)
    (m1 : MtOk P w K mg base CX0 C "is_used" ["self", "thing"] 3 (spIsU C)) (m2 : MtOk P w K mg base CX0 C "release" ["self"] 3 (spRel C)) : FnOk P w K mg base (CXo P w) 5 fW fdW ["self", "place"] (spWent C cE) := by
  obtain ⟨f1, fd1, Me_is_used, B_is_used, G_is_used⟩ := m1
  obtain ⟨f2, fd2, Me_release, B_release, G_release⟩ := m2
  have GNoPlace : FnOk P w K mg base CX0 1 fI fdI ["self", "found"] (spErr cE "found") := ok_NoPlace xNoPlace
  have CL := R.cl
  refine Fun_okX hf sc_went (fun vs H Q E h => ?_) (fun cdv A outer s H vs Q E hr h => ?_)
  · obtain ⟨_, _, _, _, _, _, _, _, rfl, _⟩ := h
    rfl
  · obtain ⟨x, dx, du, dk, df, dc, S, p, rfl, r, ok, few, fewc, q1, q2⟩ := h
    have sc := sc_went
    have big := big1000
    have nd := r.nd
    simp only [List.nodup_cons, List.mem_cons, List.not_mem_nil, or_false, not_or] at nd
    obtain ⟨⟨n1, n2, n3⟩, ⟨n4, n5⟩, n6, _⟩ := nd
    have lk : S.ks.length ≤ 500 := by
      unfold RS.places at few
      simp only [List.length_append, List.length_map] at few
      omega
    refine' ⟨_, (pss_cons (ps_if (pt_not (pt_val (pe_meth (pv 0) CL Me_is_used G_is_used (hr.mono (by decide)) B_is_used .nil pass0 (pa_c (pv 1) pa_nil))))
      (pss_one (ps_raise outs_def rfl (pe_exc xNoPlace.f GNoPlace (hr.mono (by decide)) rfl xNoPlace.mC xNoPlace.bi (pa_c (pv 1) pa_nil))))
      pss_nil)
    (pss_cons (ps_expr (pe_dpop1 (pe_fld (pv 0) rfl) (pv 1) ⟨rfl, rfl, rfl, rfl⟩))
    (pss_cons (ps_dput (hu_of hr) (pe_fld (pv 0) rfl) (pv 1) (pe_fld (pv 0) rfl) rfl)
    (pss_cons (ps_fldaug (pv 0) pe_int in_add)
    (pss_one (ps_expr (pe_meth0 (pv 0) CL Me_release G_release (hr.mono (by decide)) B_release .nil pass0))))))), ?_⟩
    refine ⟨_, rfl, x, dx, _, rfl, r.x, rfl, _, rfl, ?_⟩
    dsimp only [tNil, List.append_nil]
    refine ⟨x, dx, du, dk, df, dc, S, p, rfl, r, ok, _, rfl, ?_⟩
    by_cases hp : p ∈ S.us
    · rw [decide_eq_true hp]
      refine iteF ?_
      obtain ⟨v, ev⟩ := kT_some hp
      refine ⟨_, rfl, x, C, dx, _, _, rfl, r.x, R.cl, R.n1, rfl, du, rfl, .inl ⟨_, .inl r.u⟩, _, rfl, _, Sum.inl p, v, r.u, rfl, ev, ?_⟩
      rw [kT_drop]
      have nxu : x ≠ du := ne_of r.x r.u (fun z => nomatch z)
      have nxk : x ≠ dk := ne_of r.x r.k (fun z => nomatch z)
      have hx1 : upd H du (.dK (kT (S.us.filter fun n => decide (n ≠ p)))) x = some (.ins C dx [("in_use", .ref du), ("kept_laps", .ref dk), ("free_ones", .ref df), ("call_laps", .ref dc), ("lap_now", .int S.lap)]) := by rw [upd_ne nxu]; exact r.x
      have hu1 := upd_same (H := H) (a := du) (o := .dK (kT (S.us.filter fun n => decide (n ≠ p))))
      have hk1 : upd H du (.dK (kT (S.us.filter fun n => decide (n ≠ p)))) dk = some (.dK (kL S.ks)) := by rw [upd_ne (Ne.symm n1)]; exact r.k
      have hf1 : upd H du (.dK (kT (S.us.filter fun n => decide (n ≠ p)))) df = some (.dK (kT S.fs)) := by rw [upd_ne (Ne.symm n2)]; exact r.f
      have hc1 : upd H du (.dK (kT (S.us.filter fun n => decide (n ≠ p)))) dc = some (.dK (kL S.cs)) := by rw [upd_ne (Ne.symm n3)]; exact r.c
      have k1 : Keep [x, du, dk, df] H (upd H du (.dK (kT (S.us.filter fun n => decide (n ≠ p))))) := Keep.refl.upd (by simp)
      generalize upd H du _ = H1 at *
      refine ⟨_, rfl, x, C, dx, _, _, rfl, hx1, R.cl, R.n5, rfl, _, rfl, x, C, dx, _, _, rfl, hx1, R.cl, R.n2, rfl, _, rfl, dk, _, rfl, DPut.k (k := Sum.inl p) hk1 (by rw [kL_len]; omega), ?_⟩
      rw [kL_put (ok.uk hp)]
      have hx2 : upd H1 dk (.dK (kL (S.ks ++ [(p, S.lap)]))) x = some (.ins C dx [("in_use", .ref du), ("kept_laps", .ref dk), ("free_ones", .ref df), ("call_laps", .ref dc), ("lap_now", .int S.lap)]) := by rw [upd_ne nxk]; exact hx1
      have hk2 := upd_same (H := H1) (a := dk) (o := .dK (kL (S.ks ++ [(p, S.lap)])))
      have hu2 : upd H1 dk (.dK (kL (S.ks ++ [(p, S.lap)]))) du = some (.dK (kT (S.us.filter fun n => decide (n ≠ p)))) := by rw [upd_ne n1]; exact hu1
      have hf2 : upd H1 dk (.dK (kL (S.ks ++ [(p, S.lap)]))) df = some (.dK (kT S.fs)) := by rw [upd_ne (Ne.symm n4)]; exact hf1
      have hc2 : upd H1 dk (.dK (kL (S.ks ++ [(p, S.lap)]))) dc = some (.dK (kL S.cs)) := by rw [upd_ne (Ne.symm n5)]; exact hc1
      have k2 : Keep [x, du, dk, df] H (upd H1 dk (.dK (kL (S.ks ++ [(p, S.lap)])))) := k1.upd (by simp)
      generalize upd H1 dk _ = H2 at *
      refine ⟨_, rfl, x, C, dx, _, _, rfl, hx2, R.cl, R.n5, rfl, _, _, rfl, rfl, dx, _, hx2, (by show 5 < 1000; decide), ?_⟩
      have nux : du ≠ x := Ne.symm nxu
      have nkx : dk ≠ x := Ne.symm nxk
      have nfx : df ≠ x := (ne_of hx2 hf2 (fun z => nomatch z)).symm
      have ncx : dc ≠ x := (ne_of hx2 hc2 (fun z => nomatch z)).symm
      have r3 : IsR C x dx du dk df dc (upd H2 x (.ins C dx (putF "lap_now" (.int (S.lap + 1)) [("in_use", .ref du), ("kept_laps", .ref dk), ("free_ones", .ref df), ("call_laps", .ref dc), ("lap_now", .int S.lap)]))) (S.gone p) :=
        ⟨upd_same, by rw [upd_ne nux]; exact hu2, by rw [upd_ne nkx]; exact hk2, by rw [upd_ne nfx]; exact hf2, by rw [upd_ne ncx]; exact hc2, r.nd⟩
      have k3 : Keep [x, du, dk, df] H (upd H2 x (.ins C dx (putF "lap_now" (.int (S.lap + 1)) [("in_use", .ref du), ("kept_laps", .ref dk), ("free_ones", .ref df), ("call_laps", .ref dc), ("lap_now", .int S.lap)]))) := k2.upd (by simp)
      generalize upd H2 x _ = H3 at *
      refine ⟨_, rfl, x, dx, _, rfl, r3.x, rfl, x, dx, du, dk, df, dc, S.gone p, rfl, r3, ok.gone hp, by rw [RS.gone_len ok hp]; exact few, fewc, fun H4 r4 k4 => ?_⟩
      exact q1 hp H4 r4 (k3.trans (k4.mono (by simp)))
    · rw [decide_eq_false hp]
      exact iteT (raise_err xNoPlace (v := .int p) (fun R r => ⟨_, rfl, r⟩) fun e H' he S' r' => q2 hp e H' he S' r')
theorem sc_enter : FnScope ["self", "number"] ["self", "number"] (defScope (inClass (top 14) 3)) := ⟨rfl, rfl, rfl, by decide +kernel, rfl, by decide +kernel, by decide +kernel⟩
def spEnter (C cD cT : Addr) : Sp := fun vs H Q E => ∃ (x dx du dk df dc : Addr) (S : RS) (n : Int), vs = [.ref x, .int n] ∧ IsR C x dx du dk df dc H S ∧ S.cs.length ≤ 500 ∧
  (0 ≤ n → n ≤ 1000000 → n ∉ S.cs.map (·.1) → ∀ H', IsR C x dx du dk df dc H' (S.come n) → Keep [dc] H H' → Q .non H') ∧
  (¬ (0 ≤ n ∧ n ≤ 1000000) → ∀ e H', H e = none → Same H H' → Err cD "found" (.int n) H' e → E (.ref e) none H') ∧
  (0 ≤ n → n ≤ 1000000 → n ∈ S.cs.map (·.1) → ∀ e H', H e = none → Same H H' → Err cT "found" (.int n) H' e → E (.ref e) none H')
theorem cnt_in {n : Int} (h0 : 0 ≤ n) (h1 : n ≤ 1000000) : cntV (.int n) = true := by
  show (decide (0 ≤ n) && decide (n ≤ 1000000)) = true
  rw [decide_eq_true h0, decide_eq_true h1]
  rfl
theorem cnt_out {n : Int} (h : ¬ (0 ≤ n ∧ n ≤ 1000000)) : cntV (.int n) = false := by
  cases c : cntV (.int n) with
  | false => rfl
  | true =>
    have c' : (decide (0 ≤ n) && decide (n ≤ 1000000)) = true := c
    rw [Bool.and_eq_true] at c'
    exact absurd ⟨of_decide_eq_true c'.1, of_decide_eq_true c'.2⟩ h
theorem ok_enter {C f fW cD cT TT fI fI2 : Addr} {fd fdW fdI fdI2 : FuncData} (hf : Fun K "enter" "Rounds.enter" (inClass (top 14) 3) fW fdW) (R : RdN K mg C f fd) (T : Txt K mg) (xNoDoer : ErN K mg "NoDoer" "NoDoer.__init__" (inClass (top 4) 0) "found" cD TT fI fdI) (xTwice : ErN K mg "Twice" "Twice.__init__" (inClass (top 5) 0) "found" cT TT fI2 fdI2)
    (h1 : OkD P w K mg base "is_doer" s_is_doer ["thing"] 4 (spIsC K)) : FnOk P w K mg base (CXo P w) 6 fW fdW ["self", "number"] (spEnter C cD cT) := by
  obtain ⟨f1, fd1, Dis_doer, Gis_doer⟩ := h1
  have GNoDoer : FnOk P w K mg base CX0 1 fI fdI ["self", "found"] (spErr cD "found") := ok_NoDoer xNoDoer
  have GTwice : FnOk P w K mg base CX0 1 fI2 fdI2 ["self", "found"] (spErr cT "found") := ok_Twice xTwice
  refine Fun_okX hf sc_enter (fun vs H Q E h => ?_) (fun cdv A outer s H vs Q E hr h => ?_)
  · obtain ⟨_, _, _, _, _, _, _, _, rfl, _⟩ := h
    rfl
  · obtain ⟨x, dx, du, dk, df, dc, S, n, rfl, r, few, q1, q2, q3⟩ := h
    have sc := sc_enter
    have big := big1000
    have nd := r.nd
    simp only [List.nodup_cons, List.mem_cons, List.not_mem_nil, or_false, not_or] at nd
    obtain ⟨⟨n1, n2, n3⟩, ⟨n4, n5⟩, n6, _⟩ := nd
    refine' ⟨_, (pss_cons (ps_if (pt_not (pt_val (pe_call Gis_doer (hr.mono (by decide)) rfl Dis_doer.m Dis_doer.fn.kp Dis_doer.b .nil pass0 (pa_c (pv 1) pa_nil))))
      (pss_one (ps_raise outs_def rfl (pe_exc xNoDoer.f GNoDoer (hr.mono (by decide)) rfl xNoDoer.mC xNoDoer.bi (pa_c (pv 1) pa_nil))))
      pss_nil)
    (pss_cons (ps_if (pt_cmpR (op_inD (hu_of hr)) (pv 1) (pe_fld (pv 0) rfl) (by with_unfolding_all rfl))
      (pss_one (ps_raise outs_def rfl (pe_exc xTwice.f GTwice (hr.mono (by decide)) rfl xTwice.mC xTwice.bi (pa_c (pv 1) pa_nil))))
      pss_nil)
    (pss_one (ps_dput (hu_of hr) (pe_fld (pv 0) rfl) (pv 1) (pe_fld (pv 0) rfl) rfl)))), ?_⟩
    refine ⟨_, rfl, .int n, _, rfl, (DV.int (N := fun _ => False) (H := H) n).thg, _, rfl, ?_⟩
    by_cases hr0 : 0 ≤ n ∧ n ≤ 1000000
    · rw [cnt_in hr0.1 hr0.2]
      refine iteF ⟨_, rfl, _, rfl, x, C, dx, _, _, rfl, r.x, R.cl, R.n4, rfl, dc, _, rfl, DGet.k (k := Sum.inl n) r.c, _, rfl, ?_⟩
      rw [kL_val]
      by_cases hm : n ∈ S.cs.map (·.1)
      · rw [decide_eq_true hm]
        exact iteT (raise_err xTwice (v := .int n) (fun R r => ⟨_, rfl, r⟩) fun e H' he S' r' => q3 hr0.1 hr0.2 hm e H' he S' r')
      · rw [decide_eq_false hm]
        refine iteF ⟨_, rfl, x, C, dx, _, _, rfl, r.x, R.cl, R.n5, rfl, _, rfl, x, C, dx, _, _, rfl, r.x, R.cl, R.n4, rfl, _, rfl, dc, _, rfl, DPut.k (k := Sum.inl n) r.c (by rw [kL_len]; omega), ?_⟩
        rw [kL_put hm]
        refine q1 hr0.1 hr0.2 hm _ ⟨by rw [upd_ne (ne_of r.x r.c (fun z => nomatch z))]; exact r.x, by rw [upd_ne n3]; exact r.u, by rw [upd_ne n5]; exact r.k, by rw [upd_ne n6]; exact r.f, upd_same, r.nd⟩ (Keep.refl.upd (by simp))
    · rw [cnt_out hr0]
      exact iteT (raise_err xNoDoer (v := .int n) (fun R r => ⟨_, rfl, r⟩) fun e H' he S' r' => q2 hr0 e H' he S' r')
theorem sc_leave : FnScope ["self", "number"] ["self", "number"] (defScope (inClass (top 14) 4)) := ⟨rfl, rfl, rfl, by decide +kernel, rfl, by decide +kernel, by decide +kernel⟩
def spLeave (C cD : Addr) : Sp := fun vs H Q E => ∃ (x dx du dk df dc : Addr) (S : RS) (n : Int), vs = [.ref x, .int n] ∧ IsR C x dx du dk df dc H S ∧ S.Ok ∧ S.places.length ≤ 500 ∧ S.cs.length ≤ 500 ∧
  (n ∈ S.cs.map (·.1) → ∀ H', IsR C x dx du dk df dc H' (S.left n).rel → Keep [dk, df, dc] H H' → Q .non H') ∧
  (n ∉ S.cs.map (·.1) → ∀ e H', H e = none → Same H H' → Err cD "found" (.int n) H' e → E (.ref e) none H')
theorem ok_leave {C f fW cD TT fI : Addr} {fd fdW fdI : FuncData} (hf : Fun K "leave" "Rounds.leave" (inClass (top 14) 4) fW fdW) (R : RdN K mg C f fd) (T : Txt K mg) (xNoDoer : ErN K mg "NoDoer" "NoDoer.__init__" (inClass (top 4) 0) "found" cD TT fI fdI)
    (h1 : OkD P w K mg base "is_doer" s_is_doer ["thing"] 4 (spIsC K)) (m2 : MtOk P w K mg base CX0 C "release" ["self"] 3 (spRel C)) : FnOk P w K mg base (CXo P w) 6 fW fdW ["self", "number"] (spLeave C cD) := by
  obtain ⟨f1, fd1, Dis_doer, Gis_doer⟩ := h1
  obtain ⟨f2, fd2, Me_release, B_release, G_release⟩ := m2
  have CL := R.cl
  have GNoDoer : FnOk P w K mg base CX0 1 fI fdI ["self", "found"] (spErr cD "found") := ok_NoDoer xNoDoer
  refine Fun_okX hf sc_leave (fun vs H Q E h => ?_) (fun cdv A outer s H vs Q E hr h => ?_)
  · obtain ⟨_, _, _, _, _, _, _, _, rfl, _⟩ := h
    rfl
  · obtain ⟨x, dx, du, dk, df, dc, S, n, rfl, r, ok, few, fewc, q1, q2⟩ := h
    have sc := sc_leave
    have big := big1000
    have nd := r.nd
    simp only [List.nodup_cons, List.mem_cons, List.not_mem_nil, or_false, not_or] at nd
    obtain ⟨⟨n1, n2, n3⟩, ⟨n4, n5⟩, n6, _⟩ := nd
    refine' ⟨_, (pss_cons (ps_if (PW.pt (pw_or (pt_not (pt_val (pe_call Gis_doer (hr.mono (by decide)) rfl Dis_doer.m Dis_doer.fn.kp Dis_doer.b .nil pass0 (pa_c (pv 1) pa_nil)))) (pw_or1 (pt_cmpR (op_notInD (hu_of hr)) (pv 1) (pe_fld (pv 0) rfl) (by with_unfolding_all rfl)))))
      (pss_one (ps_raise outs_def rfl (pe_exc xNoDoer.f GNoDoer (hr.mono (by decide)) rfl xNoDoer.mC xNoDoer.bi (pa_c (pv 1) pa_nil))))
      pss_nil)
    (pss_cons (ps_expr (pe_dpop1 (pe_fld (pv 0) rfl) (pv 1) ⟨rfl, rfl, rfl, rfl⟩))
    (pss_one (ps_expr (pe_meth0 (pv 0) CL Me_release G_release (hr.mono (by decide)) B_release .nil pass0))))), ?_⟩
    refine ⟨_, rfl, .int n, _, rfl, (DV.int (N := fun _ => False) (H := H) n).thg, _, rfl, ?_⟩
    by_cases hm : n ∈ S.cs.map (·.1)
    · obtain ⟨c0, hc0, e0⟩ := List.mem_map.mp hm
      have hr0 := ok.cr c0 hc0
      rw [e0] at hr0
      rw [cnt_in hr0.1 hr0.2]
      refine iteF ⟨_, rfl, _, rfl, x, C, dx, _, _, rfl, r.x, R.cl, R.n4, rfl, dc, _, rfl, DGet.k (k := Sum.inl n) r.c, _, rfl, ?_⟩
      rw [kL_val, decide_eq_true hm]
      refine iteF ?_
      obtain ⟨v, ev⟩ := kL_some hm
      refine ⟨_, rfl, x, C, dx, _, _, rfl, r.x, R.cl, R.n4, rfl, dc, rfl, .inl ⟨_, .inl r.c⟩, _, rfl, _, Sum.inl n, v, r.c, rfl, ev, ?_⟩
      rw [kL_drop]
      have r1 : IsR C x dx du dk df dc (upd H dc (.dK (kL (S.cs.filter fun x => decide (x.1 ≠ n))))) (S.left n) := ⟨by rw [upd_ne (ne_of r.x r.c (fun z => nomatch z))]; exact r.x, by rw [upd_ne n3]; exact r.u, by rw [upd_ne n5]; exact r.k, by rw [upd_ne n6]; exact r.f, upd_same, r.nd⟩
      have k1 : Keep [dk, df, dc] H (upd H dc (.dK (kL (S.cs.filter fun x => decide (x.1 ≠ n))))) := Keep.refl.upd (by simp)
      generalize upd H dc _ = H1 at *
      refine ⟨_, rfl, x, dx, _, rfl, r1.x, rfl, x, dx, du, dk, df, dc, S.left n, rfl, r1, ok.left n, few, ?_, fun H4 r4 k4 => ?_⟩
      · exact Nat.le_trans (List.length_filter_le _ _) fewc
      · exact q1 hm H4 r4 (k1.trans (k4.mono (by simp)))
    · have go : ∀ {D : Ends} {σ : St}, σ = start ["self", "number"] [.ref x, .int n] → tRaise K E (tEx cD (spErr cD "found") (tCons (tVar 1) tNil)) D σ H := fun {D σ} e => raise_err xNoDoer (v := .int n) (fun R r => ⟨_, (by rw [e]; rfl), r⟩) fun e H' he S' r' => q2 hm e H' he S' r'
      by_cases hr0 : 0 ≤ n ∧ n ≤ 1000000
      · rw [cnt_in hr0.1 hr0.2]
        refine iteF ⟨_, rfl, _, rfl, x, C, dx, _, _, rfl, r.x, R.cl, R.n4, rfl, dc, _, rfl, DGet.k (k := Sum.inl n) r.c, _, rfl, ?_⟩
        rw [kL_val, decide_eq_false hm]
        exact iteT (go rfl)
      · rw [cnt_out hr0]
        exact iteT (iteT (go rfl))
end
end K22
set_option Elab.async false
set_option linter.all false
set_option maxRecDepth 100000
set_option maxHeartbeats 1000000
namespace K22
open PySem L2
theorem op_eqLK {X : Cx} {K : PySem.W.Frag} (e : X.K = K) (hu : X.A.units < cLine) : OpR X (compareOp .Eq) (rEqL K false) := by subst e; exact op_eqL hu
theorem op_neLK {X : Cx} {K : PySem.W.Frag} (e : X.K = K) (hu : X.A.units < cLine) : OpR X (compareOp .NotEq) (rEqL K true) := by subst e; exact op_neL hu
def kW (ws : List (Int × Addr)) : List (Key × V) := ws.map fun w => ((Sum.inl w.1 : Key), V.ref w.2)
theorem kW_keys (ws : List (Int × Addr)) : (kW ws).map (·.1) = (ws.map (·.1)).map Sum.inl := by unfold kW; rw [List.map_map, List.map_map]; rfl
theorem it_keys {H1 : Hp} {d : Addr} {o : Obj} {ws : List (Int × Addr)} (hd : H1 d = some (.frz o (.dK (kW ws)))) : ∀ i H2, Same H1 H2 →
    (i < ((ws.map (·.1)).map V.int).length → (Itk d o (kW ws)).go i H2) ∧ (∀ v H3, (Itk d o (kW ws)).yld i H2 v H3 → i < ((ws.map (·.1)).map V.int).length → H3 = H2 ∧ ((ws.map (·.1)).map V.int)[i]? = some v) ∧ (((ws.map (·.1)).map V.int).length ≤ i → (Itk d o (kW ws)).stop i H2) := fun i H2 S => by
  have l : ((ws.map (·.1)).map V.int).length = (kW ws).length := by unfold kW; rw [List.length_map, List.length_map, List.length_map]
  refine ⟨fun hi => ⟨S _ _ hd, by rw [← l]; exact hi⟩, fun v H3 y _ => ?_, fun hi => ⟨S _ _ hd, by rw [← l]; exact hi⟩⟩
  obtain ⟨e, k, x, ek, ev⟩ := y
  refine ⟨e, ?_⟩
  unfold kW at ek
  rw [List.getElem?_map] at ek
  obtain ⟨w, hw, e2⟩ := Option.map_eq_some_iff.mp ek
  cases e2
  rw [ev, List.getElem?_map, List.getElem?_map, hw]
  rfl
theorem filt_int {p : Int → Bool} {g : V → Bool} (h : ∀ i, g (.int i) = p i) : ∀ ns : List Int, (ns.map V.int).filter g = (ns.filter p).map V.int
  | [] => rfl
  | n :: ns => by
    rw [List.map_cons]
    cases c : p n with
    | true => rw [List.filter_cons_of_pos (by rw [h]; exact c), List.filter_cons_of_pos c, List.map_cons, filt_int h ns]
    | false => rw [List.filter_cons_of_neg (by rw [h, c]; exact Bool.false_ne_true), List.filter_cons_of_neg (by rw [c]; exact Bool.false_ne_true), filt_int h ns]
def onI (p : Int → Bool) (v : V) : Bool := match v with | .int i => p i | _ => false
theorem comp_keys {js : List Nat} {tc : TT} {te to : TE} {σ : St} {H : Hp} {Q : VK} {d : Addr} {ws : List (Int × Addr)} (hto : ∀ R : VK, R (.ref d) H → to σ H R) (hd : H d = some (.dK (kW ws))) (hz : ws.length ≤ 1000) (p : Int → Bool)
    (hc : ∀ w ∈ ws, ∀ ob H2 (R : Bool → Hp → Prop), KB d H H2 → H2 d = some (.frz ob (.dK (kW ws))) → (∀ H3, Same H2 H3 → R (p w.1) H3) → tc (blkSt js σ (some (.int w.1))) H2 R)
    (he : ∀ w ∈ ws, ∀ H2 (R : VK), (∀ H3, Same H2 H3 → R (.int w.1) H3) → te (blkSt js σ (some (.int w.1))) H2 R)
    (q : ∀ l H', H l = none → Same H H' → H' l = some (.lst (((ws.map (·.1)).filter p).map V.int)) → Q (.ref l) H') : tThaw (tComp js (iKeys to) tc te) σ H Q := by
  refine ⟨d, _, hd, (fun _ _ z => nomatch z), hto _ ⟨d, kW ws, rfl, hd, fun ob D hD => ?_⟩⟩
  have kb : ∀ {H2 : Hp}, Same (upd H d (.frz ob (.dK (kW ws)))) H2 → KB d H H2 := fun S b o z n => S _ _ (by rw [upd_ne n]; exact z)
  refine comp_pure (js := js) (tc := tc) (te := te) (σ := σ) (Q := fun x H1 => ∃ o kvs, H1 d = some (.frz o (.dK kvs)) ∧ Q x (upd H1 d (.dK kvs))) ((ws.map (·.1)).map V.int) (onI p) (fun v => v) (it_keys upd_same) ?_ ?_ (by rw [List.length_map, List.length_map]; omega) ?_ D hD
  · intro v hv H2 R' S2 r
    obtain ⟨n, hn, rfl⟩ := List.mem_map.mp hv
    obtain ⟨w, hw, rfl⟩ := List.mem_map.mp hn
    exact hc w hw ob H2 R' (kb S2) (S2 _ _ upd_same) r
  · intro v hv _ H2 R' S2 r
    obtain ⟨n, hn, rfl⟩ := List.mem_map.mp hv
    obtain ⟨w, hw, rfl⟩ := List.mem_map.mp hn
    exact he w hw H2 R' r
  intro l H2 fl S2 e2
  have e3 := S2 _ _ (upd_same (H := H) (a := d) (o := .frz ob (.dK (kW ws))))
  rw [List.map_id', filt_int (p := p) (fun i => rfl)] at e2
  refine ⟨ob, kW ws, e3, q l _ ?_ (fun b o z => ?_) ?_⟩
  · cases c : H l with
    | none => rfl
    | some o =>
      by_cases hb : l = d
      · subst hb; rw [upd_same] at fl; cases fl
      · rw [upd_ne hb, c] at fl; cases fl
  · by_cases hb : b = d
    · subst hb
      rw [hd] at z
      cases z
      exact upd_same
    · rw [upd_ne hb]
      exact kb S2 b o z hb
  · rw [upd_ne (ne_of e2 e3 (fun z => nomatch z)), e2]
end K22
set_option Elab.async false
set_option linter.all false
set_option maxRecDepth 100000
set_option maxHeartbeats 1000000
namespace K22
open PySem L2
theorem putK_set {kvs : List (Key × V)} {k : Key} {v : V} : ∀ {j : Nat}, (kvs.map (·.1)).Nodup → (kvs.map (·.1))[j]? = some k → putK kvs k v = kvs.set j (k, v) := by
  intro j nd h
  have any : (kvs.any fun kv => decide (kv.1 = k)) = true := by
    rw [List.any_eq_true]
    obtain ⟨x, hx, e⟩ := List.mem_map.mp (List.mem_of_getElem? h)
    exact ⟨x, hx, decide_eq_true e⟩
  unfold putK
  rw [if_pos any]
  clear any
  induction kvs generalizing j with
  | nil => cases h
  | cons x xs ih =>
    rw [List.map_cons] at nd h
    obtain ⟨n1, n2⟩ := List.nodup_cons.mp nd
    cases j with
    | zero =>
      have e : x.1 = k := Option.some.inj h
      rw [List.map_cons, if_pos e, List.set_cons_zero, e]
      congr 1
      have : ∀ y ∈ xs, (if y.1 = k then (y.1, v) else y) = y := fun y hy => if_neg fun z => n1 (List.mem_map.mpr ⟨y, hy, by rw [z, e]⟩)
      exact (List.map_congr_left this).trans (List.map_id' xs)
    | succ j =>
      have h' : (xs.map (·.1))[j]? = some k := h
      have ne : ¬ x.1 = k := fun z => n1 (by rw [z]; exact List.mem_of_getElem? h')
      rw [List.map_cons, if_neg ne, List.set_cons_succ, ih n2 h']
theorem valV_get {kvs : List (Key × V)} {k : Key} {v : V} : ∀ {j : Nat}, (kvs.map (·.1)).Nodup → kvs[j]? = some (k, v) → valV kvs k = some v := by
  induction kvs with
  | nil => intro j _ h; cases h
  | cons x xs ih =>
    intro j nd h
    rw [List.map_cons] at nd
    obtain ⟨n1, n2⟩ := List.nodup_cons.mp nd
    cases j with
    | zero =>
      have e : x = (k, v) := Option.some.inj h
      subst e
      exact valV_pos rfl
    | succ j =>
      have h' : xs[j]? = some (k, v) := h
      rw [valV_neg (fun z => n1 (List.mem_map.mpr ⟨(k, v), List.mem_of_getElem? h', z.symm⟩))]
      exact ih n2 h'
theorem kW_val {ws : List (Int × Addr)} (nd : (ws.map (·.1)).Nodup) {v : Int × Addr} (hv : v ∈ ws) : valV (kW ws) (Sum.inl v.1) = some (.ref v.2) := by
  obtain ⟨j, hj, e⟩ := List.getElem_of_mem hv
  refine valV_get (j := j) ?_ ?_
  · rw [kW_keys]
    exact List.Pairwise.map _ (fun a b n e => n (Sum.inl.inj e)) nd
  · unfold kW
    rw [List.getElem?_map, List.getElem?_eq_getElem hj, e]
    rfl
theorem nil_map {ns : List Int} : decide (ns.map V.int = []) = decide (ns = []) := by cases ns <;> simp
def upZ (n : Nat) : List Int := (List.range n).map fun (i : Nat) => (i : Int)
theorem upZ_len (n : Nat) : (upZ n).length = n := by unfold upZ; rw [List.length_map, List.length_range]
theorem upZ_get {n i : Nat} (h : i < n) : (upZ n)[i]? = some (i : Int) := by unfold upZ; rw [List.getElem?_map, List.getElem?_range h]; rfl
theorem sorted_all {ns : List Int} (so : ns.Pairwise (· ≤ ·)) (nd : ns.Nodup) (rg : ∀ p ∈ ns, 0 ≤ p ∧ p < (ns.length : Nat)) : ns = upZ ns.length := by
  have lt : ∀ i j (hi : i < ns.length) (hj : j < ns.length), i < j → ns[i] < ns[j] := fun i j hi hj hij => by
    have h1 := List.pairwise_iff_getElem.mp so i j hi hj hij
    have h2 : ns[i] ≠ ns[j] := fun e => by
      have := (List.getElem_inj (h₀ := hi) (h₁ := hj) nd).mp e
      omega
    omega
  have lo : ∀ i (hi : i < ns.length), (i : Int) ≤ ns[i] := by
    intro i
    induction i with
    | zero => intro hi; exact (rg _ (List.getElem_mem hi)).1
    | succ i ih =>
      intro hi
      have := ih (by omega)
      have := lt i (i + 1) (by omega) hi (by omega)
      omega
  have hi' : ∀ d i (hi : i < ns.length), i + d + 1 = ns.length → ns[i] ≤ (i : Int) := by
    intro d
    induction d with
    | zero =>
      intro i hi e
      have := (rg _ (List.getElem_mem hi)).2
      omega
    | succ d ih =>
      intro i hi e
      have := ih (i + 1) (by omega) (by omega)
      have := lt i (i + 1) hi (by omega) (by omega)
      omega
  apply List.ext_getElem?
  intro i
  by_cases h : i < ns.length
  · rw [upZ_get h, List.getElem?_eq_getElem h]
    have h1 := lo i h
    have h2 := hi' (ns.length - 1 - i) i h (by omega)
    exact congrArg some (by omega)
  · rw [List.getElem?_eq_none (by omega), List.getElem?_eq_none (by rw [upZ_len]; omega)]
theorem sort_eq {a b c : List Int} (p1 : a.Perm c) (s1 : a.Pairwise (· ≤ ·)) (p2 : b.Perm c) (s2 : b.Pairwise (· ≤ ·)) : a = b := List.Perm.eq_of_pairwise (fun x y _ _ h1 h2 => Int.le_antisymm h1 h2) s1 s2 (p1.trans p2.symm)
structure Ad where
  x : Addr
  dx : Addr
  du : Addr
  dk : Addr
  df : Addr
  dc : Addr
  wd : Addr
  lu : Addr
  lg : Addr
  lo : Addr
structure Ag (S : RS) (ws : List (Int × Addr)) (f : Int → List Int) (m : Nat) : Prop where
  ok : S.Ok
  wn : (ws.map (·.1)).Perm (S.ks.map (·.1) ++ S.fs)
  wk : ∀ k ∈ S.ks, f k.1 = (S.cs.filter fun c => decide (c.2 ≤ k.2)).map (·.1)
  wf : ∀ p ∈ S.fs, f p = []
  np : ∀ k ∈ S.ks, past S.cs k.2 = false
  cl : ∀ c ∈ S.cs, c.2 ≤ S.lap
  kl : ∀ k ∈ S.ks, k.2 < S.lap
  b1 : S.places.length ≤ m
  b2 : S.cs.length ≤ m
structure Hse (C : Addr) (A : Ad) (H : Hp) (S : RS) (ws : List (Int × Addr)) (f : Int → List Int) (m : Nat) : Prop where
  r : IsR C A.x A.dx A.du A.dk A.df A.dc H S
  w : H A.wd = some (.dK (kW ws))
  wl : ∀ w ∈ ws, H w.2 = some (.lst ((f w.1).map V.int)) ∧ w.2 ≠ A.lu ∧ w.2 ≠ A.lg ∧ w.2 ≠ A.lo
  u : H A.lu = some (.lst (S.us.map V.int))
  g : H A.lg = some (.lst ((upZ S.places.length).map V.int))
  o : H A.lo = some (.lst ((S.cs.map (·.1)).map V.int))
  n1 : A.lu ≠ A.lg
  n2 : A.lu ≠ A.lo
  n3 : A.lg ≠ A.lo
  nw : A.wd ≠ A.du ∧ A.wd ≠ A.dk ∧ A.wd ≠ A.df ∧ A.wd ≠ A.dc
  a : Ag S ws f m
theorem Hse.same {C : Addr} {A : Ad} {H H' : Hp} {S : RS} {ws : List (Int × Addr)} {f : Int → List Int} {m : Nat} (h : Hse C A H S ws f m) (s : Same H H') : Hse C A H' S ws f m :=
  ⟨h.r.same s, s _ _ h.w, fun w hw => ⟨s _ _ (h.wl w hw).1, (h.wl w hw).2⟩, s _ _ h.u, s _ _ h.g, s _ _ h.o, h.n1, h.n2, h.n3, h.nw, h.a⟩
theorem RS.len (S : RS) : S.places.length = S.us.length + S.ks.length + S.fs.length := by unfold RS.places; rw [List.length_append, List.length_append, List.length_map]
theorem Ag.held {S : RS} {ws : List (Int × Addr)} {f : Int → List Int} {m : Nat} (a : Ag S ws f m) : ((ws.map (·.1)).filter fun p => !decide (f p = [])).Perm (S.ks.map (·.1)) := by
  refine (a.wn.filter _).trans ?_
  rw [List.filter_append]
  have e1 : (S.ks.map (·.1)).filter (fun p => !decide (f p = [])) = S.ks.map (·.1) := List.filter_eq_self.mpr fun p hp => by
    obtain ⟨k, hk, rfl⟩ := List.mem_map.mp hp
    have n := a.np k hk
    unfold past at n
    have : ∃ c ∈ S.cs, ¬ k.2 < c.2 := by
      rw [List.all_eq_false] at n
      obtain ⟨c, hc, e⟩ := n
      exact ⟨c, hc, fun z => e (decide_eq_true z)⟩
    obtain ⟨c, hc, nc⟩ := this
    have ne : f k.1 ≠ [] := fun e => by
      rw [a.wk k hk] at e
      have hm : c ∈ S.cs.filter fun c => decide (c.2 ≤ k.2) := List.mem_filter.mpr ⟨hc, decide_eq_true (by omega)⟩
      rw [List.map_eq_nil_iff.mp e] at hm
      cases hm
    rw [decide_eq_false ne]
    rfl
  have e2 : S.fs.filter (fun p => !decide (f p = [])) = [] := List.filter_eq_nil_iff.mpr fun p hp => by
    rw [decide_eq_true (a.wf p hp)]
    exact Bool.false_ne_true
  rw [e1, e2, List.append_nil]
theorem Ag.let {S : RS} {ws : List (Int × Addr)} {f : Int → List Int} {m : Nat} (a : Ag S ws f m) : ((ws.map (·.1)).filter fun p => decide (f p = [])).Perm S.fs := by
  have h := a.held
  have t := (perm_filter (fun p => decide (f p = [])) (ws.map (·.1))).trans a.wn
  have t2 : ((ws.map (·.1)).filter (fun p => decide (f p = [])) ++ S.ks.map (·.1)).Perm (S.fs ++ S.ks.map (·.1)) := ((h.symm).append_left _).trans (t.trans List.perm_append_comm)
  exact (List.perm_append_right_iff _).mp t2
theorem comp_listH {K : PySem.W.Frag} {js : List Nat} {tc : TT} {te to : TE} {σ : St} {H : Hp} {Q : VK} {ps : List (Int × Int)} (hto : ∀ R : VK, (∀ l (ts : List Addr) H1, H l = none → Same H H1 → H1 l = some (.lst (ts.map V.ref)) → Tups H1 ts ps → R (.ref l) H1) → to σ H R) (hz : ps.length ≤ 1000) (p : Int × Int → Bool) (g : Int × Int → V)
    (hc : ∀ x ∈ ps, ∀ H2 (R : Bool → Hp → Prop), (∀ H3, Same H2 H3 → R (p x) H3) → tc (blkSt2 js σ (some (.int x.1)) (some (.int x.2))) H2 R)
    (he : ∀ x ∈ ps, p x = true → ∀ H2 (R : VK), (∀ H3, Same H2 H3 → R (g x) H3) → te (blkSt2 js σ (some (.int x.1)) (some (.int x.2))) H2 R)
    (q : ∀ d H', H d = none → Same H H' → H' d = some (.lst ((ps.filter p).map g)) → Q (.ref d) H') : tComp2 K js (iList K to) tc te σ H Q :=
  hto _ fun l ts H1 fl S1 el tt => ⟨l, rfl, ⟨_, SqL.of el⟩, fun D hD => comp2_pure (K := K) (js := js) (tc := tc) (te := te) (σ := σ) (Q := Q) ps p g (it_prs el tt) (fun x hx H2 R _ z => hc x hx H2 R z) (fun x hx hp H2 R _ z => he x hx hp H2 R z) (by omega) (fun d H2 fd S2 e => q d H2 (S1.free fd) (S1.trans S2) e) D hD⟩
theorem okI {xs ys : List Int} : okPs (xs.map V.int) (ys.map V.int) := fun _ j a b ha hb => by
  rw [List.getElem?_map] at ha hb
  obtain ⟨i, _, rfl⟩ := Option.map_eq_some_iff.mp ha
  obtain ⟨k, _, rfl⟩ := Option.map_eq_some_iff.mp hb
  exact .inr ⟨rfl, rfl⟩
section
variable {P : Program} {w : World} {K : PySem.W.Frag} {mg : Str → Option Value} {base : Heap}
abbrev s__law_told_right : Stmt := top 19
theorem sc__law_told_right : FnScope ["_law_rounds", "_law_watched", "_law_used", "_law_given", "_law_kept", "_law_free"] ["_law_rounds", "_law_watched", "_law_used", "_law_given"] (defScope s__law_told_right) := ⟨rfl, rfl, rfl, by decide +kernel, rfl, by decide +kernel, by decide +kernel⟩
def spTR (C : Addr) : Sp := fun vs H Q _ => ∃ (A : Ad) (S : RS) (ws : List (Int × Addr)) (f : Int → List Int) (m : Nat), vs = [.ref A.x, .ref A.wd, .ref A.lu, .ref A.lg] ∧ Hse C A H S ws f m ∧ m ≤ 200 ∧ ∀ H', Same H H' → Q (.bl true) H'
theorem ok_tr {C f : Addr} {fd : FuncData} (hd : ∃ f fd, Dn K mg "_law_told_right" "_law_told_right" s__law_told_right ["_law_rounds", "_law_watched", "_law_used", "_law_given"] f fd) (R : RdN K mg C f fd) (T : Txt K mg)
    (m1 : MtOk P w K mg base CX0 C "used" ["self"] 1 (spSorted C false)) (m2 : MtOk P w K mg base CX0 C "kept" ["self"] 1 (spPairs C false)) (m3 : MtOk P w K mg base CX0 C "free" ["self"] 1 (spSorted C true)) : OkD P w K mg base "_law_told_right" s__law_told_right ["_law_rounds", "_law_watched", "_law_used", "_law_given"] 3 (spTR C) := by
  obtain ⟨f0, fd0, D⟩ := hd
  obtain ⟨f1, fd1, Me_used, B_used, G_used⟩ := m1
  obtain ⟨f2, fd2, Me_kept, B_kept, G_kept⟩ := m2
  obtain ⟨f3, fd3, Me_free, B_free, G_free⟩ := m3
  have CL := R.cl
  refine ⟨f0, fd0, D, D.fn.ok sc__law_told_right (fun vs H Q E h => ?_) (fun cdv AA outer s H vs Q E hr h => ?_)⟩
  · obtain ⟨_, _, _, _, _, rfl, _⟩ := h
    rfl
  · obtain ⟨A, S, ws, f, m, rfl, h, hm, q⟩ := h
    have sc := sc__law_told_right
    have hu := hr.units0
    have big := big1000
    have a := h.a
    have b1 := a.b1
    rw [RS.len] at b1
    have b2 := a.b2
    have wl := a.wn.length_eq
    rw [List.length_map, List.length_append, List.length_map] at wl
    refine' ⟨_, (pss_cons (ps_setComp22 (i := 4) (blk_mk2 [] []) rfl (pi_list (pe_meth0 (pv 0) CL Me_kept G_kept (hr.mono (by decide)) B_kept .nil pass0)) (fun _ _ _ _ _ => PTs.nil) (fun _ _ _ _ _ => (pv 0)) sc.nd rfl rfl)
    (pss_cons (ps_set (i := 5) sc.nd rfl (Or.inl rfl) (pe_meth0 (pv 0) CL Me_free G_free (hr.mono (by decide)) B_free .nil pass0))
    (pss_cons (ps_if (PW.pt (pw_or (pt_cmpR (op_neL hu) (pe_callB call_sortLB rfl T.n_sorted bt_sorted (pa_c (pe_op op_cat (pe_op op_cat (pe_meth0 (pv 0) CL Me_used G_used (hr.mono (by decide)) B_used .nil pass0) (pv 4)) (pv 5)) pa_nil)) (pv 3) (nomark _)) (pw_or1 (pt_cmpR (op_neL hu) (pe_callB call_sortLB rfl T.n_sorted bt_sorted (pa_c (pv 2) pa_nil)) (pe_meth0 (pv 0) CL Me_used G_used (hr.mono (by decide)) B_used .nil pass0) (nomark _)))))
      (pss_one (ps_ret pe_bl))
      pss_nil)
    (pss_one (ps_ret (pe_cmpR (op_eqL hu) (pe_callB call_sortLB rfl T.n_sorted bt_sorted (pa_c (pv 4) pa_nil)) (pe_callB call_sortLB rfl T.n_sorted bt_sorted (pa_c (pe_thaw (pe_comp (blk_mk ["_law_watched"] [1]) rfl (pi_keys (pv 1)) (fun _ _ _ _ _ => (PTs.one (pt_cmpR (op_neLK (K := K) rfl hu) (pe_dget (hu_of hr) (pv 1) (pv 0) (fun _ _ => rfl)) (pe_lst pa_nil) (nomark _)))) (fun _ _ _ _ _ => (pv 0)))) pa_nil)) (nomark _))))))), ?_⟩
    refine tseq1 (tasg1 (comp_listH (ps := S.ks) (fun R z => ⟨_, rfl, A.x, A.dx, _, rfl, h.r.x, rfl, A.x, A.dx, A.du, A.dk, A.df, A.dc, S, rfl, h.r, fun l ts H1 fl S1 el tt => z l ts H1 fl S1 el (by rw [if_neg Bool.false_ne_true] at tt; exact tt)⟩) (by omega) (fun _ => true) (fun k => .int k.1) (fun k _ H2 R z => z H2 (Same.refl _)) (fun k _ _ H2 R z => ⟨_, rfl, z H2 (Same.refl _)⟩) fun lk H1 flk S1 elk => ?_))
    have elk' : H1 lk = some (.lst ((S.ks.map (·.1)).map V.int)) := by rw [elk, List.filter_eq_self.mpr (fun _ _ => rfl), List.map_map]; rfl
    clear elk
    have h1 := h.same S1
    dsimp only [gName, tNext]
    refine ⟨_, rfl, A.x, A.dx, _, rfl, h1.r.x, rfl, A.x, A.dx, A.du, A.dk, A.df, A.dc, S, rfl, h1.r, (by show S.fs.length ≤ 1000; omega), fun fr pf sf l2 fl2 => ?_⟩
    replace pf : fr.Perm S.fs := pf
    have S2 := Same.upd (o := .lst (fr.map V.int)) fl2
    have e2 := upd_same (H := H1) (a := l2) (o := .lst (fr.map V.int))
    dsimp only [gName, tNext]
    generalize upd H1 l2 _ = H2 at *
    have T2 := S1.trans S2
    have h2 := h.same T2
    replace elk' := S2 _ _ elk'
    have lfr := pf.length_eq
    refine ⟨_, rfl, A.x, A.dx, _, rfl, h2.r.x, rfl, A.x, A.dx, A.du, A.dk, A.df, A.dc, S, rfl, h2.r, (by show S.us.length ≤ 1000; omega), fun us pu su l3 fl3 => ?_⟩
    replace pu : us.Perm S.us := pu
    have S3 := Same.upd (o := .lst (us.map V.int)) fl3
    have e3 := upd_same (H := H2) (a := l3) (o := .lst (us.map V.int))
    generalize upd H2 l3 _ = H3 at *
    replace elk' := S3 _ _ elk'
    replace e2 := S3 _ _ e2
    have lus := pu.length_eq
    refine ⟨_, rfl, l3, lk, _, _, rfl, rfl, e3, elk', by rw [List.length_map, List.length_map, List.length_map]; omega, fun l4 fl4 => ?_⟩
    rw [← List.map_append]
    have S4 := Same.upd (o := .lst ((us ++ S.ks.map (·.1)).map V.int)) fl4
    have e4 := upd_same (H := H3) (a := l4) (o := .lst ((us ++ S.ks.map (·.1)).map V.int))
    generalize upd H3 l4 _ = H4 at *
    replace elk' := S4 _ _ elk'
    replace e2 := S4 _ _ e2
    refine ⟨_, rfl, l4, l2, _, _, rfl, rfl, e4, e2, by rw [List.length_map, List.length_append, List.length_map, List.length_map]; omega, fun l5 fl5 => ?_⟩
    rw [← List.map_append]
    have S5 := Same.upd (o := .lst ((us ++ S.ks.map (·.1) ++ fr).map V.int)) fl5
    have e5 := upd_same (H := H4) (a := l5) (o := .lst ((us ++ S.ks.map (·.1) ++ fr).map V.int))
    generalize upd H4 l5 _ = H5 at *
    replace elk' := S5 _ _ elk'
    refine ⟨l5, us ++ S.ks.map (·.1) ++ fr, rfl, SqL.of e5, by rw [List.length_append, List.length_append, List.length_map]; omega, fun ns pn sn l6 fl6 => ?_⟩
    have pn' : ns.Perm S.places := pn.trans (by unfold RS.places; exact (pu.append_right _).append pf)
    have en : ns = upZ S.places.length := by
      have := sorted_all sn (pn'.nodup_iff.mpr a.ok.nd) (fun p hp => by rw [pn'.length_eq]; exact a.ok.rg p (pn'.mem_iff.mp hp))
      rwa [pn'.length_eq] at this
    have S6 := Same.upd (o := .lst (ns.map V.int)) fl6
    have e6 := upd_same (H := H5) (a := l6) (o := .lst (ns.map V.int))
    generalize upd H5 l6 _ = H6 at *
    replace elk' := S6 _ _ elk'
    have T6 := (((T2.trans S3).trans S4).trans S5).trans S6
    have h6 := h.same T6
    subst en
    refine ⟨_, rfl, l6, A.lg, _, _, rfl, rfl, SqL.of e6, SqL.of h6.g, okI, _, rfl, ?_⟩
    refine iteE (c := false) (by rw [if_pos rfl, eqPs_self]; rfl) (iteF ?_)
    refine ⟨_, rfl, A.lu, S.us, rfl, SqL.of h6.u, by omega, fun ns pn2 sn2 l7 fl7 => ?_⟩
    have S7 := Same.upd (o := .lst (ns.map V.int)) fl7
    have e7 := upd_same (H := H6) (a := l7) (o := .lst (ns.map V.int))
    generalize upd H6 l7 _ = H7 at *
    have h7 := h6.same S7
    refine ⟨_, rfl, A.x, A.dx, _, rfl, h7.r.x, rfl, A.x, A.dx, A.du, A.dk, A.df, A.dc, S, rfl, h7.r, (by show S.us.length ≤ 1000; omega), fun us2 pu2 su2 l8 fl8 => ?_⟩
    replace pu2 : us2.Perm S.us := pu2
    have S8 := Same.upd (o := .lst (us2.map V.int)) fl8
    have e8 := upd_same (H := H7) (a := l8) (o := .lst (us2.map V.int))
    generalize upd H7 l8 _ = H8 at *
    have eu : ns = us2 := sort_eq pn2 sn2 pu2 su2
    subst eu
    refine ⟨l7, l8, _, _, rfl, rfl, SqL.of (S8 _ _ e7), SqL.of e8, okI, _, rfl, ?_⟩
    refine iteE (c := false) (by rw [if_pos rfl, eqPs_self]; rfl) (iteF ?_)
    have T8 := (T6.trans S7).trans S8
    have h8 := h.same T8
    replace elk' := S8 _ _ (S7 _ _ elk')
    refine ⟨_, rfl, lk, S.ks.map (·.1), rfl, SqL.of elk', by rw [List.length_map]; omega, fun ks pk sk l9 fl9 => ?_⟩
    have S9 := Same.upd (o := .lst (ks.map V.int)) fl9
    have e9 := upd_same (H := H8) (a := l9) (o := .lst (ks.map V.int))
    generalize upd H8 l9 _ = H9 at *
    have h9 := h8.same S9
    refine comp_keys (ws := ws) (fun R z => ⟨_, rfl, z⟩) h9.w (by omega) (fun p => !decide (f p = [])) (fun v hv ob H2 R kb fz z => ?_) (fun v hv H2 R z => ⟨_, rfl, z H2 (Same.refl _)⟩) fun l10 H10 fl10 S10 e10 => ?_
    · have wnd : (ws.map (·.1)).Nodup := a.wn.nodup_iff.mpr (by
        have := a.ok.nd
        unfold RS.places at this
        rw [List.append_assoc] at this
        exact (List.nodup_append.mp this).2.1)
      have nv : v.2 ≠ A.wd := ne_of (h9.wl v hv).1 h9.w (fun z => nomatch z)
      have ev := kb _ _ (h9.wl v hv).1 nv
      refine ⟨_, rfl, _, rfl, A.wd, _, rfl, .inl ⟨_, Sum.inl v.1, .inr ⟨ob, fz⟩, rfl, (kW_val wnd hv).symm⟩, (by show 0 ≤ sizeLine; decide), fun l0 f0 => ?_⟩
      have S0 := Same.upd (o := .lst []) f0
      refine ⟨v.2, l0, _, [], rfl, rfl, SqL.of (S0 _ _ ev), SqL.of upd_same, okPs_nil, _, rfl, ?_⟩
      rw [if_pos rfl, eqPs_nil, nil_map]
      exact z _ S0
    refine ⟨l10, _, rfl, SqL.of e10, by refine Nat.le_trans (List.length_filter_le _ _) (by rw [List.length_map]; omega), fun ks2 pk2 sk2 l11 fl11 => ?_⟩
    have S11 := Same.upd (o := .lst (ks2.map V.int)) fl11
    have e11 := upd_same (H := H10) (a := l11) (o := .lst (ks2.map V.int))
    generalize upd H10 l11 _ = H11 at *
    have ek : ks = ks2 := sort_eq pk sk (pk2.trans a.held) sk2
    subst ek
    refine ⟨l9, l11, _, _, rfl, rfl, SqL.of (S11 _ _ (S10 _ _ e9)), SqL.of e11, okI, ?_⟩
    rw [if_neg Bool.false_ne_true, eqPs_self]
    exact q H11 (((T8.trans S9).trans S10).trans S11)
end
end K22
set_option Elab.async false
set_option linter.all false
set_option maxRecDepth 100000
set_option maxHeartbeats 1000000
namespace K22
open PySem L2
theorem past_nil {cs : List (Int × Int)} {l : Int} (h : past cs l = true) : (cs.filter fun c => decide (c.2 ≤ l)).map (·.1) = [] := by
  have : cs.filter (fun c => decide (c.2 ≤ l)) = [] := List.filter_eq_nil_iff.mpr fun c hc => by
    have := of_decide_eq_true (List.all_eq_true.mp h c hc)
    intro z
    have := of_decide_eq_true z
    omega
  rw [this]
  rfl
theorem Ag.rel {S : RS} {ws : List (Int × Addr)} {f : Int → List Int} {m : Nat} (ok : S.Ok) (wn : (ws.map (·.1)).Perm (S.ks.map (·.1) ++ S.fs)) (wk : ∀ k ∈ S.ks, f k.1 = (S.cs.filter fun c => decide (c.2 ≤ k.2)).map (·.1)) (wf : ∀ p ∈ S.fs, f p = []) (cl : ∀ c ∈ S.cs, c.2 ≤ S.lap) (kl : ∀ k ∈ S.ks, k.2 < S.lap) (b1 : S.places.length ≤ m) (b2 : S.cs.length ≤ m) : Ag S.rel ws f m := by
  refine ⟨ok.rel, wn.trans ?_, fun k hk => ?_, fun p hp => ?_, fun k hk => ?_, cl, fun k hk => ?_, by rw [S.rel_perm.length_eq]; exact b1, b2⟩
  · show (S.ks.map (·.1) ++ S.fs).Perm ((S.ks.filter fun k => !past S.cs k.2).map (·.1) ++ (S.fs ++ (S.ks.filter fun k => past S.cs k.2).map (·.1)))
    have h1 : ((S.ks.filter fun k => past S.cs k.2).map (·.1) ++ (S.ks.filter fun k => !past S.cs k.2).map (·.1)).Perm (S.ks.map (·.1)) := by
      rw [← List.map_append]
      exact (perm_filter (fun k : Int × Int => past S.cs k.2) S.ks).map _
    refine List.Perm.trans (h1.symm.append_right _) ?_
    rw [List.append_assoc]
    refine List.perm_append_comm.trans ?_
    rw [List.append_assoc]
  · exact wk k (List.mem_filter.mp (show k ∈ S.ks.filter _ from hk)).1
  · rcases List.mem_append.mp (show p ∈ S.fs ++ (S.ks.filter fun k => past S.cs k.2).map (·.1) from hp) with h | h
    · exact wf p h
    · obtain ⟨k, hk, rfl⟩ := List.mem_map.mp h
      obtain ⟨k1, k2⟩ := List.mem_filter.mp hk
      rw [wk k k1]
      exact past_nil k2
  · have := (List.mem_filter.mp (show k ∈ S.ks.filter (fun k => !past S.cs k.2) from hk)).2
    show past S.cs k.2 = false
    simpa using this
  · exact kl k (List.mem_filter.mp (show k ∈ S.ks.filter _ from hk)).1
theorem Ag.gone {S : RS} {ws : List (Int × Addr)} {f : Int → List Int} {m : Nat} (a : Ag S ws f m) {p : Int} (hp : p ∈ S.us) (l : Addr) : Ag (S.gone p).rel (ws ++ [(p, l)]) (fun z => if z = p then S.cs.map (·.1) else f z) (m + 1) := by
  have nk : ∀ k ∈ S.ks, k.1 ≠ p := fun k hk e => a.ok.uk hp (by rw [← e]; exact List.mem_map.mpr ⟨k, hk, rfl⟩)
  have nf : ∀ z ∈ S.fs, z ≠ p := fun z hz e => a.ok.uf hp (by rw [← e]; exact hz)
  have b1 := a.b1
  have b2 := a.b2
  refine Ag.rel (a.ok.gone hp) ?_ (fun k hk => ?_) (fun z hz => ?_) (fun c hc => ?_) (fun k hk => ?_) (by rw [RS.gone_len a.ok hp]; omega) (by show S.cs.length ≤ m + 1; omega)
  · show ((ws ++ [(p, l)]).map (·.1)).Perm ((S.ks ++ [(p, S.lap)]).map (·.1) ++ S.fs)
    rw [List.map_append, List.map_append]
    refine (a.wn.append_right _).trans ?_
    rw [List.append_assoc, List.append_assoc]
    exact List.Perm.append_left _ List.perm_append_comm
  · rcases List.mem_append.mp (show k ∈ S.ks ++ [(p, S.lap)] from hk) with h | h
    · show (if k.1 = p then _ else f k.1) = _
      rw [if_neg (nk k h)]
      exact a.wk k h
    · rw [List.mem_singleton.mp h]
      show (if p = p then S.cs.map (·.1) else f p) = (S.cs.filter fun c => decide (c.2 ≤ S.lap)).map (·.1)
      rw [if_pos rfl, List.filter_eq_self.mpr fun c hc => decide_eq_true (a.cl c hc)]
  · show (if z = p then _ else f z) = []
    rw [if_neg (nf z hz)]
    exact a.wf z hz
  · have := a.cl c hc
    show c.2 ≤ S.lap + 1
    omega
  · show k.2 < S.lap + 1
    rcases List.mem_append.mp (show k ∈ S.ks ++ [(p, S.lap)] from hk) with h | h
    · have := a.kl k h
      omega
    · rw [List.mem_singleton.mp h]
      show S.lap < S.lap + 1
      omega
theorem Ag.left {S : RS} {ws ws' : List (Int × Addr)} {f : Int → List Int} {m : Nat} (a : Ag S ws f m) (n : Int) (e : ws'.map (·.1) = ws.map (·.1)) : Ag (S.left n).rel ws' (fun z => (f z).filter fun x => decide (x ≠ n)) (m + 1) := by
  have b1 := a.b1
  have b2 := a.b2
  refine Ag.rel (a.ok.left n) (by rw [e]; exact a.wn) (fun k hk => ?_) (fun z hz => ?_) (fun c hc => ?_) (fun k hk => a.kl k hk) (by show S.places.length ≤ m + 1; omega) ?_
  · show (f k.1).filter _ = ((S.cs.filter fun c => decide (c.1 ≠ n)).filter fun c => decide (c.2 ≤ k.2)).map (·.1)
    rw [a.wk k hk, List.filter_map, List.filter_filter, List.filter_filter]
    congr 1
    apply List.filter_congr
    intro c _
    exact Bool.and_comm _ _
  · show (f z).filter _ = []
    rw [a.wf z hz]
    rfl
  · exact a.cl c (List.mem_filter.mp (show c ∈ S.cs.filter _ from hc)).1
  · have : (S.cs.filter fun c => decide (c.1 ≠ n)).length ≤ S.cs.length := List.length_filter_le _ _
    show (S.cs.filter fun c => decide (c.1 ≠ n)).length ≤ m + 1
    omega
theorem Ag.come {S : RS} {ws : List (Int × Addr)} {f : Int → List Int} {m : Nat} (a : Ag S ws f m) {n : Int} (h0 : 0 ≤ n) (h1 : n ≤ 1000000) (hn : n ∉ S.cs.map (·.1)) : Ag (S.come n) ws f (m + 1) := by
  have b1 := a.b1
  have b2 := a.b2
  refine ⟨a.ok.come h0 h1 hn, a.wn, fun k hk => ?_, a.wf, fun k hk => ?_, fun c hc => ?_, a.kl, by show S.places.length ≤ _; omega, ?_⟩
  · show f k.1 = ((S.cs ++ [(n, S.lap)]).filter fun c => decide (c.2 ≤ k.2)).map (·.1)
    have := a.kl k hk
    rw [List.filter_append, List.filter_cons_of_neg (by simp; omega), List.filter_nil, List.append_nil]
    exact a.wk k hk
  · have := a.np k hk
    show past (S.cs ++ [(n, S.lap)]) k.2 = false
    unfold past at this ⊢
    rw [List.all_append, this]
    rfl
  · rcases List.mem_append.mp (show c ∈ S.cs ++ [(n, S.lap)] from hc) with h | h
    · exact a.cl c h
    · rw [List.mem_singleton.mp h]; exact Int.le_refl _
  · show (S.cs ++ [(n, S.lap)]).length ≤ _
    rw [List.length_append]
    show _ + 1 ≤ _
    omega
theorem Ag.old {S : RS} {ws ws' : List (Int × Addr)} {f : Int → List Int} {m : Nat} (a : Ag S ws f m) {p : Int} (hp : p ∈ S.fs) (e : (ws'.map (·.1)) = (ws.map (·.1)).filter fun n => decide (n ≠ p)) : Ag (S.take p) ws' f (m + 1) := by
  have b1 := a.b1
  have b2 := a.b2
  have fo := filter_out a.ok.fsn hp
  have ln := fo.length_eq
  rw [List.length_cons] at ln
  refine ⟨a.ok.take hp, ?_, a.wk, fun z hz => a.wf z (List.mem_filter.mp (show z ∈ S.fs.filter _ from hz)).1, a.np, a.cl, a.kl, ?_, by show S.cs.length ≤ _; omega⟩
  · rw [e]
    refine (a.wn.filter _).trans ?_
    rw [List.filter_append, List.filter_eq_self.mpr (fun z hz => decide_eq_true (show z ≠ p from fun e => a.ok.kf hz (by rw [e]; exact hp)))]
    exact List.Perm.refl _
  · rw [RS.len] at b1 ⊢
    show (S.us ++ [p]).length + S.ks.length + (S.fs.filter fun n => decide (n ≠ p)).length ≤ m + 1
    rw [List.length_append]
    show S.us.length + 1 + S.ks.length + _ ≤ m + 1
    omega
theorem Ag.new {S : RS} {ws : List (Int × Addr)} {f : Int → List Int} {m : Nat} (a : Ag S ws f m) (h : S.fs = []) : Ag (S.take (S.places.length : Nat)) ws f (m + 1) := by
  have b1 := a.b1
  have b2 := a.b2
  have e : (S.take (S.places.length : Nat)).fs = S.fs := by show S.fs.filter _ = S.fs; rw [h]; rfl
  refine ⟨a.ok.new h, by rw [e]; exact a.wn, a.wk, fun z hz => by rw [e] at hz; exact a.wf z hz, a.np, a.cl, a.kl, ?_, by show S.cs.length ≤ _; omega⟩
  rw [RS.len] at b1 ⊢
  rw [e]
  show (S.us ++ [_]).length + S.ks.length + _ ≤ m + 1
  rw [List.length_append]
  show S.us.length + 1 + S.ks.length + _ ≤ m + 1
  omega
end K22
set_option Elab.async false
set_option linter.all false
set_option maxRecDepth 100000
set_option maxHeartbeats 1000000
namespace K22
open PySem L2
theorem erase_at {α : Type} {q : α → Bool} : ∀ {l : List α} {j : Nat}, (∀ m x, l[m]? = some x → (q x = true ↔ m ≠ j)) → j < l.length → l.eraseIdx j = l.filter q
  | x :: l, 0, h, _ => by
    have hx : ¬ q x = true := fun z => (h 0 x rfl).mp z rfl
    rw [List.eraseIdx_cons_zero, List.filter_cons_of_neg hx]
    exact (List.filter_eq_self.mpr fun y hy => by
      obtain ⟨m, hm, rfl⟩ := List.getElem_of_mem hy
      exact (h (m + 1) _ (List.getElem?_eq_getElem hm)).mpr (by omega)).symm
  | x :: l, j + 1, h, hj => by
    have hx : q x = true := (h 0 x rfl).mpr (by omega)
    rw [List.eraseIdx_cons_succ, List.filter_cons_of_pos hx, erase_at (fun m y hy => by rw [h (m + 1) y hy]; omega) (Nat.lt_of_succ_lt_succ hj)]
theorem nodup_at {α : Type} {l : List α} (nd : l.Nodup) {i j : Nat} {x : α} (hi : l[i]? = some x) (hj : l[j]? = some x) : i = j := by
  have li := (List.getElem?_eq_some_iff.mp hi)
  have lj := (List.getElem?_eq_some_iff.mp hj)
  exact (List.getElem_inj (h₀ := li.1) (h₁ := lj.1) nd).mp (by rw [li.2, lj.2])
theorem erase_us {us : List Int} (nd : us.Nodup) {j : Nat} {p : Int} (h : us[j]? = some p) : us.eraseIdx j = us.filter fun n => decide (n ≠ p) :=
  erase_at (fun m x hx => by
    rw [decide_eq_true_iff]
    constructor
    · intro n e; subst e; rw [hx] at h; exact n (Option.some.inj h)
    · intro n e; subst e; exact n (nodup_at nd hx h)) (List.getElem?_eq_some_iff.mp h).1
theorem eqP_int {a b : Int} : eqP (.int a) (.int b) = decide (a = b) := by
  unfold eqP eqV
  by_cases h : a = b <;> simp [h]
theorem okP_int {a b : Int} : okP (.int a) (.int b) := .inr ⟨rfl, rfl⟩
theorem map_erase {α β : Type} (f : α → β) : ∀ (l : List α) (j : Nat), (l.map f).eraseIdx j = (l.eraseIdx j).map f
  | [], _ => rfl
  | _ :: _, 0 => rfl
  | x :: l, j + 1 => by rw [List.map_cons, List.eraseIdx_cons_succ, List.eraseIdx_cons_succ, List.map_cons, map_erase f l j]
def Ad.all (A : Ad) : List Addr := [A.x, A.du, A.dk, A.df, A.dc, A.wd, A.lu, A.lg, A.lo]
def Nw (ws ws' : List (Int × Addr)) (H : Hp) : Prop := ∀ v ∈ ws', (∃ u ∈ ws, v.2 = u.2) ∨ H v.2 = none
def Nx (C : Addr) (A : Ad) (l : List Addr) (ws : List (Int × Addr)) (m : Nat) (H : Hp) (Q : VK) : Prop := ∀ H' S ws' f, Hse C A H' S ws' f (m + 1) → Keep (l ++ A.all) H H' → Nw ws ws' H → Q (.bl true) H'
theorem kW_new {ws : List (Int × Addr)} {p : Int} {l : Addr} (h : p ∉ ws.map (·.1)) : putK (kW ws) (Sum.inl p) (.ref l) = kW (ws ++ [(p, l)]) := by
  have nn : valV (kW ws) (Sum.inl p) = none := by
    clear l
    induction ws with
    | nil => rfl
    | cons w ws ih =>
      rw [List.map_cons, List.mem_cons, not_or] at h
      rw [show kW (w :: ws) = (Sum.inl w.1, V.ref w.2) :: kW ws from rfl, valV_neg (fun z => h.1 (Sum.inl.inj z).symm)]
      exact ih h.2
  rw [putK_new _ nn]
  unfold kW
  rw [List.map_append]
  rfl
section
variable {C : Addr} {A : Ad} {H H' : Hp} {S : RS} {ws : List (Int × Addr)} {f : Int → List Int} {m : Nat}
theorem Hse.dis (h : Hse C A H S ws f m) : ∀ b ∈ [A.x, A.du, A.dk, A.df, A.dc], b ∉ [A.wd, A.lu, A.lg, A.lo] := by
  intro b hb hb2
  simp only [List.mem_cons, List.not_mem_nil, or_false] at hb hb2
  have ls : ∀ {o : HO}, H b = some o → (∀ xs, o ≠ .lst xs) → b ≠ A.lu ∧ b ≠ A.lg ∧ b ≠ A.lo := fun {o} e n => ⟨fun z => by rw [z, h.u] at e; cases e; exact n _ rfl, fun z => by rw [z, h.g] at e; cases e; exact n _ rfl, fun z => by rw [z, h.o] at e; cases e; exact n _ rfl⟩
  have all : (∃ o, H b = some o ∧ ∀ xs, o ≠ .lst xs) ∧ b ≠ A.wd := by
    rcases hb with rfl | rfl | rfl | rfl | rfl
    · exact ⟨⟨_, h.r.x, fun _ z => nomatch z⟩, ne_of h.r.x h.w (fun z => nomatch z)⟩
    · exact ⟨⟨_, h.r.u, fun _ z => nomatch z⟩, Ne.symm h.nw.1⟩
    · exact ⟨⟨_, h.r.k, fun _ z => nomatch z⟩, Ne.symm h.nw.2.1⟩
    · exact ⟨⟨_, h.r.f, fun _ z => nomatch z⟩, Ne.symm h.nw.2.2.1⟩
    · exact ⟨⟨_, h.r.c, fun _ z => nomatch z⟩, Ne.symm h.nw.2.2.2⟩
  obtain ⟨⟨o, e, n⟩, nw⟩ := all
  obtain ⟨a1, a2, a3⟩ := ls e n
  rcases hb2 with z | z | z | z
  · exact nw z
  · exact a1 z
  · exact a2 z
  · exact a3 z
theorem Hse.rk (h : Hse C A H S ws f m) (k : Keep [A.wd, A.lu, A.lg, A.lo] H H') : IsR C A.x A.dx A.du A.dk A.df A.dc H' S := h.r.keep k h.dis
theorem lst_away {C x dx du dk df dc : Addr} {H H' : Hp} {S : RS} (r : IsR C x dx du dk df dc H S) (k : Keep [x, du, dk, df, dc] H H') {b : Addr} {xs : List V} (e : H b = some (.lst xs)) : H' b = some (.lst xs) := k b _ e fun hb => by
  simp only [List.mem_cons, List.not_mem_nil, or_false] at hb
  rcases hb with rfl | rfl | rfl | rfl | rfl
  · rw [r.x] at e; cases e
  · rw [r.u] at e; cases e
  · rw [r.k] at e; cases e
  · rw [r.f] at e; cases e
  · rw [r.c] at e; cases e
theorem Hse.wnd (h : Hse C A H S ws f m) : (ws.map (·.1)).Nodup := h.a.wn.nodup_iff.mpr (by
  have := h.a.ok.nd
  unfold RS.places at this
  rw [List.append_assoc] at this
  exact (List.nodup_append.mp this).2.1)
theorem Hse.wx (h : Hse C A H S ws f m) : A.wd ∉ [A.x, A.du, A.dk, A.df, A.dc] := by
  obtain ⟨a1, a2, a3, a4⟩ := h.nw
  simp only [List.mem_cons, List.not_mem_nil, or_false, not_or]
  exact ⟨(ne_of h.w h.r.x (fun z => nomatch z)), a1, a2, a3, a4⟩
end
section
variable {P : Program} {w : World} {K : PySem.W.Frag} {mg : Str → Option Value} {base : Heap}
abbrev s__law_gone : Stmt := top 20
theorem sc__law_gone : FnScope ["_law_rounds", "_law_place", "_law_watched", "_law_used", "_law_going"] ["_law_rounds", "_law_place", "_law_watched", "_law_used", "_law_going"] (defScope s__law_gone) := ⟨rfl, rfl, rfl, by decide +kernel, rfl, by decide +kernel, by decide +kernel⟩
def spGone (C : Addr) : Sp := fun vs H Q _ => ∃ (A : Ad) (S : RS) (ws : List (Int × Addr)) (f : Int → List Int) (m : Nat) (p : Int), vs = [.ref A.x, .int p, .ref A.wd, .ref A.lu, .ref A.lo] ∧ Hse C A H S ws f m ∧ m ≤ 200 ∧ p ∈ S.us ∧ Nx C A [] ws m H Q
theorem ok_gone {C f cE : Addr} {fd : FuncData} (hd : ∃ f fd, Dn K mg "_law_gone" "_law_gone" s__law_gone ["_law_rounds", "_law_place", "_law_watched", "_law_used", "_law_going"] f fd) (R : RdN K mg C f fd) (T : Txt K mg)
    (m1 : MtOk P w K mg base (CXo P w) C "went" ["self", "place"] 5 (spWent C cE)) : OkD P w K mg base "_law_gone" s__law_gone ["_law_rounds", "_law_place", "_law_watched", "_law_used", "_law_going"] 7 (spGone C) := by
  obtain ⟨f0, fd0, D⟩ := hd
  obtain ⟨f1, fd1, Me_went, B_went, G_went⟩ := m1
  have CL := R.cl
  refine ⟨f0, fd0, D, D.fn.ok sc__law_gone (fun vs H Q E h => ?_) (fun cdv AA outer s H vs Q E hr h => ?_)⟩
  · obtain ⟨_, _, _, _, _, _, rfl, _⟩ := h
    rfl
  · obtain ⟨A, S, ws, f, m, p, rfl, h, hm, hp, q⟩ := h
    have sc := sc__law_gone
    have hu1 := hr.in1.units0
    have big := big1000
    have a := h.a
    have b1 := a.b1
    rw [RS.len] at b1
    have b2 := a.b2
    have wl := a.wn.length_eq
    rw [List.length_map, List.length_append, List.length_map] at wl
    obtain ⟨j, hj, ej⟩ := List.getElem_of_mem hp
    have ej' : S.us[j]? = some p := by rw [List.getElem?_eq_getElem hj, ej]
    have und := a.ok.us
    have pw : p ∉ ws.map (·.1) := fun hm => by
      rcases List.mem_append.mp (a.wn.mem_iff.mp hm) with z | z
      · exact a.ok.uk hp z
      · exact a.ok.uf hp z
    refine' ⟨_, (pss_cons (ps_expr (pe_bm PySem.F.plainAttrs_list PySem.F.slot_list_remove PySem.F.type_list_remove (mt_remove hu1) (pv 3) (pa_c (pv 1) pa_nil)))
    (pss_cons (ps_dput (hu_of hr) (pv 2) (pv 1) (pe_callTy call_list_of rfl T.n_list bt_list (pa_c (pv 4) pa_nil)) rfl)
    (pss_cons (ps_expr (pe_meth (pv 0) CL Me_went G_went (hr.mono (by decide)) B_went .nil passX (pa_c (pv 1) pa_nil)))
    (pss_one (ps_ret pe_bl))))), ?_⟩
    refine ⟨_, rfl, .inl ⟨rfl, _, SqL.of h.u⟩, _, rfl, A.lu, _, .int p, j, rfl, rfl, h.u, by rw [List.length_map]; exact hj, fun i z hi hz => ?_, ?_⟩
    · rw [List.getElem?_map] at hz
      obtain ⟨y, hy, rfl⟩ := Option.map_eq_some_iff.mp hz
      refine .inl ⟨okP_int, ?_⟩
      rw [eqP_int, Bool.eq_iff_iff, decide_eq_true_iff, decide_eq_true_iff]
      constructor
      · intro e; subst e; exact nodup_at und hy ej'
      · intro e; subst e; rw [hy] at ej'; exact Option.some.inj ej'
    rw [map_erase, erase_us und ej']
    have nwu : A.wd ≠ A.lu := ne_of h.w h.u (fun z => nomatch z)
    have k1 : Keep [A.wd, A.lu, A.lg, A.lo] H (upd H A.lu (.lst ((S.us.filter fun n => decide (n ≠ p)).map V.int))) := Keep.refl.upd (by simp)
    have u1 := upd_same (H := H) (a := A.lu) (o := .lst ((S.us.filter fun n => decide (n ≠ p)).map V.int))
    have w1 : upd H A.lu (.lst ((S.us.filter fun n => decide (n ≠ p)).map V.int)) A.wd = some (.dK (kW ws)) := by rw [upd_ne nwu]; exact h.w
    have g1 : upd H A.lu (.lst ((S.us.filter fun n => decide (n ≠ p)).map V.int)) A.lg = some (.lst ((upZ S.places.length).map V.int)) := by rw [upd_ne (Ne.symm h.n1)]; exact h.g
    have o1 : upd H A.lu (.lst ((S.us.filter fun n => decide (n ≠ p)).map V.int)) A.lo = some (.lst ((S.cs.map (·.1)).map V.int)) := by rw [upd_ne (Ne.symm h.n2)]; exact h.o
    have l1 : ∀ v ∈ ws, upd H A.lu (.lst ((S.us.filter fun n => decide (n ≠ p)).map V.int)) v.2 = some (.lst ((f v.1).map V.int)) := fun v hv => by rw [upd_ne (h.wl v hv).2.1]; exact (h.wl v hv).1
    generalize upd H A.lu _ = H1 at *
    refine ⟨_, rfl, A.lo, _, rfl, .inl (SqL.of o1), fun l2 fl2 => ?_⟩
    have S2 := Same.upd (o := .lst ((S.cs.map (·.1)).map V.int)) fl2
    have e2 := upd_same (H := H1) (a := l2) (o := .lst ((S.cs.map (·.1)).map V.int))
    have n2 : l2 ≠ A.lu ∧ l2 ≠ A.lg ∧ l2 ≠ A.lo := ⟨(ne_of_none u1 fl2).symm, (ne_of_none g1 fl2).symm, (ne_of_none o1 fl2).symm⟩
    have fH2 : H l2 = none := k1.free fl2 (by simp [n2.1, n2.2.1, n2.2.2, (ne_of_none w1 fl2).symm])
    generalize upd H1 l2 _ = H2 at *
    have kl2 : Keep [A.wd, A.lu, A.lg, A.lo] H H2 := k1.trans (K22.Same.keep S2)
    refine ⟨_, rfl, _, rfl, A.wd, _, rfl, DPut.k (k := Sum.inl p) (S2 _ _ w1) (by unfold kW; rw [List.length_map]; omega), ?_⟩
    rw [kW_new pw]
    have ls : ∀ {b : Addr} {xs : List V}, H2 b = some (.lst xs) → upd H2 A.wd (.dK (kW (ws ++ [(p, l2)]))) b = some (.lst xs) := fun {b xs} e => by rw [upd_ne (ne_of e (S2 _ _ w1) (fun z => nomatch z))]; exact e
    have k3 : Keep [A.wd, A.lu, A.lg, A.lo] H (upd H2 A.wd (.dK (kW (ws ++ [(p, l2)])))) := kl2.upd (by simp)
    have w3 := upd_same (H := H2) (a := A.wd) (o := .dK (kW (ws ++ [(p, l2)])))
    have u3 := ls (S2 _ _ u1)
    have g3 := ls (S2 _ _ g1)
    have o3 := ls (S2 _ _ o1)
    have e3 := ls e2
    have l3 : ∀ v ∈ ws, upd H2 A.wd (.dK (kW (ws ++ [(p, l2)]))) v.2 = some (.lst ((f v.1).map V.int)) := fun v hv => ls (S2 _ _ (l1 v hv))
    clear ls u1 g1 o1 e2 l1 w1
    generalize upd H2 A.wd _ = H3 at *
    have r3 := h.rk k3
    refine ⟨_, rfl, A.x, A.dx, _, rfl, r3.x, rfl, _, rfl, ?_⟩
    dsimp only [tNil, List.append_nil]
    refine ⟨A.x, A.dx, A.du, A.dk, A.df, A.dc, S, p, rfl, r3, a.ok, by rw [RS.len]; omega, by omega, fun _ H4 r4 k4 => ?_, fun no => absurd hp no⟩
    have k4' : Keep [A.x, A.du, A.dk, A.df, A.dc] H3 H4 := k4.mono (by simp)
    have away := fun {b xs} => lst_away r3 k4' (b := b) (xs := xs)
    refine q H4 (S.gone p).rel (ws ++ [(p, l2)]) _ ⟨r4, k4' _ _ w3 h.wx, fun v hv => ?_, away u3, ?_, away o3, h.n1, h.n2, h.n3, h.nw, a.gone hp l2⟩ ((k3.mono (by unfold Ad.all; simp)).trans (k4.mono (by unfold Ad.all; simp))) (fun v hv => (List.mem_append.mp hv).imp (fun z => ⟨v, z, rfl⟩) fun z => by rw [List.mem_singleton.mp z]; exact fH2)
    · rcases List.mem_append.mp hv with z | z
      · have nv : v.1 ≠ p := fun e => pw (by rw [← e]; exact List.mem_map.mpr ⟨v, z, rfl⟩)
        refine ⟨?_, (h.wl v z).2⟩
        show H4 v.2 = some (.lst ((if v.1 = p then S.cs.map (·.1) else f v.1).map V.int))
        rw [if_neg nv]
        exact away (l3 v z)
      · rw [List.mem_singleton.mp z]
        refine ⟨?_, n2⟩
        show H4 l2 = some (.lst ((if p = p then S.cs.map (·.1) else f p).map V.int))
        rw [if_pos rfl]
        exact away e3
    · rw [S.gone p |>.rel_perm.length_eq, RS.gone_len a.ok hp]
      exact away g3
end
end K22
set_option Elab.async false
set_option linter.all false
set_option maxRecDepth 100000
set_option maxHeartbeats 1000000
namespace K22
open PySem L2
theorem kW_set {ws : List (Int × Addr)} (nd : (ws.map (·.1)).Nodup) {i : Nat} {v : Int × Addr} (hv : ws[i]? = some v) {l : Addr} : putK (kW ws) (Sum.inl v.1) (.ref l) = kW (ws.set i (v.1, l)) := by
  rw [putK_set (j := i) ?_ ?_]
  · unfold kW
    rw [List.map_set]
  · rw [kW_keys]
    exact List.Pairwise.map _ (fun a b n e => n (Sum.inl.inj e)) nd
  · rw [kW_keys, List.getElem?_map, List.getElem?_map, hv]
    rfl
theorem set_fst {ws : List (Int × Addr)} {i : Nat} {v : Int × Addr} (hv : ws[i]? = some v) {l : Addr} : (ws.set i (v.1, l)).map (·.1) = ws.map (·.1) := by
  apply List.ext_getElem?
  intro t
  rw [List.getElem?_map, List.getElem?_map, List.getElem?_set]
  by_cases e : i = t
  · subst e
    rw [if_pos rfl, if_pos (List.getElem?_eq_some_iff.mp hv).1, hv]
    rfl
  · rw [if_neg e]
theorem Ag.few {S : RS} {ws : List (Int × Addr)} {f : Int → List Int} {m : Nat} (a : Ag S ws f m) {z : Int} (h : z ∈ ws.map (·.1)) : (f z).length ≤ S.cs.length := by
  rcases List.mem_append.mp (a.wn.mem_iff.mp h) with h | h
  · obtain ⟨k, hk, rfl⟩ := List.mem_map.mp h
    rw [a.wk k hk, List.length_map]
    exact List.length_filter_le _ _
  · rw [a.wf z h]
    exact Nat.zero_le _
theorem ne_int {c n : Int} : (!decide (V.int c = V.int n)) = decide (c ≠ n) := by
  by_cases e : c = n
  · subst e; simp
  · have : V.int c ≠ V.int n := fun z => e (V.int.inj z)
    simp [e, this]
section
variable {P : Program} {w : World} {K : PySem.W.Frag} {mg : Str → Option Value} {base : Heap}
abbrev s__law_left : Stmt := top 22
theorem sc__law_left : FnScope ["_law_rounds", "_law_number", "_law_watched", "_law_going", "_law_place"] ["_law_rounds", "_law_number", "_law_watched", "_law_going"] (defScope s__law_left) := ⟨rfl, rfl, rfl, by decide +kernel, rfl, by decide +kernel, by decide +kernel⟩
def spLeft (C : Addr) : Sp := fun vs H Q _ => ∃ (A : Ad) (S : RS) (ws : List (Int × Addr)) (f : Int → List Int) (m : Nat) (n : Int), vs = [.ref A.x, .int n, .ref A.wd, .ref A.lo] ∧ Hse C A H S ws f m ∧ m ≤ 400 ∧ n ∈ S.cs.map (·.1) ∧ ∀ H' ws' f', Hse C A H' (S.left n).rel ws' f' (m + 1) → Keep A.all H H' → Nw ws ws' H → Q (.bl true) H'
theorem ok_left {C f cD : Addr} {fd : FuncData} (hd : ∃ f fd, Dn K mg "_law_left" "_law_left" s__law_left ["_law_rounds", "_law_number", "_law_watched", "_law_going"] f fd) (R : RdN K mg C f fd) (T : Txt K mg)
    (m1 : MtOk P w K mg base (CXo P w) C "leave" ["self", "number"] 6 (spLeave C cD)) : OkD P w K mg base "_law_left" s__law_left ["_law_rounds", "_law_number", "_law_watched", "_law_going"] 8 (spLeft C) := by
  obtain ⟨f0, fd0, D⟩ := hd
  obtain ⟨f1, fd1, Me_leave, B_leave, G_leave⟩ := m1
  have CL := R.cl
  refine ⟨f0, fd0, D, D.fn.ok sc__law_left (fun vs H Q E h => ?_) (fun cdv AA outer s H vs Q E hr h => ?_)⟩
  · obtain ⟨_, _, _, _, _, _, rfl, _⟩ := h
    rfl
  · obtain ⟨A, S, ws, f, m, n, rfl, h, hm, hn, q⟩ := h
    have sc := sc__law_left
    have hu1 := hr.in1.units0
    have big := big1000
    have a := h.a
    have b1 := a.b1
    rw [RS.len] at b1
    have b2 := a.b2
    have wl := a.wn.length_eq
    rw [List.length_map, List.length_append, List.length_map] at wl
    obtain ⟨j, hj, ej⟩ := List.getElem_of_mem hn
    have ej' : (S.cs.map (·.1))[j]? = some n := by rw [List.getElem?_eq_getElem hj, ej]
    have und := a.ok.cn
    have ec : (S.cs.map (·.1)).filter (fun z => decide (z ≠ n)) = ((S.left n).rel.cs).map (·.1) := by
      show _ = (S.cs.filter fun c => decide (c.1 ≠ n)).map (·.1)
      rw [List.filter_map]
      rfl
    refine' ⟨_, (pss_cons (ps_expr (pe_bm PySem.F.plainAttrs_list PySem.F.slot_list_remove PySem.F.type_list_remove (mt_remove hu1) (pv 3) (pa_c (pv 1) pa_nil)))
    (pss_cons (ps_for PassesOwn.never rfl (pi_list (pe_callTy (call_listD hr.hd) rfl T.n_list bt_list (pa_c (pv 2) pa_nil))) (pg_name (i := 4) sc.nd rfl (Or.inl rfl))
      (pss_one (ps_dput (hu_of hr) (pv 2) (pv 4) (pe_comp (blk_mk ["_law_number"] [1]) rfl (pi_list (pe_dget (hu_of hr) (pv 2) (pv 4) (fun _ _ => rfl))) (fun _ _ _ _ _ => (PTs.one (pt_cmpR op_ne (pv 0) (pv 1) (nomark _)))) (fun _ _ _ _ _ => (pv 0))) rfl)))
    (pss_cons (ps_expr (pe_meth (pv 0) CL Me_leave G_leave (hr.mono (by decide)) B_leave .nil passX (pa_c (pv 1) pa_nil)))
    (pss_one (ps_ret pe_bl))))), ?_⟩
    refine ⟨_, rfl, .inl ⟨rfl, _, SqL.of h.o⟩, _, rfl, A.lo, _, .int n, j, rfl, rfl, h.o, by rw [List.length_map]; exact hj, fun i z hi hz => ?_, ?_⟩
    · rw [List.getElem?_map] at hz
      obtain ⟨y, hy, rfl⟩ := Option.map_eq_some_iff.mp hz
      refine .inl ⟨okP_int, ?_⟩
      rw [eqP_int, Bool.eq_iff_iff, decide_eq_true_iff, decide_eq_true_iff]
      constructor
      · intro e; subst e; exact nodup_at und hy ej'
      · intro e; subst e; rw [hy] at ej'; exact Option.some.inj ej'
    rw [map_erase, erase_us und ej', ec]
    have nwo : A.wd ≠ A.lo := ne_of h.w h.o (fun z => nomatch z)
    have k1 : Keep [A.wd, A.lu, A.lg, A.lo] H (upd H A.lo (.lst ((((S.left n).rel.cs).map (·.1)).map V.int))) := Keep.refl.upd (by simp)
    have o1 := upd_same (H := H) (a := A.lo) (o := .lst ((((S.left n).rel.cs).map (·.1)).map V.int))
    have w1 : upd H A.lo (.lst ((((S.left n).rel.cs).map (·.1)).map V.int)) A.wd = some (.dK (kW ws)) := by rw [upd_ne nwo]; exact h.w
    have g1 : upd H A.lo (.lst ((((S.left n).rel.cs).map (·.1)).map V.int)) A.lg = some (.lst ((upZ S.places.length).map V.int)) := by rw [upd_ne h.n3]; exact h.g
    have u1 : upd H A.lo (.lst ((((S.left n).rel.cs).map (·.1)).map V.int)) A.lu = some (.lst (S.us.map V.int)) := by rw [upd_ne h.n2]; exact h.u
    have l1 : ∀ v ∈ ws, upd H A.lo (.lst ((((S.left n).rel.cs).map (·.1)).map V.int)) v.2 = some (.lst ((f v.1).map V.int)) := fun v hv => by rw [upd_ne (h.wl v hv).2.2.2]; exact (h.wl v hv).1
    generalize upd H A.lo _ = H1 at *
    refine ⟨_, rfl, A.wd, _, ws.map (·.1), rfl, .inl w1, kW_keys ws, fun l2 fl2 => ?_⟩
    have S2 := Same.upd (o := .lst ((ws.map (·.1)).map V.int)) fl2
    have e2 := upd_same (H := H1) (a := l2) (o := .lst ((ws.map (·.1)).map V.int))
    generalize upd H1 l2 _ = H2 at *
    have k2 : Keep [A.wd, A.lu, A.lg, A.lo] H H2 := k1.trans (K22.Same.keep S2)
    have ll : ∀ {b : Addr} {xs : List V}, H2 b = some (.lst xs) → b ∉ [A.wd] := fun {b xs} e hb => by
      rw [List.mem_singleton.mp hb, S2 _ _ w1] at e
      cases e
    refine ⟨l2, rfl, ⟨_, SqL.of e2⟩, for_list (xs := (ws.map (·.1)).map V.int) (fun i σ H3 => ∃ (o4 : Option V) (ws3 : List (Int × Addr)), σ = [some (.ref A.x), some (.int n), some (.ref A.wd), some (.ref A.lo), o4] ∧ ws3.map (·.1) = ws.map (·.1) ∧ H3 A.wd = some (.dK (kW ws3)) ∧ (∀ (t : Nat) v, ws3[t]? = some v → H3 v.2 = some (.lst ((if t < i then (f v.1).filter (fun z => decide (z ≠ n)) else f v.1).map V.int)) ∧ (v.2 ≠ A.lu ∧ v.2 ≠ A.lg ∧ v.2 ≠ A.lo) ∧ ((∃ u ∈ ws, v.2 = u.2) ∨ H2 v.2 = none)) ∧ Keep [A.wd] H2 H3)
      ⟨none, ws, rfl, rfl, S2 _ _ w1, fun t v hv => ⟨by rw [if_neg (Nat.not_lt_zero t)]; exact S2 _ _ (l1 v (List.mem_of_getElem? hv)), (h.wl v (List.mem_of_getElem? hv)).2, .inl ⟨v, List.mem_of_getElem? hv, rfl⟩⟩, Keep.refl⟩ (fun i σ H3 _ ⟨_, _, _, _, _, _, kp⟩ => SqL.of (kp _ _ e2 (ll e2))) ?_ ?_⟩
    · rintro i v σ H3 hi ⟨o4, ws3, rfl, ek, w3, l3, k3⟩
      rw [List.getElem?_map, ← ek, List.getElem?_map] at hi
      obtain ⟨p, hp, rfl⟩ := Option.map_eq_some_iff.mp hi
      obtain ⟨v, hv, rfl⟩ := Option.map_eq_some_iff.mp hp
      have nd3 : (ws3.map (·.1)).Nodup := by rw [ek]; exact h.wnd
      obtain ⟨ev, ⟨n1, n2, n3⟩, _⟩ := l3 i v hv
      rw [if_neg (Nat.lt_irrefl i)] at ev
      dsimp only [gName, tNext]
      have dg : DGet H3 A.wd (.int v.1) (some (.ref v.2)) := .inl ⟨_, Sum.inl v.1, .inl w3, rfl, (kW_val nd3 (List.mem_of_getElem? hv)).symm⟩
      have lf : (f v.1).length ≤ S.cs.length := a.few (by rw [← ek]; exact List.mem_map.mpr ⟨v, List.mem_of_getElem? hv, rfl⟩)
      refine comp_f (J := ItB K false v.2) (H1 := H3) ((f v.1).map V.int) (onI fun z => decide (z ≠ n)) (fun y => y) (fun R z => ⟨_, rfl, _, rfl, A.wd, _, rfl, dg, v.2, rfl, ⟨_, SqL.of ev⟩, z⟩) (it_row (show RowAt false H3 v.2 _ from ev)) (fun y hy H4 R S4 z => ?_) (fun y hy _ H4 R S4 z => ⟨_, rfl, z H4 (Same.refl _)⟩) (by rw [List.length_map]; omega) fun d H4 fd4 S4 ed => ?_
      · obtain ⟨c, _, rfl⟩ := List.mem_map.mp hy
        refine ⟨_, rfl, _, rfl, rfl, _, rfl, ?_⟩
        have := z H4 (Same.refl _)
        rw [ne_int]
        exact this
      rw [List.map_id', filt_int (p := fun z => decide (z ≠ n)) (fun i => rfl)] at ed
      have w4 := S4 _ _ w3
      have nd : d ≠ A.wd := (ne_of_none w3 fd4).symm
      have fd2 : H2 d = none := k3.free fd4 (by simp [nd])
      have ln : (kW ws3).length = ws.length := by unfold kW; rw [List.length_map, ← List.length_map (f := (·.1)), ek, List.length_map]
      refine ⟨_, rfl, _, rfl, A.wd, _, rfl, DPut.k (k := Sum.inl v.1) w4 (by rw [ln]; omega), ?_⟩
      rw [kW_set nd3 hv]
      refine ⟨_, ws3.set i (v.1, d), rfl, by rw [set_fst hv, ek], upd_same, fun t y hy => ?_, (k3.trans (K22.Same.keep S4)).upd (by simp)⟩
      rw [List.getElem?_set] at hy
      by_cases et : i = t
      · subst et
        rw [if_pos rfl, if_pos (List.getElem?_eq_some_iff.mp hv).1] at hy
        cases Option.some.inj hy
        rw [if_pos (Nat.lt_succ_self i), upd_ne nd]
        exact ⟨ed, ⟨(ne_of_none (S2 _ _ u1) fd2).symm, (ne_of_none (S2 _ _ g1) fd2).symm, (ne_of_none (S2 _ _ o1) fd2).symm⟩, .inr fd2⟩
      · rw [if_neg et] at hy
        obtain ⟨ey, rest⟩ := l3 t y hy
        refine ⟨?_, rest⟩
        rw [upd_ne (ne_of (S4 _ _ ey) w4 (fun z => nomatch z)), S4 _ _ ey]
        have : (t < i + 1) = (t < i) := propext ⟨fun h => by omega, fun h => by omega⟩
        simp only [this]
    · rintro σ H3 ⟨o4, ws3, rfl, ek, w3, l3, k3⟩
      have kk : Keep [A.wd, A.lu, A.lg, A.lo] H H3 := k2.trans (k3.mono (by simp))
      have r3 := h.rk kk
      have al : ∀ {b : Addr} {xs : List V}, H2 b = some (.lst xs) → H3 b = some (.lst xs) := fun {b xs} e => k3 _ _ e (ll e)
      refine ⟨_, rfl, A.x, A.dx, _, rfl, r3.x, rfl, _, rfl, ?_⟩
      dsimp only [tNil, List.append_nil]
      refine ⟨A.x, A.dx, A.du, A.dk, A.df, A.dc, S, n, rfl, r3, a.ok, by rw [RS.len]; omega, by omega, fun _ H4 r4 k4 => ?_, fun no => absurd hn no⟩
      have k4' : Keep [A.x, A.du, A.dk, A.df, A.dc] H3 H4 := k4.mono (by simp)
      have away := fun {b xs} => lst_away r3 k4' (b := b) (xs := xs)
      have lz : ws3.length = ws.length := by rw [← List.length_map (f := (·.1)), ek, List.length_map]
      refine q H4 ws3 (fun z => (f z).filter fun x => decide (x ≠ n)) ⟨r4, k4' _ _ w3 h.wx, fun v hv => ?_, away (al (S2 _ _ u1)), ?_, away (al (S2 _ _ o1)), h.n1, h.n2, h.n3, h.nw, a.left n ek⟩ ((kk.mono (by unfold Ad.all; simp)).trans (k4.mono (by unfold Ad.all; simp))) (fun v hv => ?_)
      · obtain ⟨t, ht, et⟩ := List.getElem_of_mem hv
        obtain ⟨ev, rest⟩ := l3 t v (by rw [List.getElem?_eq_getElem ht, et])
        rw [List.length_map, List.length_map, if_pos (by omega)] at ev
        exact ⟨away ev, rest.1⟩
      · rw [(S.left n).rel_perm.length_eq]
        exact away (al (S2 _ _ g1))
      · obtain ⟨t, ht, et⟩ := List.getElem_of_mem hv
        obtain ⟨_, _, z⟩ := l3 t v (by rw [List.getElem?_eq_getElem ht, et])
        refine z.imp id fun z => k2.free z ?_
        simp only [List.mem_cons, List.not_mem_nil, or_false, not_or]
        exact ⟨(ne_of_none (S2 _ _ w1) z).symm, (ne_of_none (S2 _ _ u1) z).symm, (ne_of_none (S2 _ _ g1) z).symm, (ne_of_none (S2 _ _ o1) z).symm⟩
end
end K22
set_option Elab.async false
set_option linter.all false
set_option maxRecDepth 100000
set_option maxHeartbeats 1000000
namespace K22
open PySem L2
theorem kW_drop (ws : List (Int × Addr)) (p : Int) : dropK (kW ws) (Sum.inl p) = kW (ws.filter fun w => decide (w.1 ≠ p)) := by
  unfold dropK kW
  rw [List.filter_map]
  congr 1
  exact List.filter_congr fun n _ => decide_eq_decide.mpr ⟨fun h z => h (congrArg Sum.inl z), fun h z => h (Sum.inl.inj z)⟩
theorem upZ_more (n : Nat) : upZ n ++ [(n : Int)] = upZ (n + 1) := by
  unfold upZ
  rw [List.range_succ, List.map_append]
  rfl
section
variable {P : Program} {w : World} {K : PySem.W.Frag} {mg : Str → Option Value} {base : Heap}
abbrev s__law_given_right : Stmt := top 21
theorem sc__law_given_right : FnScope ["_law_rounds", "_law_watched", "_law_used", "_law_given", "_law_free", "_law_place"] ["_law_rounds", "_law_watched", "_law_used", "_law_given"] (defScope s__law_given_right) := ⟨rfl, rfl, rfl, by decide +kernel, rfl, by decide +kernel, by decide +kernel⟩
def spGR (C : Addr) : Sp := fun vs H Q _ => ∃ (A : Ad) (S : RS) (ws : List (Int × Addr)) (f : Int → List Int) (m : Nat), vs = [.ref A.x, .ref A.wd, .ref A.lu, .ref A.lg] ∧ Hse C A H S ws f m ∧ m ≤ 200 ∧ Nx C A [] ws m H Q
theorem ok_gr {C f : Addr} {fd : FuncData} (hd : ∃ f fd, Dn K mg "_law_given_right" "_law_given_right" s__law_given_right ["_law_rounds", "_law_watched", "_law_used", "_law_given"] f fd) (R : RdN K mg C f fd) (T : Txt K mg)
    (m1 : MtOk P w K mg base CX0 C "given" ["self"] 3 (spGiven C)) : OkD P w K mg base "_law_given_right" s__law_given_right ["_law_rounds", "_law_watched", "_law_used", "_law_given"] 4 (spGR C) := by
  obtain ⟨f0, fd0, D⟩ := hd
  obtain ⟨f1, fd1, Me_given, B_given, G_given⟩ := m1
  have CL := R.cl
  refine ⟨f0, fd0, D, D.fn.ok sc__law_given_right (fun vs H Q E h => ?_) (fun cdv AA outer s H vs Q E hr h => ?_)⟩
  · obtain ⟨_, _, _, _, _, rfl, _⟩ := h
    rfl
  · obtain ⟨A, S, ws, f, m, rfl, h, hm, q⟩ := h
    have sc := sc__law_given_right
    have hu := hr.units0
    have big := big1000
    have a := h.a
    have b1 := a.b1
    rw [RS.len] at b1
    have b2 := a.b2
    have wl := a.wn.length_eq
    rw [List.length_map, List.length_append, List.length_map] at wl
    refine' ⟨_, (pss_cons (ps_set (i := 4) sc.nd rfl (Or.inl rfl) (pe_callB call_sortLB rfl T.n_sorted bt_sorted (pa_c (pe_thaw (pe_comp (blk_mk ["_law_watched"] [1]) rfl (pi_keys (pv 1)) (fun _ _ _ _ _ => (PTs.one (pt_cmpR (op_eqLK (K := K) rfl hu) (pe_dget (hu_of hr) (pv 1) (pv 0) (fun _ _ => rfl)) (pe_lst pa_nil) (nomark _)))) (fun _ _ _ _ _ => (pv 0)))) pa_nil)))
    (pss_cons (ps_set (i := 5) sc.nd rfl (Or.inl rfl) (pe_meth0 (pv 0) CL Me_given G_given (hr.mono (by decide)) B_given .nil pass0))
    (pss_cons (ps_if (pt_cmpR (op_neL hu) (pv 4) (pe_lst pa_nil) (nomark _))
      (pss_one (ps_expr (pe_dpop1 (pv 1) (pe_ix ix_list (pv 4) pe_int (fun _ _ => rfl)) ⟨rfl, rfl, rfl, rfl⟩)))
      (pss_one (ps_expr (pe_bm PySem.F.plainAttrs_list PySem.F.slot_list_append PySem.F.type_list_append mt_append (pv 3) (pa_c (pe_callB call_len_seq rfl T.n_len bt_len (pa_c (pv 3) pa_nil)) pa_nil)))))
    (pss_cons (ps_expr (pe_bm PySem.F.plainAttrs_list PySem.F.slot_list_append PySem.F.type_list_append mt_append (pv 2) (pa_c (pv 5) pa_nil)))
    (pss_one (ps_ret (pe_cmpR op_eq (pv 5) (pe_ix ix_list (pe_op op_cat (pv 4) (pe_slice sl_list (pv 3) (po_some (pe_un un_neg pe_int)) po_none)) pe_int (fun _ _ => rfl)) (nomark _)))))))), ?_⟩
    refine tseq1 (tasg1 ?_)
    refine comp_keys (ws := ws) (fun R z => ⟨_, rfl, z⟩) h.w (by omega) (fun p => decide (f p = [])) (fun v hv ob H2 R kb fz z => ?_) (fun v hv H2 R z => ⟨_, rfl, z H2 (Same.refl _)⟩) fun l1 H1 fl1 S1 e1 => ?_
    · have nv : v.2 ≠ A.wd := ne_of (h.wl v hv).1 h.w (fun z => nomatch z)
      have ev := kb _ _ (h.wl v hv).1 nv
      refine ⟨_, rfl, _, rfl, A.wd, _, rfl, .inl ⟨_, Sum.inl v.1, .inr ⟨ob, fz⟩, rfl, (kW_val h.wnd hv).symm⟩, (by show 0 ≤ sizeLine; decide), fun l0 f0 => ?_⟩
      have S0 := Same.upd (o := .lst []) f0
      refine ⟨v.2, l0, _, [], rfl, rfl, SqL.of (S0 _ _ ev), SqL.of upd_same, okPs_nil, _, rfl, ?_⟩
      rw [if_neg Bool.false_ne_true, eqPs_nil, nil_map]
      exact z _ S0
    refine ⟨l1, _, rfl, SqL.of e1, by refine Nat.le_trans (List.length_filter_le _ _) (by rw [List.length_map]; omega), fun fr pf sf l2 fl2 => ?_⟩
    have S2 := Same.upd (o := .lst (fr.map V.int)) fl2
    have e2 := upd_same (H := H1) (a := l2) (o := .lst (fr.map V.int))
    generalize upd H1 l2 _ = H2 at *
    have T2 := S1.trans S2
    have h2 := h.same T2
    have pfs : fr.Perm S.fs := pf.trans a.let
    have lfr := pfs.length_eq
    dsimp only [gName, tNext]
    refine ⟨_, rfl, A.x, A.dx, _, rfl, h2.r.x, rfl, A.x, A.dx, A.du, A.dk, A.df, A.dc, S, rfl, h2.r, a.ok, by rw [RS.len]; omega, fun p H3 hp r3 k3 => ?_⟩
    dsimp only [gName, tNext]
    have k3' : Keep [A.x, A.du, A.dk, A.df, A.dc] H2 H3 := k3.mono (by simp)
    have away := fun {b xs} => lst_away h2.r k3' (b := b) (xs := xs)
    have e3 := away e2
    have w3 := k3' _ _ h2.w h2.wx
    have u3 := away h2.u
    have g3 := away h2.g
    have o3 := away h2.o
    have l3 : ∀ v ∈ ws, H3 v.2 = some (.lst ((f v.1).map V.int)) := fun v hv => away (h2.wl v hv).1
    have n2u : l2 ≠ A.lu := (ne_of_none ((h.same S1).u) fl2).symm
    have n2g : l2 ≠ A.lg := (ne_of_none ((h.same S1).g) fl2).symm
    have kH3 : Keep A.all H H3 := (K22.Same.keep T2).trans (k3.mono (by unfold Ad.all; simp))
    -- what both ways come to
    refine seq2 (fun σ H4 => ∃ (gv : List Int) (ws' : List (Int × Addr)), σ = [some (.ref A.x), some (.ref A.wd), some (.ref A.lu), some (.ref A.lg), some (.ref l2), some (.int p)] ∧ H4 A.wd = some (.dK (kW ws')) ∧ (∀ v ∈ ws', v ∈ ws) ∧ H4 A.lg = some (.lst (gv.map V.int)) ∧ gv = upZ (S.take p).places.length ∧ Ag (S.take p) ws' f (m + 1) ∧ Keep [A.wd, A.lg] H3 H4 ∧ (fr.head? = some p ∨ fr = [] ∧ p = (S.places.length : Nat) ∧ (S.take p).places.length = S.places.length + 1)) ?s1 ?r1
    case s1 =>
      intro N z
      refine ⟨_, rfl, (by show 0 ≤ sizeLine; decide), fun l0 f0 => ?_⟩
      have S0 := Same.upd (o := .lst []) f0
      have e0 := upd_same (H := H3) (a := l0) (o := .lst [])
      generalize upd H3 l0 (.lst []) = H4 at *
      refine ⟨l2, l0, _, [], rfl, rfl, SqL.of (S0 _ _ e3), SqL.of e0, okPs_nil, _, rfl, ?_⟩
      rw [if_pos rfl, eqPs_nil, nil_map]
      cases ef : fr with
      | nil =>
        have efs : S.fs = [] := List.eq_nil_of_length_eq_zero (by rw [← lfr, ef]; rfl)
        have ep : p = (S.places.length : Nat) := by
          rcases hp with ⟨_, e⟩ | ⟨z, _⟩
          · exact e
          · rw [efs] at z; cases z
        have el : (S.take p).places.length = S.places.length + 1 := by
          rw [RS.len, RS.len]
          show (S.us ++ [p]).length + S.ks.length + (S.fs.filter _).length = _
          rw [efs, List.length_append]
          show S.us.length + 1 + S.ks.length + 0 = S.us.length + S.ks.length + 0 + 1
          omega
        refine iteF ?_
        refine ⟨_, rfl, .inl ⟨rfl, _, SqL.of (S0 _ _ g3)⟩, _, rfl, A.lg, _, rfl, .inl (SqL.of (S0 _ _ g3)), A.lg, _, _, rfl, rfl, S0 _ _ g3, by rw [List.length_map, upZ_len, RS.len]; omega, ?_⟩
        refine z _ _ ⟨upZ S.places.length ++ [((S.places.length : Nat) : Int)], ws, rfl, ?_, fun v hv => hv, ?_, by rw [el, upZ_more], by have := a.new efs; rw [← ep] at this; exact this, (K22.Same.keep S0).upd (by simp), .inr ⟨ef, ep, el⟩⟩
        · rw [upd_ne (ne_of (S0 _ _ w3) (S0 _ _ g3) (fun z => nomatch z))]
          exact S0 _ _ w3
        · rw [upd_same, List.map_append, List.length_map, upZ_len]
          rfl
      | cons f0 rest =>
        have hf0 : f0 ∈ S.fs := pfs.mem_iff.mp (by rw [ef]; exact List.mem_cons_self ..)
        have ep : p = f0 := by
          rcases hp with ⟨e, _⟩ | ⟨z, le⟩
          · rw [e] at hf0; cases hf0
          · have h1 := le f0 hf0
            rw [ef] at sf
            rcases List.mem_cons.mp (by rw [← ef]; exact pfs.mem_iff.mpr z) with e | e
            · exact e
            · have := (List.pairwise_cons.mp sf).1 p e
              omega
        subst ep
        have hw : p ∈ ws.map (·.1) := a.wn.mem_iff.mpr (List.mem_append_right _ hf0)
        obtain ⟨v0, hv0, ev0⟩ := List.mem_map.mp hw
        have el : (S.take p).places.length = S.places.length := by
          have fo := (filter_out a.ok.fsn hf0).length_eq
          rw [List.length_cons] at fo
          rw [RS.len, RS.len]
          show (S.us ++ [p]).length + S.ks.length + (S.fs.filter _).length = _
          rw [List.length_append]
          show S.us.length + 1 + S.ks.length + _ = _
          omega
        have e3' := S0 _ _ e3
        rw [ef] at e3'
        refine iteT ?_
        refine ⟨_, rfl, A.wd, rfl, .inl ⟨_, .inl (S0 _ _ w3)⟩, _, rfl, l2, _, 0, .int p, rfl, rfl, SqL.of e3', (show atI _ ((0 : Nat) : Int) = _ from atI_nat rfl), _, Sum.inl p, .ref v0.2, S0 _ _ w3, rfl, (by rw [← ev0]; exact kW_val h.wnd hv0), ?_⟩
        rw [kW_drop]
        refine z _ _ ⟨upZ S.places.length, ws.filter fun w => decide (w.1 ≠ p), rfl, upd_same, fun v hv => (List.mem_filter.mp hv).1, ?_, by rw [el], a.old hf0 ?_, (K22.Same.keep S0).upd (by simp), .inl (by rw [ef]; rfl)⟩
        · rw [upd_ne (ne_of (S0 _ _ g3) (S0 _ _ w3) (fun z => nomatch z))]
          exact S0 _ _ g3
        · rw [List.filter_map]
          rfl
    case r1 =>
    rintro _ H4 ⟨gv, ws', rfl, w4, sub, g4, egv, ag, k4, hd⟩
    have nl : ∀ {b : Addr} {xs : List V}, H3 b = some (.lst xs) → b ≠ A.lg → H4 b = some (.lst xs) := fun {b xs} e n => k4 b _ e (by
      simp only [List.mem_cons, List.not_mem_nil, or_false, not_or]
      exact ⟨ne_of e w3 (fun z => nomatch z), n⟩)
    have u4 := nl u3 h.n1
    have o4 := nl o3 (Ne.symm h.n3)
    have e4 := nl e3 n2g
    refine ⟨_, rfl, .inl ⟨rfl, _, SqL.of u4⟩, _, rfl, A.lu, _, _, rfl, rfl, u4, by rw [List.length_map]; omega, ?_⟩
    have eu5 : S.us.map V.int ++ [V.int p] = (S.take p).us.map V.int := by show _ = (S.us ++ [p]).map V.int; rw [List.map_append]; rfl
    rw [eu5]
    have nl5 : ∀ {b : Addr} {o : HO}, H4 b = some o → b ≠ A.lu → upd H4 A.lu (.lst ((S.take p).us.map V.int)) b = some o := fun {b o} e n => by rw [upd_ne n]; exact e
    have u5 := upd_same (H := H4) (a := A.lu) (o := .lst ((S.take p).us.map V.int))
    have w5 := nl5 w4 (ne_of w4 u4 (fun z => nomatch z))
    have g5 := nl5 g4 (Ne.symm h.n1)
    have o5 := nl5 o4 (Ne.symm h.n2)
    have e5 := nl5 e4 n2u
    have l5 : ∀ v ∈ ws, upd H4 A.lu (.lst ((S.take p).us.map V.int)) v.2 = some (.lst ((f v.1).map V.int)) := fun v hv => nl5 (nl (l3 v hv) (h.wl v hv).2.2.1) (h.wl v hv).2.1
    have k5 : Keep [A.wd, A.lu, A.lg, A.lo] H3 (upd H4 A.lu (.lst ((S.take p).us.map V.int))) := (k4.mono (by simp)).upd (by simp)
    generalize upd H4 A.lu _ = H5 at *
    refine ⟨_, rfl, _, rfl, _, rfl, _, rfl, _, rfl, A.lg, _, rfl, SqL.of g5, fun l6 fl6 => ?_⟩
    have S6 := Same.upd (o := .lst (cutV (gv.map V.int) (some (-1)) none)) fl6
    have e6 := upd_same (H := H5) (a := l6) (o := .lst (cutV (gv.map V.int) (some (-1)) none))
    generalize upd H5 l6 _ = H6 at *
    have cl := cutV_length (gv.map V.int) (some (-1)) none
    have bl := ag.b1
    rw [List.length_map, egv, upZ_len] at cl
    refine ⟨l2, l6, _, _, rfl, rfl, S6 _ _ e5, e6, by rw [List.length_map, egv]; omega, fun l7 fl7 => ?_⟩
    have S7 := Same.upd (o := .lst (fr.map V.int ++ cutV (gv.map V.int) (some (-1)) none)) fl7
    have e7 := upd_same (H := H6) (a := l7) (o := .lst (fr.map V.int ++ cutV (gv.map V.int) (some (-1)) none))
    generalize upd H6 l7 _ = H7 at *
    have at0 : (fr.map V.int ++ cutV (gv.map V.int) (some (-1)) none)[0]? = some (.int p) := by
      rcases hd with e | ⟨e, ep, el⟩
      · cases fr with
        | nil => cases e
        | cons y ys => cases Option.some.inj e; rfl
      · rw [e, List.map_nil, List.nil_append]
        unfold cutV
        have i1 : HT.sIx (gv.map V.int).length 0 (some (-1)) = S.places.length := by
          show (if (-1 : Int) < 0 then (-1 + ((gv.map V.int).length : Int)).toNat else min (-1 : Int).toNat (gv.map V.int).length) = _
          rw [if_pos (by decide), List.length_map, egv, upZ_len, el]
          omega
        rw [i1, HT.sIx_none, List.length_map, egv, upZ_len, el, show S.places.length + 1 - S.places.length = 1 by omega, List.getElem?_take_of_lt (by omega), List.getElem?_drop, Nat.add_zero, List.getElem?_map, upZ_get (by omega), ep]
        rfl
    refine ⟨l7, _, 0, .int p, rfl, rfl, SqL.of e7, (show atI _ ((0 : Nat) : Int) = _ from atI_nat at0), rfl, ?_⟩
    rw [decide_eq_true rfl]
    have T7 := S6.trans S7
    have r7 := (r3.keep k5 h.dis).same T7
    refine q H7 (S.take p) ws' f ⟨r7, T7 _ _ w5, fun v hv => ⟨T7 _ _ (l5 v (sub v hv)), (h.wl v (sub v hv)).2⟩, T7 _ _ u5, by rw [← egv]; exact T7 _ _ g5, T7 _ _ o5, h.n1, h.n2, h.n3, h.nw, ag⟩ ((kH3.trans (k5.mono (by unfold Ad.all; simp))).trans (K22.Same.keep T7)) (fun v hv => .inl ⟨v, sub v hv, rfl⟩)
end
end K22
set_option Elab.async false
set_option linter.all false
set_option maxRecDepth 100000
set_option maxHeartbeats 1000000
namespace K22
open PySem L2
theorem inV_int {i : Int} {ns : List Int} : inV (.int i) (ns.map V.int) = true ↔ i ∈ ns := by
  unfold inV
  rw [List.any_eq_true]
  constructor
  · rintro ⟨y, hy, e⟩
    obtain ⟨j, hj, rfl⟩ := List.mem_map.mp hy
    have : j = i := by simpa [eqV] using e
    exact this ▸ hj
  · intro h
    exact ⟨.int i, List.mem_map.mpr ⟨i, h, rfl⟩, by simp [eqV]⟩
theorem flat_ints {ns : List Int} : (ns.map V.int).all flatV = true := by
  rw [List.all_eq_true]
  intro y hy
  obtain ⟨j, _, rfl⟩ := List.mem_map.mp hy
  rfl
theorem Hse.kb {C : Addr} {A : Ad} {H H' : Hp} {S : RS} {ws : List (Int × Addr)} {f : Int → List Int} {m : Nat} {p : Addr} (h : Hse C A H S ws f m) (k : KB p H H') (np : p ∉ A.all) (nv : ∀ v ∈ ws, v.2 ≠ p) : Hse C A H' S ws f m := by
  have g : ∀ {b : Addr} {o : HO}, H b = some o → b ∈ A.all → H' b = some o := fun {b o} e hb => k b o e fun z => np (by rw [← z]; exact hb)
  unfold Ad.all at g
  exact ⟨⟨g h.r.x (by simp), g h.r.u (by simp), g h.r.k (by simp), g h.r.f (by simp), g h.r.c (by simp), h.r.nd⟩, g h.w (by simp), fun v hv => ⟨k _ _ (h.wl v hv).1 (nv v hv), (h.wl v hv).2⟩, g h.u (by simp), g h.g (by simp), g h.o (by simp), h.n1, h.n2, h.n3, h.nw, h.a⟩
section
variable {P : Program} {w : World} {K : PySem.W.Frag} {mg : Str → Option Value} {base : Heap}
abbrev s__law_deed_right : Stmt := top 23
theorem sc__law_deed_right : FnScope ["_law_box_here", "_law_rounds", "_law_state", "_law_watched", "_law_used", "_law_given", "_law_going", "_law_way", "_law_at", "_law_number"] ["_law_box_here", "_law_rounds", "_law_state"] (defScope s__law_deed_right) := ⟨rfl, rfl, rfl, by decide +kernel, rfl, by decide +kernel, by decide +kernel⟩
def spDeed (C : Addr) : Sp := fun vs H Q _ => ∃ (p t : Addr) (n : Nat) (A : Ad) (S : RS) (ws : List (Int × Addr)) (f : Int → List Int) (m : Nat), vs = [.ref p, .ref A.x, .ref t] ∧ Box H p n ∧ n ≤ 1000 ∧ H t = some (.tup [.ref A.wd, .ref A.lu, .ref A.lg, .ref A.lo]) ∧ p ∉ A.all ∧ (∀ v ∈ ws, v.2 ≠ p) ∧ Hse C A H S ws f m ∧ m ≤ 200 ∧ ∀ H' S ws' f n', Hse C A H' S ws' f (m + 1) → Keep ([p] ++ A.all) H H' → Box H' p n' → n' ≤ n + 2 → Nw ws ws' H → Q (.bl true) H'
theorem ok_deed {C f cE cD cT : Addr} {fd : FuncData} (hd : ∃ f fd, Dn K mg "_law_deed_right" "_law_deed_right" s__law_deed_right ["_law_box_here", "_law_rounds", "_law_state"] f fd) (R : RdN K mg C f fd) (T : Txt K mg)
    (h1 : OkD P w K mg base "_law_take" s__law_take ["_law_box_here", "_law_many"] 1 spTake) (h2 : OkD P w K mg base "_law_gone" s__law_gone ["_law_rounds", "_law_place", "_law_watched", "_law_used", "_law_going"] 7 (spGone C)) (h3 : OkD P w K mg base "_law_left" s__law_left ["_law_rounds", "_law_number", "_law_watched", "_law_going"] 8 (spLeft C)) (h4 : OkD P w K mg base "_law_given_right" s__law_given_right ["_law_rounds", "_law_watched", "_law_used", "_law_given"] 4 (spGR C))
    (m2 : MtOk P w K mg base (CXo P w) C "enter" ["self", "number"] 6 (spEnter C cD cT)) : OkD P w K mg base "_law_deed_right" s__law_deed_right ["_law_box_here", "_law_rounds", "_law_state"] 10 (spDeed C) := by
  obtain ⟨f0, fd0, D⟩ := hd
  obtain ⟨f1, fd1, D_law_take, G_law_take⟩ := h1
  obtain ⟨f2, fd2, D_law_gone, G_law_gone⟩ := h2
  obtain ⟨f3, fd3, D_law_left, G_law_left⟩ := h3
  obtain ⟨f4, fd4, D_law_given_right, G_law_given_right⟩ := h4
  obtain ⟨f7, fd7, Me_enter, B_enter, G_enter⟩ := m2
  have CL := R.cl
  refine ⟨f0, fd0, D, D.fn.ok sc__law_deed_right (fun vs H Q E h => ?_) (fun cdv AA outer s H vs Q E hr h => ?_)⟩
  · obtain ⟨_, _, _, _, _, _, _, _, rfl, _⟩ := h
    rfl
  · obtain ⟨p, t, n, A, S, ws, f, m, rfl, B, hn, et, np, nv, h, hm, q⟩ := h
    have sc := sc__law_deed_right
    have hu := hr.units0
    have big := big1000
    have a := h.a
    have b1 := a.b1
    rw [RS.len] at b1
    have b2 := a.b2
    refine' ⟨_, (pss_cons (ps_asg (pv 2) (pg_tup rfl (pgs_cons (pg_name (i := 3) sc.nd rfl (Or.inl rfl)) (pgs_cons (pg_name (i := 4) sc.nd rfl (Or.inl rfl)) (pgs_cons (pg_name (i := 5) sc.nd rfl (Or.inl rfl)) (pgs_cons (pg_name (i := 6) sc.nd rfl (Or.inl rfl)) pgs_nil))))))
    (pss_cons (ps_set (i := 7) sc.nd rfl (Or.inl rfl) (pe_call G_law_take (hr.mono (by decide)) rfl D_law_take.m D_law_take.fn.kp D_law_take.b .nil pass0 (pa_c (pv 0) (pa_c pe_int pa_nil))))
    (pss_cons (ps_set (i := 8) sc.nd rfl (Or.inl rfl) (pe_call G_law_take (hr.mono (by decide)) rfl D_law_take.m D_law_take.fn.kp D_law_take.b .nil pass0 (pa_c (pv 0) (pa_c pe_int pa_nil))))
    (pss_cons (ps_if (PW.pt (pw_and (pt_cmpR op_lt (pv 7) pe_int (nomark _)) (pw_and1 (pt_cmpR (op_neL hu) (pv 4) (pe_lst pa_nil) (nomark _)))))
      (pss_one (ps_ret (pe_call G_law_gone (hr.mono (by decide)) rfl D_law_gone.m D_law_gone.fn.kp D_law_gone.b .nil pass0 (pa_c (pv 1) (pa_c (pe_ix ix_list (pv 4) (pe_op op_mod (pv 8) (pe_callB call_len_seq rfl T.n_len bt_len (pa_c (pv 4) pa_nil))) (fun _ _ => rfl)) (pa_c (pv 3) (pa_c (pv 4) (pa_c (pv 6) pa_nil))))))))
      pss_nil)
    (pss_cons (ps_if (PW.pt (pw_and (pt_cmpR op_eq (pv 7) pe_int (nomark _)) (pw_and1 (pt_cmpR (op_neL hu) (pv 6) (pe_lst pa_nil) (nomark _)))))
      (pss_one (ps_ret (pe_call G_law_left (hr.mono (by decide)) rfl D_law_left.m D_law_left.fn.kp D_law_left.b .nil pass0 (pa_c (pv 1) (pa_c (pe_ix ix_list (pv 6) (pe_op op_mod (pv 8) (pe_callB call_len_seq rfl T.n_len bt_len (pa_c (pv 6) pa_nil))) (fun _ _ => rfl)) (pa_c (pv 3) (pa_c (pv 6) pa_nil)))))))
      pss_nil)
    (pss_cons (ps_if (pt_cmpR op_lt (pv 7) pe_int (nomark _))
      (pss_cons (ps_set (i := 9) sc.nd rfl (Or.inl rfl) (pe_op op_mul (pv 8) pe_int))
    (pss_cons (ps_if (pt_cmpR op_in_seq (pv 9) (pv 6) (by with_unfolding_all rfl))
      (pss_one (ps_ret (pe_call G_law_left (hr.mono (by decide)) rfl D_law_left.m D_law_left.fn.kp D_law_left.b .nil pass0 (pa_c (pv 1) (pa_c (pv 9) (pa_c (pv 3) (pa_c (pv 6) pa_nil)))))))
      pss_nil)
    (pss_cons (ps_expr (pe_bm PySem.F.plainAttrs_list PySem.F.slot_list_append PySem.F.type_list_append mt_append (pv 6) (pa_c (pv 9) pa_nil)))
    (pss_one (ps_ret (pe_cmpR op_isN (pe_meth (pv 1) CL Me_enter G_enter (hr.mono (by decide)) B_enter .nil passX (pa_c (pv 9) pa_nil)) pe_non (nomark _)))))))
      pss_nil)
    (pss_one (ps_ret (pe_call G_law_given_right (hr.mono (by decide)) rfl D_law_given_right.m D_law_given_right.fn.kp D_law_given_right.b .nil pass0 (pa_c (pv 1) (pa_c (pv 3) (pa_c (pv 4) (pa_c (pv 5) pa_nil))))))))))))), ?_⟩
    refine ⟨_, rfl, t, _, rfl, SqT.of et, rfl, _, _, rfl, _, _, rfl, _, _, rfl, _, _, rfl, rfl, ?_⟩
    dsimp only [gName, tNext]
    refine ⟨_, rfl, p, 8, n, rfl, B, by omega, by decide, by decide, fun way H1 a0 a1 B1 k1 => ?_⟩
    dsimp only [gName, tNext]
    refine ⟨_, rfl, p, 11, n + 1, rfl, B1, by omega, by decide, by decide, fun at1 H2 c0 c1 B2 k2 => ?_⟩
    dsimp only [gName, tNext]
    have K2 := k1.trans k2
    have h2 := h.kb K2 np nv
    have KA : ∀ {H' : Hp}, KB p H H' → Keep [p] H H' := fun {H'} k b o z nb => k b o z fun e => nb (by rw [e]; simp)
    have np' := np
    unfold Ad.all at np'
    simp only [List.mem_cons, List.not_mem_nil, or_false, not_or] at np'
    obtain ⟨q1, q2, q3, q4, q5, q6, q7, q8, q9⟩ := np'
    -- what the parts promise, told onward
    have go : ∀ {H3 H4 : Hp} {S' : RS} {ws' : List (Int × Addr)} {f' : Int → List Int}, KB p H H3 → Box H3 p (n + 2) → Hse C A H4 S' ws' f' (m + 1) → Keep A.all H3 H4 → Nw ws ws' H3 → Q (.bl true) H4 := fun {H3 H4 S' ws' f'} kb bx hh kk nw => by
      obtain ⟨x1, x2, x3, e, rest⟩ := bx
      have nw' : Nw ws ws' H := fun v hv => (nw v hv).imp id fun z => kb_back kb z (ne_of_none e z).symm
      exact q H4 S' ws' f' (n + 2) hh (((KA kb).mono (by simp)).trans (kk.mono fun b hb => List.mem_append_right _ hb)) ⟨x1, x2, x3, kk _ _ e np, rest⟩ (Nat.le_refl _) nw'
    refine seq2 (fun σ H3 => σ = [some (.ref p), some (.ref A.x), some (.ref t), some (.ref A.wd), some (.ref A.lu), some (.ref A.lg), some (.ref A.lo), some (.int way), some (.int at1), none] ∧ Hse C A H3 S ws f m ∧ Box H3 p (n + 2) ∧ KB p H H3) ?s1 ?r1
    case s1 =>
      intro N z
      refine ⟨_, rfl, _, _, rfl, rfl, _, rfl, ite2 (fun hw => ?_) (fun _ => iteF (z _ _ ⟨rfl, h2, B2, K2⟩))⟩
      refine ⟨_, rfl, (by show 0 ≤ sizeLine; decide), fun l0 f0 => ?_⟩
      have S0 := Same.upd (o := .lst []) f0
      have e0 := upd_same (H := H2) (a := l0) (o := .lst [])
      have h0 := h2.same S0
      have B0 := B2.same S0
      have k0 := K2.trans (S0.kb (p := p))
      generalize upd H2 l0 (.lst []) = H0 at *
      refine ⟨A.lu, l0, _, [], rfl, rfl, SqL.of h0.u, SqL.of e0, okPs_nil, _, rfl, ?_⟩
      rw [if_pos rfl, eqPs_nil, nil_map]
      by_cases eu : S.us = []
      · exact iteE (c := false) (by rw [decide_eq_true eu]; rfl) (iteF (z _ _ ⟨rfl, h0, B0, k0⟩))
      · refine iteE (c := true) (by rw [decide_eq_false eu]; rfl) (iteT ?_)
        have lp : (0 : Int) < ((S.us.map V.int).length : Nat) := by rw [List.length_map]; have := List.length_pos_iff.mpr eu; omega
        obtain ⟨pl, hpl, epl⟩ := atI_ints (ns := S.us) (r := at1 % ((S.us.map V.int).length : Nat)) (Int.emod_nonneg _ (Int.ne_of_gt lp)) (by have := Int.emod_lt_of_pos at1 lp; rw [List.length_map] at this ⊢; exact this)
        refine ⟨_, rfl, _, rfl, _, rfl, _, rfl, A.lu, _, rfl, .inl (SqL.of h0.u), _, _, rfl, rfl, lp, A.lu, _, _, _, rfl, rfl, SqL.of h0.u, epl, _, rfl, _, rfl, _, rfl, A, S, ws, f, m, pl, rfl, h0, hm, hpl, fun H4 S' ws' f' hh kk nw => go k0 B0 hh kk nw⟩
    case r1 =>
    rintro _ H3 ⟨rfl, h3, B3, K3⟩
    refine seq2 (fun σ H4 => σ = [some (.ref p), some (.ref A.x), some (.ref t), some (.ref A.wd), some (.ref A.lu), some (.ref A.lg), some (.ref A.lo), some (.int way), some (.int at1), none] ∧ Hse C A H4 S ws f m ∧ Box H4 p (n + 2) ∧ KB p H H4) ?s2 ?r2
    case s2 =>
      intro N z
      refine ⟨_, rfl, rfl, _, rfl, ite2 (fun hw => ?_) (fun _ => iteF (z _ _ ⟨rfl, h3, B3, K3⟩))⟩
      refine ⟨_, rfl, (by show 0 ≤ sizeLine; decide), fun l0 f0 => ?_⟩
      have S0 := Same.upd (o := .lst []) f0
      have e0 := upd_same (H := H3) (a := l0) (o := .lst [])
      have h0 := h3.same S0
      have B0 := B3.same S0
      have k0 := K3.trans (S0.kb (p := p))
      generalize upd H3 l0 (.lst []) = H0 at *
      refine ⟨A.lo, l0, _, [], rfl, rfl, SqL.of h0.o, SqL.of e0, okPs_nil, _, rfl, ?_⟩
      rw [if_pos rfl, eqPs_nil, nil_map]
      by_cases eu : S.cs.map (·.1) = []
      · exact iteE (c := false) (by rw [decide_eq_true eu]; rfl) (iteF (z _ _ ⟨rfl, h0, B0, k0⟩))
      · refine iteE (c := true) (by rw [decide_eq_false eu]; rfl) (iteT ?_)
        have lp : (0 : Int) < (((S.cs.map (·.1)).map V.int).length : Nat) := by rw [List.length_map]; have := List.length_pos_iff.mpr eu; omega
        obtain ⟨pl, hpl, epl⟩ := atI_ints (ns := S.cs.map (·.1)) (r := at1 % (((S.cs.map (·.1)).map V.int).length : Nat)) (Int.emod_nonneg _ (Int.ne_of_gt lp)) (by have := Int.emod_lt_of_pos at1 lp; rw [List.length_map] at this ⊢; exact this)
        refine ⟨_, rfl, _, rfl, _, rfl, _, rfl, A.lo, _, rfl, .inl (SqL.of h0.o), _, _, rfl, rfl, lp, A.lo, _, _, _, rfl, rfl, SqL.of h0.o, epl, _, rfl, _, rfl, A, S, ws, f, m, pl, rfl, h0, by omega, hpl, fun H4 ws' f' hh kk nw => go k0 B0 hh kk nw⟩
    case r2 =>
    rintro _ H4 ⟨rfl, h4, B4, K4⟩
    refine seq2 (fun σ H5 => ∃ o9 : Option V, σ = [some (.ref p), some (.ref A.x), some (.ref t), some (.ref A.wd), some (.ref A.lu), some (.ref A.lg), some (.ref A.lo), some (.int way), some (.int at1), o9] ∧ Hse C A H5 S ws f m ∧ Box H5 p (n + 2) ∧ KB p H H5) ?s3 ?r3
    case s3 =>
      intro N z
      refine ⟨_, rfl, _, _, rfl, rfl, _, rfl, ite2 (fun hw => ?_) (fun _ => z _ _ ⟨_, rfl, h4, B4, K4⟩)⟩
      refine ⟨_, rfl, _, _, rfl, rfl, ?cm, ?_⟩
      case cm => exact .inr ⟨by decide, by decide⟩
      dsimp only [gName, tNext]
      refine ⟨_, rfl, _, rfl, A.lo, _, rfl, .inl (SqL.of h4.o), rfl, flat_ints, _, rfl, ?_⟩
      by_cases hx : at1 * 90907 ∈ S.cs.map (·.1)
      · refine iteE (c := true) (by rw [if_neg Bool.false_ne_true]; exact inV_int.mpr hx) (iteT ?_)
        exact ⟨_, rfl, _, rfl, _, rfl, _, rfl, A, S, ws, f, m, _, rfl, h4, by omega, hx, fun H5 ws' f' hh kk nw => go K4 B4 hh kk nw⟩
      · refine iteE (c := false) (by rw [if_neg Bool.false_ne_true]; cases c : inV (.int (at1 * 90907)) ((S.cs.map (·.1)).map V.int) with | false => rfl | true => exact absurd (inV_int.mp c) hx) (iteF ?_)
        refine ⟨_, rfl, .inl ⟨rfl, _, SqL.of h4.o⟩, _, rfl, A.lo, _, _, rfl, rfl, h4.o, by rw [List.length_map, List.length_map]; omega, ?_⟩
        have eo : (S.cs.map (·.1)).map V.int ++ [V.int (at1 * 90907)] = ((S.come (at1 * 90907)).cs.map (·.1)).map V.int := by
          show _ = ((S.cs ++ [(at1 * 90907, S.lap)]).map (·.1)).map V.int
          rw [List.map_append, List.map_append]
          rfl
        rw [eo]
        have k5 : Keep [A.wd, A.lu, A.lg, A.lo] H4 (upd H4 A.lo (.lst (((S.come (at1 * 90907)).cs.map (·.1)).map V.int))) := Keep.refl.upd (by simp)
        have o5 := upd_same (H := H4) (a := A.lo) (o := .lst (((S.come (at1 * 90907)).cs.map (·.1)).map V.int))
        have ol : ∀ {b : Addr} {o : HO}, H4 b = some o → b ≠ A.lo → upd H4 A.lo (.lst (((S.come (at1 * 90907)).cs.map (·.1)).map V.int)) b = some o := fun {b o} e n => by rw [upd_ne n]; exact e
        have w5 := ol h4.w (ne_of h4.w h4.o (fun z => nomatch z))
        have u5 := ol h4.u h.n2
        have g5 := ol h4.g h.n3
        have l5 : ∀ v ∈ ws, upd H4 A.lo (.lst (((S.come (at1 * 90907)).cs.map (·.1)).map V.int)) v.2 = some (.lst ((f v.1).map V.int)) := fun v hv => ol (h4.wl v hv).1 (h4.wl v hv).2.2.2
        generalize upd H4 A.lo _ = H5 at *
        have r5 := h4.rk k5
        refine ⟨_, rfl, A.x, A.dx, _, rfl, r5.x, rfl, _, rfl, ?_⟩
        dsimp only [tNil, List.append_nil]
        refine ⟨A.x, A.dx, A.du, A.dk, A.df, A.dc, S, at1 * 90907, rfl, r5, by omega, fun x0 x1 _ H6 r6 k6 => ?_, fun no => absurd ⟨by omega, by omega⟩ no, fun _ _ no => absurd no hx⟩
        refine ⟨rfl, ?_⟩
        have k6' : Keep [A.x, A.du, A.dk, A.df, A.dc] H5 H6 := k6.mono (by simp)
        have away := fun {b xs} => lst_away r5 k6' (b := b) (xs := xs)
        exact go K4 B4 ⟨r6, k6' _ _ w5 h.wx, fun v hv => ⟨away (l5 v hv), (h.wl v hv).2⟩, away u5, away g5, away o5, h.n1, h.n2, h.n3, h.nw, a.come x0 x1 hx⟩ ((k5.mono (by unfold Ad.all; simp)).trans (k6.mono (by unfold Ad.all; simp))) (fun v hv => .inl ⟨v, hv, rfl⟩)
    case r3 =>
    rintro _ H5 ⟨o9, rfl, h5, B5, K5⟩
    exact ⟨_, rfl, _, rfl, _, rfl, _, rfl, A, S, ws, f, m, rfl, h5, hm, fun H6 S' ws' f' hh kk nw => go K5 B5 hh kk nw⟩
end
end K22
set_option Elab.async false
set_option linter.all false
set_option maxRecDepth 100000
set_option maxHeartbeats 1000000
namespace K22
open PySem L2
theorem sq_same {K : PySem.W.Frag} {H H' : Hp} {a : Addr} {xs : List V} (h : SqL K H a xs) (s : Same H H') : SqL K H' a xs := by
  rcases h with (h | ⟨o, h⟩) | h
  · exact .inl (.inl (s _ _ h))
  · exact .inl (.inr ⟨o, s _ _ h⟩)
  · exact .inr h
theorem Ag.start : Ag ⟨0, [], [], [], []⟩ [] (fun _ => []) 0 :=
  ⟨⟨List.nodup_nil, (fun p h => by cases h), List.nodup_nil, (fun c h => by cases h)⟩, .nil, (fun c h => by cases h), (fun c h => by cases h), (fun c h => by cases h), (fun c h => by cases h), (fun c h => by cases h), Nat.le_refl 0, Nat.le_refl 0⟩
def Own (C t : Addr) (A : Ad) (H0 H : Hp) (m : Nat) : Prop := ∃ S ws f, Hse C A H S ws f m ∧ Same H0 H ∧ (∀ b ∈ A.all, H0 b = none) ∧ H t = some (.tup [.ref A.wd, .ref A.lu, .ref A.lg, .ref A.lo])
theorem keep_own {H0 H H' : Hp} {l : List Addr} (s : Same H0 H) (k : Keep l H H') (n : ∀ b ∈ l, H0 b = none) : Same H0 H' := fun b o z => k b o (s b o z) fun hb => by rw [n b hb] at z; cases z
theorem tup_keep {C : Addr} {A : Ad} {H H' : Hp} {S : RS} {ws : List (Int × Addr)} {f : Int → List Int} {m : Nat} {l : List Addr} {t : Addr} {xs : List V} (h : Hse C A H S ws f m) (k : Keep (l ++ A.all) H H') (hl : ∀ b ∈ l, ∃ ys, H b = some (.lst ys)) (e : H t = some (.tup xs)) : H' t = some (.tup xs) := k t _ e fun hb => by
  rcases List.mem_append.mp hb with z | z
  · obtain ⟨ys, e2⟩ := hl t z
    rw [e2] at e
    cases e
  · unfold Ad.all at z
    simp only [List.mem_cons, List.not_mem_nil, or_false] at z
    rcases z with rfl | rfl | rfl | rfl | rfl | rfl | rfl | rfl | rfl
    · rw [h.r.x] at e; cases e
    · rw [h.r.u] at e; cases e
    · rw [h.r.k] at e; cases e
    · rw [h.r.f] at e; cases e
    · rw [h.r.c] at e; cases e
    · rw [h.w] at e; cases e
    · rw [h.u] at e; cases e
    · rw [h.g] at e; cases e
    · rw [h.o] at e; cases e
theorem Hse.all {C : Addr} {A : Ad} {H : Hp} {S : RS} {ws : List (Int × Addr)} {f : Int → List Int} {m : Nat} (h : Hse C A H S ws f m) : ∀ b ∈ A.all, ∃ o, H b = some o := fun b z => by
  unfold Ad.all at z
  simp only [List.mem_cons, List.not_mem_nil, or_false] at z
  rcases z with rfl | rfl | rfl | rfl | rfl | rfl | rfl | rfl | rfl
  · exact ⟨_, h.r.x⟩
  · exact ⟨_, h.r.u⟩
  · exact ⟨_, h.r.k⟩
  · exact ⟨_, h.r.f⟩
  · exact ⟨_, h.r.c⟩
  · exact ⟨_, h.w⟩
  · exact ⟨_, h.u⟩
  · exact ⟨_, h.g⟩
  · exact ⟨_, h.o⟩
theorem Hse.re {C : Addr} {A : Ad} {H : Hp} {S : RS} {ws : List (Int × Addr)} {f : Int → List Int} {m n : Nat} (h : Hse C A H S ws f m) (b1 : S.places.length ≤ n) (b2 : S.cs.length ≤ n) : Hse C A H S ws f n := ⟨h.r, h.w, h.wl, h.u, h.g, h.o, h.n1, h.n2, h.n3, h.nw, ⟨h.a.ok, h.a.wn, h.a.wk, h.a.wf, h.a.np, h.a.cl, h.a.kl, b1, b2⟩⟩
theorem drop_out {ns : List Int} (nd : ns.Nodup) {i : Nat} {n : Int} (h : ns[i]? = some n) : (ns.drop i).filter (fun z => decide (z ≠ n)) = ns.drop (i + 1) := by
  obtain ⟨hi, e⟩ := List.getElem?_eq_some_iff.mp h
  have nd' := nd.sublist (List.drop_sublist i ns)
  rw [List.drop_eq_getElem_cons hi, e] at nd' ⊢
  rw [List.filter_cons_of_neg (by simp)]
  exact List.filter_eq_self.mpr fun y hy => decide_eq_true (show y ≠ n from fun z => (List.nodup_cons.mp nd').1 (by rw [← z]; exact hy))
def spLaw (K : PySem.W.Frag) : Sp := fun vs H Q _ => ∃ (a : Addr) (ns : List Int), vs = [.ref a] ∧ SqL K H a (ns.map V.int) ∧ ns.length ≤ 63 ∧ ∀ H', Q (.bl true) H'
section
variable {P : Program} {w : World} {K : PySem.W.Frag} {mg : Str → Option Value} {base : Heap}
abbrev s_law : Stmt := top 24
theorem sc_law : FnScope ["_law_script", "_law_rounds", "_law_state", "_law_k", "_law_box_here", "_law_turn", "_law_number"] ["_law_script"] (defScope s_law) := ⟨rfl, rfl, rfl, by decide +kernel, rfl, by decide +kernel, by decide +kernel⟩
theorem ok_law {C f : Addr} {fd : FuncData} (hd : ∃ f fd, Dn K mg "law" "law" s_law ["_law_script"] f fd) (XRounds : RdN K mg C f fd) (T : Txt K mg) (GRounds : FnOk P w K mg base CX0 1 f fd ["self"] (spInit C))
    (h1 : OkD P w K mg base "_law_cell" s__law_cell ["_law_script", "_law_k"] 1 (spCell K)) (h2 : OkD P w K mg base "_law_box" s__law_box ["_law_cell_here"] 1 spBox) (h3 : OkD P w K mg base "_law_take" s__law_take ["_law_box_here", "_law_many"] 1 spTake)
    (h4 : OkD P w K mg base "_law_told_right" s__law_told_right ["_law_rounds", "_law_watched", "_law_used", "_law_given"] 3 (spTR C)) (h5 : OkD P w K mg base "_law_left" s__law_left ["_law_rounds", "_law_number", "_law_watched", "_law_going"] 8 (spLeft C)) (h6 : OkD P w K mg base "_law_deed_right" s__law_deed_right ["_law_box_here", "_law_rounds", "_law_state"] 10 (spDeed C)) (m2 : MtOk P w K mg base CX0 C "kept" ["self"] 1 (spPairs C false)) :
    OkD P w K mg base "law" s_law ["_law_script"] 12 (spLaw K) := by
  obtain ⟨f0, fd0, D⟩ := hd
  obtain ⟨f1, fd1, D_law_cell, G_law_cell⟩ := h1
  obtain ⟨f2, fd2, D_law_box, G_law_box⟩ := h2
  obtain ⟨f3, fd3, D_law_take, G_law_take⟩ := h3
  obtain ⟨f4, fd4, D_law_told_right, G_law_told_right⟩ := h4
  obtain ⟨f5, fd5, D_law_left, G_law_left⟩ := h5
  obtain ⟨f6, fd6, D_law_deed_right, G_law_deed_right⟩ := h6
  obtain ⟨f7, fd7, Me_kept, B_kept, G_kept⟩ := m2
  have CL := XRounds.cl
  refine ⟨f0, fd0, D, D.fn.ok sc_law (fun vs H Q E h => ?_) (fun cdv AA outer s H vs Q E hr h => ?_)⟩
  · obtain ⟨_, _, rfl, _⟩ := h
    rfl
  · obtain ⟨a, ns, rfl, hS, hz, q⟩ := h
    have sc := sc_law
    have hu := hr.units0
    have big := big1000
    refine' ⟨_, (pss_cons (ps_set (i := 1) sc.nd rfl (Or.inl rfl) (pe_make0 XRounds.mak GRounds (hr.mono (by decide)) rfl XRounds.m XRounds.bi .nil pass0))
    (pss_cons (ps_set (i := 2) sc.nd rfl (Or.inl rfl) (pe_tup (pa_c pe_dnewK (pa_c (pe_lst pa_nil) (pa_c (pe_lst pa_nil) (pa_c (pe_lst pa_nil) pa_nil))))))
    (pss_cons (ps_for PassesOwn.never rfl (pi_range1 rfl T.n_range (pa_c (pe_callB (call_max2 rfl) rfl T.n_max bt_max (pa_c pe_int (pa_c (pe_callB (call_min2 rfl) rfl T.n_min bt_min (pa_c pe_int (pa_c (pe_callB call_len_seq rfl T.n_len bt_len (pa_c (pv 0) pa_nil)) pa_nil))) pa_nil))) pa_nil)) (pg_name (i := 3) sc.nd rfl (Or.inl rfl))
      (pss_cons (ps_set (i := 4) sc.nd rfl (Or.inl rfl) (pe_call G_law_box (hr.mono (by decide)) rfl D_law_box.m D_law_box.fn.kp D_law_box.b .nil pass0 (pa_c (pe_call G_law_cell (hr.mono (by decide)) rfl D_law_cell.m D_law_cell.fn.kp D_law_cell.b .nil pass0 (pa_c (pv 0) (pa_c (pv 3) pa_nil))) pa_nil)))
    (pss_one (ps_for PassesOwn.never rfl (pi_range1 rfl T.n_range (pa_c (pe_op op_add pe_int (pe_call G_law_take (hr.mono (by decide)) rfl D_law_take.m D_law_take.fn.kp D_law_take.b .nil pass0 (pa_c (pv 4) (pa_c pe_int pa_nil)))) pa_nil)) (pg_name (i := 5) sc.nd rfl (Or.inl rfl))
      (pss_cons (ps_if (pt_not (pt_val (pe_call G_law_deed_right (hr.mono (by decide)) rfl D_law_deed_right.m D_law_deed_right.fn.kp D_law_deed_right.b .nil pass0 (pa_c (pv 4) (pa_c (pv 1) (pa_c (pv 2) pa_nil))))))
      (pss_one (ps_ret pe_bl))
      pss_nil)
    (pss_one (ps_if (pt_not (pt_val (pe_call G_law_told_right (hr.mono (by decide)) rfl D_law_told_right.m D_law_told_right.fn.kp D_law_told_right.b .nil pass0 (pa_c (pv 1) (pa_c (pe_ix ix_tup (pv 2) pe_int (fun _ _ => rfl)) (pa_c (pe_ix ix_tup (pv 2) pe_int (fun _ _ => rfl)) (pa_c (pe_ix ix_tup (pv 2) pe_int (fun _ _ => rfl)) pa_nil)))))))
      (pss_one (ps_ret pe_bl))
      pss_nil)))))))
    (pss_cons (ps_for PassesOwn.never rfl (pi_list (pe_callTy call_list_of rfl T.n_list bt_list (pa_c (pe_ix ix_tup (pv 2) pe_int (fun _ _ => rfl)) pa_nil))) (pg_name (i := 6) sc.nd rfl (Or.inl rfl))
      (pss_one (ps_if (pt_not (pt_val (pe_call G_law_left (hr.mono (by decide)) rfl D_law_left.m D_law_left.fn.kp D_law_left.b .nil pass0 (pa_c (pv 1) (pa_c (pv 6) (pa_c (pe_ix ix_tup (pv 2) pe_int (fun _ _ => rfl)) (pa_c (pe_ix ix_tup (pv 2) pe_int (fun _ _ => rfl)) pa_nil)))))))
      (pss_one (ps_ret pe_bl))
      pss_nil)))
    (pss_one (ps_ret (pe_and (pe_cmpR (op_eqL hu) (pe_meth0 (pv 1) CL Me_kept G_kept (hr.mono (by decide)) B_kept .nil pass0) (pe_lst pa_nil) (nomark _)) (pe_one (pe_call G_law_told_right (hr.mono (by decide)) rfl D_law_told_right.m D_law_told_right.fn.kp D_law_told_right.b .nil pass0 (pa_c (pv 1) (pa_c (pe_ix ix_tup (pv 2) pe_int (fun _ _ => rfl)) (pa_c (pe_ix ix_tup (pv 2) pe_int (fun _ _ => rfl)) (pa_c (pe_ix ix_tup (pv 2) pe_int (fun _ _ => rfl)) pa_nil))))))))))))), ?_⟩
    intro x dx fx fdx nxd
    have S1 : Same H (upd (upd H dx (.own x)) x (.ins C dx [])) := fun b o z => by rw [upd_ne (ne_of_none z fx), upd_ne (ne_of_none z fdx)]; exact z
    have e1 := upd_same (H := upd H dx (.own x)) (a := x) (o := .ins C dx [])
    dsimp only [tNil, List.append_nil]
    generalize upd (upd H dx (.own x)) x (.ins C dx []) = H1 at *
    refine ⟨x, dx, rfl, e1, fun du dk df dc H2 gu1 gk1 gf1 gc1 r2 k2 => ⟨rfl, ?_⟩⟩
    have S2 : Same H H2 := fun b o z => k2 _ _ (S1 _ _ z) (by simp [ne_of_none z fx])
    dsimp only [gName, tNext]
    intro wd fw
    have Sw := Same.upd (o := .dK []) fw
    have ew := upd_same (H := H2) (a := wd) (o := .dK [])
    have nwd : wd ≠ du ∧ wd ≠ dk ∧ wd ≠ df ∧ wd ≠ dc := ⟨(ne_of_none r2.u fw).symm, (ne_of_none r2.k fw).symm, (ne_of_none r2.f fw).symm, (ne_of_none r2.c fw).symm⟩
    have r3 := r2.same Sw
    have T3 := S2.trans Sw
    have gw := S2.free fw
    generalize upd H2 wd (.dK []) = H3 at *
    refine ⟨(by show 0 ≤ sizeLine; decide), fun lu fu => ?_⟩
    have Su := Same.upd (o := .lst []) fu
    have eu := upd_same (H := H3) (a := lu) (o := .lst [])
    have T4 := T3.trans Su
    have gu := T3.free fu
    have r4 := r3.same Su
    replace ew := Su _ _ ew
    generalize upd H3 lu (.lst []) = H4 at *
    refine ⟨(by show 0 ≤ sizeLine; decide), fun lg fg => ?_⟩
    have Sg := Same.upd (o := .lst []) fg
    have eg := upd_same (H := H4) (a := lg) (o := .lst [])
    have T5 := T4.trans Sg
    have gg := T4.free fg
    have r5 := r4.same Sg
    have nug : lu ≠ lg := ne_of_none eu fg
    replace ew := Sg _ _ ew
    replace eu := Sg _ _ eu
    generalize upd H4 lg (.lst []) = H5 at *
    refine ⟨(by show 0 ≤ sizeLine; decide), fun lo fo => ?_⟩
    have So := Same.upd (o := .lst []) fo
    have eo := upd_same (H := H5) (a := lo) (o := .lst [])
    have T6 := T5.trans So
    have go := T5.free fo
    have r6 := r5.same So
    have nuo : lu ≠ lo := ne_of_none eu fo
    have ngo : lg ≠ lo := ne_of_none eg fo
    replace ew := So _ _ ew
    replace eu := So _ _ eu
    replace eg := So _ _ eg
    generalize upd H5 lo (.lst []) = H6 at *
    refine ⟨(by show 4 ≤ sizeLine; decide), fun t ft => ?_⟩
    have St := Same.upd (o := .tup [.ref wd, .ref lu, .ref lg, .ref lo]) ft
    have et := upd_same (H := H6) (a := t) (o := .tup [.ref wd, .ref lu, .ref lg, .ref lo])
    have T7 := T6.trans St
    dsimp only [gName, tNext]
    generalize upd H6 t _ = H7 at *
    have own : Own C t ⟨x, dx, du, dk, df, dc, wd, lu, lg, lo⟩ H H7 0 := by
      refine ⟨⟨0, [], [], [], []⟩, [], fun _ => [], ⟨r6.same St, St _ _ ew, (fun v hv => by cases hv), St _ _ eu, St _ _ eg, St _ _ eo, nug, nuo, ngo, nwd, Ag.start⟩, T7, fun b hb => ?_, et⟩
      unfold Ad.all at hb
      simp only [List.mem_cons, List.not_mem_nil, or_false] at hb
      rcases hb with rfl | rfl | rfl | rfl | rfl | rfl | rfl | rfl | rfl
      · exact fx
      · exact S1.free gu1
      · exact S1.free gk1
      · exact S1.free gf1
      · exact S1.free gc1
      · exact gw
      · exact gu
      · exact gg
      · exact go
    clear r2 r3 r4 r5 r6 ew eu eg eo et e1
    refine ⟨_, rfl, a, _, rfl, .inl (sq_same hS T7), _, _, rfl, _, _, rfl, _, rfl, ?b1, ?b2, for_range (fun i σ H8 => ∃ (o3 o4 o5 : Option V) (m : Nat), σ = [some (.ref a), some (.ref x), some (.ref t), o3, o4, o5, none] ∧ Own C t ⟨x, dx, du, dk, df, dc, wd, lu, lg, lo⟩ H H8 m ∧ m ≤ 3 * i) ⟨_, _, _, 0, rfl, own, by omega⟩ ?_ ?_⟩
    case b1 => rw [List.length_map]; split <;> split <;> omega
    case b2 => rw [List.length_map]; split <;> split <;> omega
    · rintro i σ H8 hi ⟨o3, o4, o5, m, rfl, ⟨S, ws, f, hh, S8, fr, et⟩, hm⟩
      have hi60 : i < 50 := by
        rw [List.length_map] at hi
        revert hi
        split <;> split <;> (intro hi; omega)
      refine ⟨_, rfl, _, rfl, a, i, ns, (by show [V.ref a, V.int (0 + (i : Int))] = _; rw [Int.zero_add]), sq_same hS S8, fun c' => ⟨c', rfl, fun p H9 fp Bp S9 => ?_⟩⟩
      dsimp only [gName, tNext]
      refine ⟨_, rfl, p, 3, 0, rfl, Bp, by decide, by decide, by decide, fun r H10 a0 a1 B10 k10 => ?_⟩
      have fpH := S8.free fp
      have np : p ∉ Ad.all ⟨x, dx, du, dk, df, dc, wd, lu, lg, lo⟩ := fun hb => by
        obtain ⟨o, e⟩ := hh.all p hb
        rw [fp] at e
        cases e
      have nv : ∀ v ∈ ws, v.2 ≠ p := fun v hv => ne_of_none (hh.wl v hv).1 fp
      have h10 : Hse C ⟨x, dx, du, dk, df, dc, wd, lu, lg, lo⟩ H10 S ws f m := (hh.same S9).kb k10 np nv
      have S10 : Same H H10 := fun b o z => k10 _ _ (S9 _ _ (S8 _ _ z)) (ne_of_none z fpH)
      have et10 : H10 t = some (.tup [.ref wd, .ref lu, .ref lg, .ref lo]) := k10 _ _ (S9 _ _ et) (ne_of_none et fp)
      refine ⟨_, _, rfl, rfl, _, rfl, by omega, by omega, for_range (fun j σ H11 => ∃ (o5 : Option V) (m' n : Nat) (S : RS) (ws : List (Int × Addr)) (f : Int → List Int), σ = [some (.ref a), some (.ref x), some (.ref t), some (.int (0 + (i : Int))), some (.ref p), o5, none] ∧ Hse C ⟨x, dx, du, dk, df, dc, wd, lu, lg, lo⟩ H11 S ws f m' ∧ Same H H11 ∧ H11 t = some (.tup [.ref wd, .ref lu, .ref lg, .ref lo]) ∧ (∀ v ∈ ws, v.2 ≠ p) ∧ Box H11 p n ∧ n ≤ 1 + 2 * j ∧ m' ≤ m + j) ⟨_, m, 1, S, ws, f, rfl, h10, S10, et10, nv, B10, by omega, by omega⟩ ?_ ?_⟩
      · rintro j σ H11 hj ⟨o5, m', n, S, ws, f, rfl, hh, S11, et, nv, B11, hn, hm'⟩
        have hj3 : j < 3 := by omega
        dsimp only [gName, tNext]
        refine ⟨_, rfl, _, rfl, _, rfl, p, t, n, ⟨x, dx, du, dk, df, dc, wd, lu, lg, lo⟩, S, ws, f, m', rfl, B11, by omega, et, np, nv, hh, by omega, fun H12 S' ws' f' n' hh' kk bx hn' nw => ⟨_, rfl, iteF ?_⟩⟩
        obtain ⟨ys, ey⟩ := B11.lst
        have et12 := tup_keep hh kk (fun b hb => by rw [List.mem_singleton.mp hb]; exact ⟨ys, ey⟩) et
        have S12 : Same H H12 := keep_own S11 kk fun b hb => by
          rcases List.mem_append.mp hb with z | z
          · rw [List.mem_singleton.mp z]; exact fpH
          · exact fr b z
        have nv12 : ∀ v ∈ ws', v.2 ≠ p := fun v hv => by
          rcases nw v hv with ⟨u, hu, e⟩ | e
          · rw [e]; exact nv u hu
          · exact (ne_of_none ey e).symm
        refine ⟨_, rfl, _, rfl, t, _, 0, _, rfl, rfl, SqT.of et12, (show atI _ ((0 : Nat) : Int) = _ from atI_nat rfl), _, rfl, t, _, 1, _, rfl, rfl, SqT.of et12, (show atI _ ((1 : Nat) : Int) = _ from atI_nat rfl), _, rfl, t, _, 2, _, rfl, rfl, SqT.of et12, (show atI _ ((2 : Nat) : Int) = _ from atI_nat rfl), ⟨x, dx, du, dk, df, dc, wd, lu, lg, lo⟩, S', ws', f', m' + 1, rfl, hh', by omega, fun H13 S13 => ⟨_, rfl, iteF ?_⟩⟩
        exact ⟨_, m' + 1, n', S', ws', f', rfl, hh'.same S13, S12.trans S13, S13 _ _ et12, nv12, bx.same S13, by omega, by omega⟩
      · rintro σ H11 ⟨o5, m', n, S, ws, f, rfl, hh, S11, et, nv, B11, hn, hm'⟩
        exact ⟨_, _, _, m', rfl, ⟨S, ws, f, hh, S11, fr, et⟩, by omega⟩
    · rintro σ H8 ⟨o3, o4, o5, m, rfl, ⟨S, ws, f, hh, S8, fr, et⟩, hm⟩
      have m150 : m ≤ 150 := by
        rw [List.length_map] at hm
        revert hm
        split <;> split <;> (intro hm; omega)
      refine ⟨_, rfl, t, _, 3, _, rfl, rfl, SqT.of et, (show atI _ ((3 : Nat) : Int) = _ from atI_nat rfl), lo, _, rfl, .inl (SqL.of hh.o), fun l9 fl9 => ?_⟩
      have S9 := Same.upd (o := .lst ((S.cs.map (·.1)).map V.int)) fl9
      have e9 := upd_same (H := H8) (a := l9) (o := .lst ((S.cs.map (·.1)).map V.int))
      have hh9 := hh.same S9
      have et9 := S9 _ _ et
      have T9 := S8.trans S9
      have g9 : l9 ∉ Ad.all ⟨x, dx, du, dk, df, dc, wd, lu, lg, lo⟩ := fun hb => by
        obtain ⟨o, e⟩ := hh.all l9 hb
        rw [fl9] at e
        cases e
      generalize upd H8 l9 _ = H9 at *
      refine ⟨l9, rfl, ⟨_, SqL.of e9⟩, for_list (xs := (S.cs.map (·.1)).map V.int) (fun i σ H10 => ∃ (o3 o4 o5 o6 : Option V) (S' : RS) (ws' : List (Int × Addr)) (f' : Int → List Int), σ = [some (.ref a), some (.ref x), some (.ref t), o3, o4, o5, o6] ∧ Hse C ⟨x, dx, du, dk, df, dc, wd, lu, lg, lo⟩ H10 S' ws' f' m ∧ H10 t = some (.tup [.ref wd, .ref lu, .ref lg, .ref lo]) ∧ S'.cs.map (·.1) = (S.cs.map (·.1)).drop i ∧ H10 l9 = some (.lst ((S.cs.map (·.1)).map V.int))) ⟨_, _, _, _, S, ws, f, rfl, hh9, et9, rfl, e9⟩ (fun i σ H10 _ ⟨_, _, _, _, _, _, _, _, _, _, _, e⟩ => SqL.of e) ?_ ?_⟩
      · rintro i v σ H10 hi ⟨o3, o4, o5, o6, S', ws', f', rfl, hh', et', ec, el⟩
        rw [List.getElem?_map] at hi
        obtain ⟨n, hn, rfl⟩ := Option.map_eq_some_iff.mp hi
        have hin : n ∈ S'.cs.map (·.1) := by
          rw [ec]
          obtain ⟨h1, h2⟩ := List.getElem?_eq_some_iff.mp hn
          rw [List.drop_eq_getElem_cons h1, h2]
          exact List.mem_cons_self ..
        dsimp only [gName, tNext]
        refine ⟨_, rfl, _, rfl, _, rfl, t, _, 0, _, rfl, rfl, SqT.of et', (show atI _ ((0 : Nat) : Int) = _ from atI_nat rfl), _, rfl, t, _, 3, _, rfl, rfl, SqT.of et', (show atI _ ((3 : Nat) : Int) = _ from atI_nat rfl), ⟨x, dx, du, dk, df, dc, wd, lu, lg, lo⟩, S', ws', f', m, n, rfl, hh', by omega, hin, fun H11 ws2 f2 hh2 kk nw => ⟨_, rfl, iteF ?_⟩⟩
        have b1 := hh'.a.b1
        have b2 := hh'.a.b2
        have fl : (S'.cs.filter fun c => decide (c.1 ≠ n)).length ≤ S'.cs.length := List.length_filter_le _ _
        refine ⟨_, _, _, _, _, ws2, f2, rfl, hh2.re (by rw [(S'.left n).rel_perm.length_eq]; exact b1) (by show (S'.cs.filter fun c => decide (c.1 ≠ n)).length ≤ m; omega), tup_keep (l := []) hh' kk (fun b hb => by cases hb) et', ?_, kk _ _ el g9⟩
        show (S'.cs.filter fun c => decide (c.1 ≠ n)).map (·.1) = _
        rw [← drop_out hh.a.ok.cn hn, ← ec, List.filter_map]
        rfl
      · rintro σ H10 ⟨o3, o4, o5, o6, S', ws', f', rfl, hh', et', ec, el⟩
        rw [List.length_map, List.drop_length] at ec
        have ecs : S'.cs = [] := List.map_eq_nil_iff.mp ec
        have eks : S'.ks = [] := by
          cases c : S'.ks with
          | nil => rfl
          | cons k ks =>
            have := hh'.a.np k (by rw [c]; exact List.mem_cons_self ..)
            rw [ecs] at this
            cases this
        refine ⟨_, rfl, x, dx, _, rfl, hh'.r.x, rfl, x, dx, du, dk, df, dc, S', rfl, hh'.r, fun l11 ts H11 fl11 S11 e11 tt => ?_⟩
        rw [if_neg Bool.false_ne_true, eks] at tt
        have ets : ts = [] := List.eq_nil_of_length_eq_zero tt.1
        subst ets
        refine ⟨(by show 0 ≤ sizeLine; decide), fun l12 f12 => ?_⟩
        have S12 := Same.upd (o := .lst []) f12
        have e12 := upd_same (H := H11) (a := l12) (o := .lst [])
        generalize upd H11 l12 (.lst []) = H12 at *
        refine ⟨l11, l12, _, [], rfl, rfl, SqL.of (S12 _ _ e11), SqL.of e12, okPs_nil, ?_⟩
        rw [if_neg Bool.false_ne_true, eqPs_nil]
        have T12 := S11.trans S12
        have et12 := T12 _ _ et'
        refine ⟨true, rfl, iteT ?_⟩
        exact ⟨_, rfl, _, rfl, t, _, 0, _, rfl, rfl, SqT.of et12, (show atI _ ((0 : Nat) : Int) = _ from atI_nat rfl), _, rfl, t, _, 1, _, rfl, rfl, SqT.of et12, (show atI _ ((1 : Nat) : Int) = _ from atI_nat rfl), _, rfl, t, _, 2, _, rfl, rfl, SqT.of et12, (show atI _ ((2 : Nat) : Int) = _ from atI_nat rfl), ⟨x, dx, du, dk, df, dc, wd, lu, lg, lo⟩, S', ws', f', m, rfl, hh'.same T12, by omega, fun H13 _ => q H13⟩
end
end K22
set_option Elab.async false
set_option linter.all false
set_option maxRecDepth 100000
set_option maxHeartbeats 1000000
namespace K22
open PySem L2
structure CF (K : PySem.W.Frag) (mg : Str → Option Value) (T C : Addr) (x q : Str) (st : Stmt) (ps : List Str) : Prop where
  lk : ∃ (qn : Str) (N : Addr) (bs : List Value) (sn : List Str) (sub : List Value) (ab : Bool) (col : Option Bool) (dd : Option Addr) (k0 k1 k2 k3 k5 : Option Value), K.lookup C = some (excClassObj x qn C N bs (.ref T :: bmV) true sn sub ab col dd k0 k1 k2 k3 k5 "ValueError.__new__")
  ini : ∃ fI fd, PySem.W.findIn K (.ref C) "__init__" = some (some (.ref fI)) ∧ PySem.W.isFn K (.ref fI) = true ∧ Fun K "__init__" q st fI fd ∧ Binds K fd ("self" :: ps) []
  kp : PySem.W.keepIn K (.ref C) = true
  sa : PySem.W.findIn K (.ref C) "__setattr__" = some (some (.builtin "object.__setattr__"))
  ga : PySem.W.findIn K (.ref C) "__getattribute__" = some (some (.builtin "BaseException.__getattribute__"))
  no : PySem.W.findIn K (.ref C) "__getattr__" = some none
  ca : PySem.W.findIn K (.ref C) "__class__" = some (some (.builtin "object.__class__"))
  mC : mg x = some (.ref C)
  na : ∀ f ∈ ps, NoAttr K C f
structure TF (K : PySem.W.Frag) (mg : Str → Option Value) (T : Addr) : Prop where
  lk : ∃ (qn : Str) (N : Addr) (bs : List Value) (sn : List Str) (sub : List Value) (ab : Bool) (col : Option Bool) (dd : Option Addr) (k0 k1 k2 k3 k5 : Option Value), K.lookup T = some (excClassObj "TreeError" qn T N bs bmV true sn sub ab col dd k0 k1 k2 k3 k5 "ValueError.__new__") ∧
    ∃ (d0 : Value) (d1 : Option Addr) (es : Array DictEntry) (n : Nat) (sl' : Array (Option Value)), K.lookup N = some ⟨d0, d1, .dict es n, sl'⟩ ∧ strK es = true ∧ nsFind es "__init__" = none
  b : BaseInit K T
  init : PySem.W.findIn K (.ref T) "__init__" = some (some (.builtin "ValueError.__init__"))
  kp : PySem.W.keepIn K (.ref T) = true
  ga : PySem.W.findIn K (.ref T) "__getattribute__" = some (some (.builtin "BaseException.__getattribute__"))
  no : PySem.W.findIn K (.ref T) "__getattr__" = some none
  ca : PySem.W.findIn K (.ref T) "__class__" = some (some (.builtin "object.__class__"))
  cn : PySem.W.specialIn K (.builtin "object.__class__") "__get__" = some (some (.builtin "getset_descriptor.__get__"))
  ct : PySem.W.takesIn K (.builtin "object.__class__") = some true
  mT : mg "TreeError" = some (.ref T)
section
variable {K : PySem.W.Frag} {mg : Str → Option Value} {T C : Addr} {x q : Str} {st : Stmt} {ps : List Str}
theorem cls_in {nm qn : Str} {N : Addr} {bs bm : List Value} {sn : List Str} {sub : List Value} {ab : Bool} {col : Option Bool} {dd : Option Addr} {k0 k1 k2 k3 k5 : Option Value} {id : String} (h : K.lookup C = some (excClassObj nm qn C N bs bm true sn sub ab col dd k0 k1 k2 k3 k5 id)) :
    ∃ cd, PySem.W.clsIn K C = some cd ∧ cd.name = nm ∧ cd.hasDict = true ∧ cd.mro = .ref C :: bm ∧ PySem.W.typeIn K (.ref C) = some (.type "type") := by
  refine ⟨_, by unfold PySem.W.clsIn; rw [h], rfl, rfl, rfl, ?_⟩
  show (K.lookup C).map (·.cls) = _
  rw [h]
  rfl
theorem CF.cd (c : CF K mg T C x q st ps) : ∃ cd, PySem.W.clsIn K C = some cd ∧ cd.name = x ∧ cd.hasDict = true ∧ cd.mro = .ref C :: .ref T :: bmV ∧ PySem.W.typeIn K (.ref C) = some (.type "type") := by
  obtain ⟨_, _, _, _, _, _, _, _, _, _, _, _, _, h⟩ := c.lk
  exact cls_in h
theorem mro_cd {cd : ClassData} {l : List Value} {b : Value} (h : PySem.W.clsIn K C = some cd) (m : cd.mro = .ref C :: l) : PySem.W.mroIn K C b = some ((Value.ref C :: l).contains b) := by
  unfold PySem.W.mroIn
  rw [h, Option.bind_some, m]
  rfl
theorem hd_cd {cd : ClassData} (h : PySem.W.clsIn K C = some cd) (d : cd.hasDict = true) : PySem.W.hasDictIn K C = true := by
  unfold PySem.W.hasDictIn
  rw [h]
  exact d
theorem CF.g (c : CF K mg T C x q st ps) (t : TF K mg T) : ExG K C := by
  obtain ⟨cd, h, _, d, m, _⟩ := c.cd
  exact ⟨c.ga, c.no, (mro_cd h m).trans rfl, hd_cd h d, c.ca, t.cn, t.ct, (mro_cd h m).trans rfl, (mro_cd h m).trans rfl, (mro_cd h m).trans rfl, (mro_cd h m).trans rfl, (mro_cd h m).trans rfl⟩
theorem CF.er {C : Addr} {nm q fld : Str} {st : Stmt} (c : CF K mg T C nm q st [fld]) (t : TF K mg T) : ∃ fI fd, ErN K mg nm q st fld C T fI fd := by
  obtain ⟨cd, h, _, d, m, ty⟩ := c.cd
  obtain ⟨fI, fd, i1, i2, i3, i4⟩ := c.ini
  obtain ⟨qn, N, bs, sn, sub, ab, col, dd, k0, k1, k2, k3, k5, l⟩ := c.lk
  obtain ⟨_, TN, _, _, _, _, _, _, _, _, _, _, _, tl, d0, d1, es, n, sl', l2, s1, s2⟩ := t.lk
  exact ⟨fI, fd, { f := ⟨⟨⟨_, _, _, _, _, _, _, _, _, _, _, _, _, _, _, l⟩, ⟨_, _, _, _, tl, d0, d1, es, n, sl', l2, s1, s2⟩, i1, i2, c.kp⟩, hd_cd h d, c.sa⟩, g := c.g t, b := t.b, r := ⟨(mro_cd h m).trans rfl, ty⟩, fn := i3, bi := i4, mC := c.mC, mT := t.mT, no := c.na _ (List.mem_singleton.mpr rfl), xC := ⟨(mro_cd h m).trans rfl, ty, by rw [h]; rfl⟩, self := (mro_cd h m).trans (by rw [List.contains_cons]; simp) }⟩
theorem cls_mk {h : Heap} (X : K.In h) (G : h.Ns mainGlobals mg) {fI N : Addr} {qn : Str} {bs : List Value} {sn : List Str} {sub : List Value} {ab : Bool} {col : Option Bool} {dd : Option Addr} {k0 k1 k2 k3 k5 : Option Value} {od an : Option Addr} {osl : Array (Option Value)} {kV doc pm cdv ct : Value}
    (aC : PySem.W.nsIn K mainGlobals x = some (some (.ref C))) (aT : PySem.W.nsIn K mainGlobals "TreeError" = some (some (.ref T))) (lC : K.lookup C = some (excClassObj x qn C N bs (.ref T :: bmV) true sn sub ab col dd k0 k1 k2 k3 k5 "ValueError.__new__"))
    (i1 : PySem.W.findIn K (.ref C) "__init__" = some (some (.ref fI))) (i3 : PySem.W.keepIn K (.ref C) = true) (i5 : PySem.W.findIn K (.ref C) "__setattr__" = some (some (.builtin "object.__setattr__")))
    (g1 : PySem.W.findIn K (.ref C) "__getattribute__" = some (some (.builtin "BaseException.__getattribute__"))) (g2 : PySem.W.findIn K (.ref C) "__getattr__" = some none) (g4 : PySem.W.findIn K (.ref C) "__class__" = some (some (.builtin "object.__class__")))
    (l1 : K.lookup fI = some ⟨.type "function", od, .func (PySem.W.fnOf "__init__" q (defArgs st) (defBody st) (defScope st) .none kV doc pm an cdv ct), osl⟩) (c1 : PySem.W.codeIn K cdv q = true) (na : ∀ f ∈ ps, NoAttr K C f)
    (hb : ∀ (kV doc pm : Value) (an : Option Addr) (cdv ct : Value) (us : List Value), us.length = (("self" : Str) :: ps).length → bindArgs (PySem.W.fnOf "__init__" q (defArgs st) (defBody st) (defScope st) .none kV doc pm an cdv ct) ⟨us, []⟩ = pure ((("self" : Str) :: ps).zip us)) :
    ∃ C T, mg "TreeError" = some (.ref T) ∧ CF K mg T C x q st ps := by
  have kf : PySem.W.keepIn K (.ref fI) = true := by unfold PySem.W.keepIn; dsimp only; rw [l1]
  have ff : PySem.W.isFn K (.ref fI) = true := by
    unfold PySem.W.isFn
    rw [show PySem.W.typeIn K (.ref fI) = (K.lookup fI).map (·.cls) from rfl, l1]
    rfl
  exact ⟨C, T, PySem.W.mg_of X G aT, ⟨⟨qn, N, bs, sn, sub, ab, col, dd, k0, k1, k2, k3, k5, lC⟩, ⟨fI, _, i1, ff, fun_mk (st := st) l1 c1 kf, (fun_mk (st := st) l1 c1 kf).binds hb⟩, i3, i5, g1, g2, g4, PySem.W.mg_of X G aC, na⟩⟩
theorem na1 {f : Str} (h : PySem.W.findIn K (.ref C) f = some none) : ∀ g ∈ [f], NoAttr K C g := fun g hg => by rw [List.mem_singleton.mp hg]; exact h
theorem tf_mk {h : Heap} (X : K.In h) (G : h.Ns mainGlobals mg) {N : Addr} {qn : Str} {bs : List Value} {sn : List Str} {sub : List Value} {ab : Bool} {col : Option Bool} {dd : Option Addr} {k0 k1 k2 k3 k5 : Option Value} {d0 : Value} {d1 : Option Addr} {es : Array DictEntry} {n : Nat} {sl' : Array (Option Value)}
    (aT : PySem.W.nsIn K mainGlobals "TreeError" = some (some (.ref T))) (lT : K.lookup T = some (excClassObj "TreeError" qn T N bs bmV true sn sub ab col dd k0 k1 k2 k3 k5 "ValueError.__new__")) (lN : K.lookup N = some ⟨d0, d1, .dict es n, sl'⟩) (s1 : strK es = true) (s2 : nsFind es "__init__" = none)
    (b1 : PySem.W.specialIn K (.ref T) "__getattribute__" = some (some (.builtin "type.__getattribute__"))) (b2 : PySem.W.readsIn K T (.type "type") = true) (b3 : PySem.W.findCls K (.ref T) (.type "type") "__init__" = some (.val (.builtin "ValueError.__init__")))
    (i1 : PySem.W.findIn K (.ref T) "__init__" = some (some (.builtin "ValueError.__init__"))) (i3 : PySem.W.keepIn K (.ref T) = true)
    (g1 : PySem.W.findIn K (.ref T) "__getattribute__" = some (some (.builtin "BaseException.__getattribute__"))) (g2 : PySem.W.findIn K (.ref T) "__getattr__" = some none) (g4 : PySem.W.findIn K (.ref T) "__class__" = some (some (.builtin "object.__class__")))
    (g5 : PySem.W.specialIn K (.builtin "object.__class__") "__get__" = some (some (.builtin "getset_descriptor.__get__"))) (g6 : PySem.W.takesIn K (.builtin "object.__class__") = some true) : ∃ T, TF K mg T :=
  ⟨T, ⟨⟨qn, N, bs, sn, sub, ab, col, dd, k0, k1, k2, k3, k5, lT, d0, d1, es, n, sl', lN, s1, s2⟩, ⟨b1, b2, b3⟩, i1, i3, g1, g2, g4, g5, g6, PySem.W.mg_of X G aT⟩⟩
theorem fn_facts {fI : Addr} {od : Option Addr} {d : FuncData} {osl : Array (Option Value)} (l1 : K.lookup fI = some ⟨.type "function", od, .func d, osl⟩) : PySem.W.keepIn K (.ref fI) = true ∧ PySem.W.isFn K (.ref fI) = true := by
  refine ⟨by unfold PySem.W.keepIn; dsimp only; rw [l1], ?_⟩
  unfold PySem.W.isFn
  rw [show PySem.W.typeIn K (.ref fI) = (K.lookup fI).map (·.cls) from rfl, l1]
  rfl
theorem meth_mk {h : Heap} (X : K.In h) (G : h.Ns mainGlobals mg) {cn nm : Str} {C f : Addr} {od an : Option Addr} {osl : Array (Option Value)} {kV doc pm cdv ct : Value}
    (aC : PySem.W.nsIn K mainGlobals cn = some (some (.ref C))) (k1 : PySem.W.findIn K (.ref C) nm = some (some (.ref f))) (l1 : K.lookup f = some ⟨.type "function", od, .func (PySem.W.fnOf nm q (defArgs st) (defBody st) (defScope st) .none kV doc pm an cdv ct), osl⟩) (c1 : PySem.W.codeIn K cdv q = true)
    (hb : ∀ (kV doc pm : Value) (an : Option Addr) (cdv ct : Value) (us : List Value), us.length = ps.length → bindArgs (PySem.W.fnOf nm q (defArgs st) (defBody st) (defScope st) .none kV doc pm an cdv ct) ⟨us, []⟩ = pure (ps.zip us)) :
    ∃ C f fd, mg cn = some (.ref C) ∧ Meth K C nm f ∧ Fun K nm q st f fd ∧ Binds K fd ps [] := by
  obtain ⟨kf, ff⟩ := fn_facts l1
  exact ⟨C, f, _, PySem.W.mg_of X G aC, ⟨k1, ff, kf⟩, fun_mk (st := st) l1 c1 kf, (fun_mk (st := st) l1 c1 kf).binds hb⟩
theorem rdn_mk {h : Heap} (X : K.In h) (G : h.Ns mainGlobals mg) {C f : Addr} {od an : Option Addr} {osl : Array (Option Value)} {kV doc pm cdv ct : Value}
    (aC : PySem.W.nsIn K mainGlobals "Rounds" = some (some (.ref C))) (m1 : PySem.W.makesIn K C = true) (i1 : PySem.W.findIn K (.ref C) "__init__" = some (some (.ref f))) (i2 : PySem.W.keepIn K (.ref C) = true)
    (l1 : K.lookup f = some ⟨.type "function", od, .func (PySem.W.fnOf "__init__" "Rounds.__init__" (defArgs (inClass (top 14) 0)) (defBody (inClass (top 14) 0)) (defScope (inClass (top 14) 0)) .none kV doc pm an cdv ct), osl⟩) (c1 : PySem.W.codeIn K cdv "Rounds.__init__" = true)
    (p1 : PySem.W.plainGet K C Str.empty = true) (p2 : PySem.W.hasDictIn K C = true) (p3 : PySem.W.plainOver K C = true) (p4 : PySem.W.findIn K (.ref C) "__setattr__" = some (some (.builtin "object.__setattr__")))
    (n1 : PySem.W.findIn K (.ref C) "in_use" = some none) (n2 : PySem.W.findIn K (.ref C) "kept_laps" = some none) (n3 : PySem.W.findIn K (.ref C) "free_ones" = some none) (n4 : PySem.W.findIn K (.ref C) "call_laps" = some none) (n5 : PySem.W.findIn K (.ref C) "lap_now" = some none)
    (hb : ∀ (kV doc pm : Value) (an : Option Addr) (cdv ct : Value) (us : List Value), us.length = 1 → bindArgs (PySem.W.fnOf "__init__" "Rounds.__init__" (defArgs (inClass (top 14) 0)) (defBody (inClass (top 14) 0)) (defScope (inClass (top 14) 0)) .none kV doc pm an cdv ct) ⟨us, []⟩ = pure ((["self"] : List Str).zip us)) :
    ∃ C f fd, RdN K mg C f fd := by
  obtain ⟨kf, ff⟩ := fn_facts l1
  exact ⟨C, f, _, { mak := ⟨m1, i1, ff, i2⟩, fn := fun_mk (st := inClass (top 14) 0) l1 c1 kf, bi := (fun_mk (st := inClass (top 14) 0) l1 c1 kf).binds hb, m := PySem.W.mg_of X G aC, cl := ⟨p1, p2, p3, p4⟩, n1 := n1, n2 := n2, n3 := n3, n4 := n4, n5 := n5 }⟩
theorem int_of {h : Heap} (X : K.In h) (G : h.Ns mainGlobals mg) {x : Str} {i : Int} {t : Tok} (a : PySem.W.nsIn K mainGlobals x = some (some (.int i t))) : ∃ t, mg x = some (.int i t) := ⟨t, PySem.W.mg_of X G a⟩
theorem fun_uniq {x q : Str} {st : Stmt} {f : Addr} {fd fd' : FuncData} (a : Fun K x q st f fd) (b : Fun K x q st f fd') : fd = fd' := by
  obtain ⟨_, _, _, _, _, _, _, _, _, _, l1, _⟩ := a.ex
  obtain ⟨_, _, _, _, _, _, _, _, _, _, l2, _⟩ := b.ex
  rw [l1] at l2
  cases l2
  rfl
theorem mg_eq {x : Str} {a b : Addr} (h : mg x = some (.ref a)) (h' : mg x = some (.ref b)) : a = b := Value.ref.inj (Option.some.inj (h.symm.trans h'))
end
theorem last {P : Program} {w : World} {K : PySem.W.Frag} {mg : Str → Option Value} {fa : Addr} (T : Txt K mg) (TX : ∃ T, TF K mg T)
    (ENoPlace : ∃ C T', mg "TreeError" = some (.ref T') ∧ CF K mg T' C "NoPlace" "NoPlace.__init__" (inClass (top 3) 0) ["found"])
    (ENoDoer : ∃ C T', mg "TreeError" = some (.ref T') ∧ CF K mg T' C "NoDoer" "NoDoer.__init__" (inClass (top 4) 0) ["found"])
    (ETwice : ∃ C T', mg "TreeError" = some (.ref T') ∧ CF K mg T' C "Twice" "Twice.__init__" (inClass (top 5) 0) ["found"])
    (RX : ∃ C f fd, RdN K mg C f fd)
    (Mgiven : ∃ C f fd, mg "Rounds" = some (.ref C) ∧ Meth K C "given" f ∧ Fun K "given" "Rounds.given" (inClass (top 14) 1) f fd ∧ Binds K fd ["self"] [])
    (Mwent : ∃ C f fd, mg "Rounds" = some (.ref C) ∧ Meth K C "went" f ∧ Fun K "went" "Rounds.went" (inClass (top 14) 2) f fd ∧ Binds K fd ["self", "place"] [])
    (Menter : ∃ C f fd, mg "Rounds" = some (.ref C) ∧ Meth K C "enter" f ∧ Fun K "enter" "Rounds.enter" (inClass (top 14) 3) f fd ∧ Binds K fd ["self", "number"] [])
    (Mleave : ∃ C f fd, mg "Rounds" = some (.ref C) ∧ Meth K C "leave" f ∧ Fun K "leave" "Rounds.leave" (inClass (top 14) 4) f fd ∧ Binds K fd ["self", "number"] [])
    (Mrelease : ∃ C f fd, mg "Rounds" = some (.ref C) ∧ Meth K C "release" f ∧ Fun K "release" "Rounds.release" (inClass (top 14) 5) f fd ∧ Binds K fd ["self"] [])
    (Mis_past : ∃ C f fd, mg "Rounds" = some (.ref C) ∧ Meth K C "is_past" f ∧ Fun K "is_past" "Rounds.is_past" (inClass (top 14) 6) f fd ∧ Binds K fd ["self", "lap"] [])
    (Mis_used : ∃ C f fd, mg "Rounds" = some (.ref C) ∧ Meth K C "is_used" f ∧ Fun K "is_used" "Rounds.is_used" (inClass (top 14) 8) f fd ∧ Binds K fd ["self", "thing"] [])
    (Mmany_places : ∃ C f fd, mg "Rounds" = some (.ref C) ∧ Meth K C "many_places" f ∧ Fun K "many_places" "Rounds.many_places" (inClass (top 14) 10) f fd ∧ Binds K fd ["self"] [])
    (Mlap : ∃ C f fd, mg "Rounds" = some (.ref C) ∧ Meth K C "lap" f ∧ Fun K "lap" "Rounds.lap" (inClass (top 14) 11) f fd ∧ Binds K fd ["self"] [])
    (Mused : ∃ C f fd, mg "Rounds" = some (.ref C) ∧ Meth K C "used" f ∧ Fun K "used" "Rounds.used" (inClass (top 14) 12) f fd ∧ Binds K fd ["self"] [])
    (Mkept : ∃ C f fd, mg "Rounds" = some (.ref C) ∧ Meth K C "kept" f ∧ Fun K "kept" "Rounds.kept" (inClass (top 14) 13) f fd ∧ Binds K fd ["self"] [])
    (Mfree : ∃ C f fd, mg "Rounds" = some (.ref C) ∧ Meth K C "free" f ∧ Fun K "free" "Rounds.free" (inClass (top 14) 14) f fd ∧ Binds K fd ["self"] [])
    (d_is_number : ∃ f fd, Dn K mg "is_number" "is_number" s_is_number ["thing"] f fd) (d_is_whole : ∃ f fd, Dn K mg "is_whole" "is_whole" s_is_whole ["thing", "low", "high"] f fd) (d_is_place : ∃ f fd, Dn K mg "is_place" "is_place" s_is_place ["thing"] f fd) (d_is_count : ∃ f fd, Dn K mg "is_count" "is_count" s_is_count ["thing"] f fd) (d_is_doer : ∃ f fd, Dn K mg "is_doer" "is_doer" s_is_doer ["thing"] f fd) (d__law_cell : ∃ f fd, Dn K mg "_law_cell" "_law_cell" s__law_cell ["_law_script", "_law_k"] f fd) (d__law_box : ∃ f fd, Dn K mg "_law_box" "_law_box" s__law_box ["_law_cell_here"] f fd) (d__law_take : ∃ f fd, Dn K mg "_law_take" "_law_take" s__law_take ["_law_box_here", "_law_many"] f fd) (d__law_told_right : ∃ f fd, Dn K mg "_law_told_right" "_law_told_right" s__law_told_right ["_law_rounds", "_law_watched", "_law_used", "_law_given"] f fd) (d__law_gone : ∃ f fd, Dn K mg "_law_gone" "_law_gone" s__law_gone ["_law_rounds", "_law_place", "_law_watched", "_law_used", "_law_going"] f fd) (d__law_given_right : ∃ f fd, Dn K mg "_law_given_right" "_law_given_right" s__law_given_right ["_law_rounds", "_law_watched", "_law_used", "_law_given"] f fd) (d__law_left : ∃ f fd, Dn K mg "_law_left" "_law_left" s__law_left ["_law_rounds", "_law_number", "_law_watched", "_law_going"] f fd) (d__law_deed_right : ∃ f fd, Dn K mg "_law_deed_right" "_law_deed_right" s__law_deed_right ["_law_box_here", "_law_rounds", "_law_state"] f fd) (d_law : ∃ f fd, Dn K mg "law" "law" s_law ["_law_script"] f fd) (hmg : mg "law" = some (.ref fa)) :
    ∃ fd : FuncData, (∀ (s : Shared) (u : Value), BindsTo s fd ⟨[u], []⟩ [("_law_script", u)]) ∧ ∀ base : Heap, FnOk P w K mg base CX0 12 fa fd ["_law_script"] (spLaw K) := by
  obtain ⟨TT, TX⟩ := TX
  obtain ⟨cNoPlace, TNoPlace, eNoPlace, CNoPlace⟩ := ENoPlace
  cases mg_eq TX.mT eNoPlace
  obtain ⟨fNoPlace, fdNoPlace, xNoPlace⟩ := CNoPlace.er TX
  obtain ⟨cNoDoer, TNoDoer, eNoDoer, CNoDoer⟩ := ENoDoer
  cases mg_eq TX.mT eNoDoer
  obtain ⟨fNoDoer, fdNoDoer, xNoDoer⟩ := CNoDoer.er TX
  obtain ⟨cTwice, TTwice, eTwice, CTwice⟩ := ETwice
  cases mg_eq TX.mT eTwice
  obtain ⟨fTwice, fdTwice, xTwice⟩ := CTwice.er TX
  obtain ⟨cR, fR, fdR, XR⟩ := RX
  obtain ⟨C_given, f_given, fd_given, m0, m_given, n_given, b_given⟩ := Mgiven
  cases mg_eq XR.m m0
  obtain ⟨C_went, f_went, fd_went, m0, m_went, n_went, b_went⟩ := Mwent
  cases mg_eq XR.m m0
  obtain ⟨C_enter, f_enter, fd_enter, m0, m_enter, n_enter, b_enter⟩ := Menter
  cases mg_eq XR.m m0
  obtain ⟨C_leave, f_leave, fd_leave, m0, m_leave, n_leave, b_leave⟩ := Mleave
  cases mg_eq XR.m m0
  obtain ⟨C_release, f_release, fd_release, m0, m_release, n_release, b_release⟩ := Mrelease
  cases mg_eq XR.m m0
  obtain ⟨C_is_past, f_is_past, fd_is_past, m0, m_is_past, n_is_past, b_is_past⟩ := Mis_past
  cases mg_eq XR.m m0
  obtain ⟨C_is_used, f_is_used, fd_is_used, m0, m_is_used, n_is_used, b_is_used⟩ := Mis_used
  cases mg_eq XR.m m0
  obtain ⟨C_many_places, f_many_places, fd_many_places, m0, m_many_places, n_many_places, b_many_places⟩ := Mmany_places
  cases mg_eq XR.m m0
  obtain ⟨C_lap, f_lap, fd_lap, m0, m_lap, n_lap, b_lap⟩ := Mlap
  cases mg_eq XR.m m0
  obtain ⟨C_used, f_used, fd_used, m0, m_used, n_used, b_used⟩ := Mused
  cases mg_eq XR.m m0
  obtain ⟨C_kept, f_kept, fd_kept, m0, m_kept, n_kept, b_kept⟩ := Mkept
  cases mg_eq XR.m m0
  obtain ⟨C_free, f_free, fd_free, m0, m_free, n_free, b_free⟩ := Mfree
  cases mg_eq XR.m m0
  obtain ⟨f, fd, Dl⟩ := d_law
  have ef : fa = f := Value.ref.inj (Option.some.inj (hmg.symm.trans Dl.m))
  subst ef
  refine ⟨fd, ?_, fun base => ?_⟩
  · obtain ⟨oc, od, kV, doc, pm, an, cdv, ct, osl, e, lk, hcd⟩ := Dl.fn.ex
    subst e
    exact fun s u => .of_eq rfl
  · have take := ok_take (P := P) (w := w) (base := base) d__law_take T
    have cell := ok_cell (P := P) (w := w) (base := base) d__law_cell T
    have box := ok_box (P := P) (w := w) (base := base) d__law_box T
    have isN := ok_isN (P := P) (w := w) (base := base) d_is_number T
    have isW := ok_isW d_is_whole T isN
    have isP := ok_isP d_is_place T isN
    have isC := ok_isC d_is_count T isW
    have isD := ok_isD d_is_doer T isC
    have ini := ok_init (P := P) (w := w) (base := base) XR T
    have many : MtOk P w K mg base CX0 cR "many_places" ["self"] 1 (spMany cR) := ⟨_, _, m_many_places, b_many_places, ok_many n_many_places XR T⟩
    have lap : MtOk P w K mg base CX0 cR "lap" ["self"] 1 (spLap cR) := ⟨_, _, m_lap, b_lap, ok_lap n_lap XR T⟩
    have used : MtOk P w K mg base CX0 cR "used" ["self"] 1 (spSorted cR false) := ⟨_, _, m_used, b_used, ok_used n_used XR T⟩
    have free : MtOk P w K mg base CX0 cR "free" ["self"] 1 (spSorted cR true) := ⟨_, _, m_free, b_free, ok_free n_free XR T⟩
    have kept : MtOk P w K mg base CX0 cR "kept" ["self"] 1 (spPairs cR false) := ⟨_, _, m_kept, b_kept, ok_kept n_kept XR T⟩
    have isU : MtOk P w K mg base CX0 cR "is_used" ["self", "thing"] 3 (spIsU cR) := ⟨_, _, m_is_used, b_is_used, ok_isU n_is_used XR T isP⟩
    have isPast : MtOk P w K mg base CX0 cR "is_past" ["self", "lap"] 1 (spPast cR) := ⟨_, _, m_is_past, b_is_past, ok_past n_is_past XR T⟩
    have rel : MtOk P w K mg base CX0 cR "release" ["self"] 3 (spRel cR) := ⟨_, _, m_release, b_release, ok_rel n_release XR T isPast⟩
    have given : MtOk P w K mg base CX0 cR "given" ["self"] 3 (spGiven cR) := ⟨_, _, m_given, b_given, ok_given n_given XR T many⟩
    have went : MtOk P w K mg base (CXo P w) cR "went" ["self", "place"] 5 (spWent cR cNoPlace) := ⟨_, _, m_went, b_went, ok_went n_went XR T xNoPlace isU rel⟩
    have enter : MtOk P w K mg base (CXo P w) cR "enter" ["self", "number"] 6 (spEnter cR cNoDoer cTwice) := ⟨_, _, m_enter, b_enter, ok_enter n_enter XR T xNoDoer xTwice isD⟩
    have leave : MtOk P w K mg base (CXo P w) cR "leave" ["self", "number"] 6 (spLeave cR cNoDoer) := ⟨_, _, m_leave, b_leave, ok_leave n_leave XR T xNoDoer isD rel⟩
    have tr := ok_tr d__law_told_right XR T used kept free
    have gone := ok_gone d__law_gone XR T went
    have left := ok_left d__law_left XR T leave
    have gr := ok_gr d__law_given_right XR T given
    have deed := ok_deed (cE := cNoPlace) d__law_deed_right XR T take gone left gr enter
    obtain ⟨f', fd', D', G'⟩ := ok_law ⟨fa, fd, Dl⟩ XR T ini cell box take tr left deed kept
    have ef : fa = f' := Value.ref.inj (Option.some.inj (hmg.symm.trans D'.m))
    subst ef
    cases fun_uniq Dl.fn D'.fn
    exact G'
end K22
set_option Elab.async false
set_option linter.all false
def PySem.W.Fast.tw7322827548033178176 : Nat := 0
def PySem.W.Fast.tw6904613799375080644 : Nat := 0
def PySem.W.Fast.tw17571828868508460612 : Nat := 0
def PySem.W.Fast.tw14430010456557803717 : Nat := 0
def PySem.W.Fast.tw4018640722431075750 : Nat := 0
def PySem.W.Fast.tw9732507370987993743 : Nat := 0
def PySem.W.Fast.tw14277684780169064886 : Nat := 0
def PySem.W.Fast.tw17299299530310407095 : Nat := 0
def PySem.W.Fast.tw18288999763029722489 : Nat := 0
def PySem.W.Fast.tw4546906417195732729 : Nat := 0
def PySem.W.Fast.tw6995787398795497693 : Nat := 0
def PySem.W.Fast.tw5267824505346388478 : Nat := 0
def PySem.W.Fast.tw13245274004875075839 : Nat := 0
def PySem.W.Fast.tw4566465733202318413 : Nat := 0
open PySem PySem.W PyProof.Rows
set_option maxRecDepth 100000 in
set_option maxHeartbeats 0 in
theorem PySem.Challenge.cw_nolocktree_k22_whole_as_soon_as_nobody_l_holds : PySem.Challenge.rw_nolocktree_k22_whole_as_soon_as_nobody_l.Holds := by
  w_on; o_law; k_head; (case hw => w_witness2)
  k_fill
  refine L2.walk_ofK (l := PySem.Challenge.rw_nolocktree_k22_whole_as_soon_as_nobody_l) (n := 63) (k := 12) (x := "_law_script") (CX := L2.CX0) (sp := K22.spLaw) rfl (by decide) rfl ⟨rfl, by decide, by decide, rfl⟩ (fun w h Y => PySem.W.kIn_of Y) ?F ?S ?C
  case S => exact fun K H a ns hl hO hS => ⟨a, ns, rfl, hS, hl, fun _ => rfl⟩
  case C => exact fun _ _ _ _ z => z
  case F =>
    intro w mg fa h KX G hmg
    have TX : ∃ T, K22.TF (L2.KOf KX) mg T := by
      dsimp only [L2.KOf]
      refine' K22.tf_mk KX G ?aT ?lT ?lN ?s1 ?s2 ?b1 ?b2 ?b3 ?i1 ?i3 ?g1 ?g2 ?g4 ?g5 ?g6
      (case aT => k_is); (case lT => k_is); (case lN => k_is); (case s1 => kernel_rfl); (case s2 => kernel_rfl); (case b1 => k_is); (case b2 => k_is); (case b3 => k_is); (case i1 => k_is); (case i3 => k_is); (case g1 => k_is); (case g2 => k_is); (case g4 => k_is); (case g5 => k_is); (case g6 => k_is)
    have ENoPlace : ∃ C T', mg "TreeError" = some (.ref T') ∧ K22.CF (L2.KOf KX) mg T' C "NoPlace" "NoPlace.__init__" (L2.inClass (K22.top 3) 0) ["found"] := by
      dsimp only [L2.KOf]
      refine' K22.cls_mk KX G ?aC ?aT ?lC ?i1 ?i3 ?i5 ?g1 ?g2 ?g4 ?l1 ?c1 (K22.na1 ?n1) (fun _ _ _ _ _ _ us hl => match us, hl with | [_, _], _ => rfl)
      (case aC => k_is); (case aT => k_is); (case lC => k_is); (case i1 => k_is); (case i3 => k_is); (case i5 => k_is); (case g1 => k_is); (case g2 => k_is); (case g4 => k_is); (case l1 => k_is); (case c1 => k_is); (case n1 => k_is)
    have ENoDoer : ∃ C T', mg "TreeError" = some (.ref T') ∧ K22.CF (L2.KOf KX) mg T' C "NoDoer" "NoDoer.__init__" (L2.inClass (K22.top 4) 0) ["found"] := by
      dsimp only [L2.KOf]
      refine' K22.cls_mk KX G ?aC ?aT ?lC ?i1 ?i3 ?i5 ?g1 ?g2 ?g4 ?l1 ?c1 (K22.na1 ?n1) (fun _ _ _ _ _ _ us hl => match us, hl with | [_, _], _ => rfl)
      (case aC => k_is); (case aT => k_is); (case lC => k_is); (case i1 => k_is); (case i3 => k_is); (case i5 => k_is); (case g1 => k_is); (case g2 => k_is); (case g4 => k_is); (case l1 => k_is); (case c1 => k_is); (case n1 => k_is)
    have ETwice : ∃ C T', mg "TreeError" = some (.ref T') ∧ K22.CF (L2.KOf KX) mg T' C "Twice" "Twice.__init__" (L2.inClass (K22.top 5) 0) ["found"] := by
      dsimp only [L2.KOf]
      refine' K22.cls_mk KX G ?aC ?aT ?lC ?i1 ?i3 ?i5 ?g1 ?g2 ?g4 ?l1 ?c1 (K22.na1 ?n1) (fun _ _ _ _ _ _ us hl => match us, hl with | [_, _], _ => rfl)
      (case aC => k_is); (case aT => k_is); (case lC => k_is); (case i1 => k_is); (case i3 => k_is); (case i5 => k_is); (case g1 => k_is); (case g2 => k_is); (case g4 => k_is); (case l1 => k_is); (case c1 => k_is); (case n1 => k_is)
    have RX : ∃ C f fd, K22.RdN (L2.KOf KX) mg C f fd := by
      dsimp only [L2.KOf]
      refine' K22.rdn_mk KX G ?aC ?m1 ?i1 ?i2 ?l1 ?c1 ?p1 ?p2 ?p3 ?p4 ?n1 ?n2 ?n3 ?n4 ?n5 (fun _ _ _ _ _ _ us hl => match us, hl with | [_], _ => rfl)
      (case aC => k_is); (case m1 => k_is); (case i1 => k_is); (case i2 => k_is); (case l1 => k_is); (case c1 => k_is); (case p1 => k_is); (case p2 => k_is); (case p3 => k_is); (case p4 => k_is); (case n1 => k_is); (case n2 => k_is); (case n3 => k_is); (case n4 => k_is); (case n5 => k_is)
    have Mgiven : ∃ C f fd, mg "Rounds" = some (.ref C) ∧ L2.Meth (L2.KOf KX) C "given" f ∧ L2.Fun (L2.KOf KX) "given" "Rounds.given" (L2.inClass (K22.top 14) 1) f fd ∧ L2.Binds (L2.KOf KX) fd ["self"] [] := by
      dsimp only [L2.KOf]
      refine' K22.meth_mk KX G ?aC ?k1 ?l1 ?c1 (fun _ _ _ _ _ _ us hl => match us, hl with | [_], _ => rfl)
      (case aC => k_is); (case k1 => k_is); (case l1 => k_is); (case c1 => k_is)
    have Mwent : ∃ C f fd, mg "Rounds" = some (.ref C) ∧ L2.Meth (L2.KOf KX) C "went" f ∧ L2.Fun (L2.KOf KX) "went" "Rounds.went" (L2.inClass (K22.top 14) 2) f fd ∧ L2.Binds (L2.KOf KX) fd ["self", "place"] [] := by
      dsimp only [L2.KOf]
      refine' K22.meth_mk KX G ?aC ?k1 ?l1 ?c1 (fun _ _ _ _ _ _ us hl => match us, hl with | [_, _], _ => rfl)
      (case aC => k_is); (case k1 => k_is); (case l1 => k_is); (case c1 => k_is)
    have Menter : ∃ C f fd, mg "Rounds" = some (.ref C) ∧ L2.Meth (L2.KOf KX) C "enter" f ∧ L2.Fun (L2.KOf KX) "enter" "Rounds.enter" (L2.inClass (K22.top 14) 3) f fd ∧ L2.Binds (L2.KOf KX) fd ["self", "number"] [] := by
      dsimp only [L2.KOf]
      refine' K22.meth_mk KX G ?aC ?k1 ?l1 ?c1 (fun _ _ _ _ _ _ us hl => match us, hl with | [_, _], _ => rfl)
      (case aC => k_is); (case k1 => k_is); (case l1 => k_is); (case c1 => k_is)
    have Mleave : ∃ C f fd, mg "Rounds" = some (.ref C) ∧ L2.Meth (L2.KOf KX) C "leave" f ∧ L2.Fun (L2.KOf KX) "leave" "Rounds.leave" (L2.inClass (K22.top 14) 4) f fd ∧ L2.Binds (L2.KOf KX) fd ["self", "number"] [] := by
      dsimp only [L2.KOf]
      refine' K22.meth_mk KX G ?aC ?k1 ?l1 ?c1 (fun _ _ _ _ _ _ us hl => match us, hl with | [_, _], _ => rfl)
      (case aC => k_is); (case k1 => k_is); (case l1 => k_is); (case c1 => k_is)
    have Mrelease : ∃ C f fd, mg "Rounds" = some (.ref C) ∧ L2.Meth (L2.KOf KX) C "release" f ∧ L2.Fun (L2.KOf KX) "release" "Rounds.release" (L2.inClass (K22.top 14) 5) f fd ∧ L2.Binds (L2.KOf KX) fd ["self"] [] := by
      dsimp only [L2.KOf]
      refine' K22.meth_mk KX G ?aC ?k1 ?l1 ?c1 (fun _ _ _ _ _ _ us hl => match us, hl with | [_], _ => rfl)
      (case aC => k_is); (case k1 => k_is); (case l1 => k_is); (case c1 => k_is)
    have Mis_past : ∃ C f fd, mg "Rounds" = some (.ref C) ∧ L2.Meth (L2.KOf KX) C "is_past" f ∧ L2.Fun (L2.KOf KX) "is_past" "Rounds.is_past" (L2.inClass (K22.top 14) 6) f fd ∧ L2.Binds (L2.KOf KX) fd ["self", "lap"] [] := by
      dsimp only [L2.KOf]
      refine' K22.meth_mk KX G ?aC ?k1 ?l1 ?c1 (fun _ _ _ _ _ _ us hl => match us, hl with | [_, _], _ => rfl)
      (case aC => k_is); (case k1 => k_is); (case l1 => k_is); (case c1 => k_is)
    have Mis_used : ∃ C f fd, mg "Rounds" = some (.ref C) ∧ L2.Meth (L2.KOf KX) C "is_used" f ∧ L2.Fun (L2.KOf KX) "is_used" "Rounds.is_used" (L2.inClass (K22.top 14) 8) f fd ∧ L2.Binds (L2.KOf KX) fd ["self", "thing"] [] := by
      dsimp only [L2.KOf]
      refine' K22.meth_mk KX G ?aC ?k1 ?l1 ?c1 (fun _ _ _ _ _ _ us hl => match us, hl with | [_, _], _ => rfl)
      (case aC => k_is); (case k1 => k_is); (case l1 => k_is); (case c1 => k_is)
    have Mmany_places : ∃ C f fd, mg "Rounds" = some (.ref C) ∧ L2.Meth (L2.KOf KX) C "many_places" f ∧ L2.Fun (L2.KOf KX) "many_places" "Rounds.many_places" (L2.inClass (K22.top 14) 10) f fd ∧ L2.Binds (L2.KOf KX) fd ["self"] [] := by
      dsimp only [L2.KOf]
      refine' K22.meth_mk KX G ?aC ?k1 ?l1 ?c1 (fun _ _ _ _ _ _ us hl => match us, hl with | [_], _ => rfl)
      (case aC => k_is); (case k1 => k_is); (case l1 => k_is); (case c1 => k_is)
    have Mlap : ∃ C f fd, mg "Rounds" = some (.ref C) ∧ L2.Meth (L2.KOf KX) C "lap" f ∧ L2.Fun (L2.KOf KX) "lap" "Rounds.lap" (L2.inClass (K22.top 14) 11) f fd ∧ L2.Binds (L2.KOf KX) fd ["self"] [] := by
      dsimp only [L2.KOf]
      refine' K22.meth_mk KX G ?aC ?k1 ?l1 ?c1 (fun _ _ _ _ _ _ us hl => match us, hl with | [_], _ => rfl)
      (case aC => k_is); (case k1 => k_is); (case l1 => k_is); (case c1 => k_is)
    have Mused : ∃ C f fd, mg "Rounds" = some (.ref C) ∧ L2.Meth (L2.KOf KX) C "used" f ∧ L2.Fun (L2.KOf KX) "used" "Rounds.used" (L2.inClass (K22.top 14) 12) f fd ∧ L2.Binds (L2.KOf KX) fd ["self"] [] := by
      dsimp only [L2.KOf]
      refine' K22.meth_mk KX G ?aC ?k1 ?l1 ?c1 (fun _ _ _ _ _ _ us hl => match us, hl with | [_], _ => rfl)
      (case aC => k_is); (case k1 => k_is); (case l1 => k_is); (case c1 => k_is)
    have Mkept : ∃ C f fd, mg "Rounds" = some (.ref C) ∧ L2.Meth (L2.KOf KX) C "kept" f ∧ L2.Fun (L2.KOf KX) "kept" "Rounds.kept" (L2.inClass (K22.top 14) 13) f fd ∧ L2.Binds (L2.KOf KX) fd ["self"] [] := by
      dsimp only [L2.KOf]
      refine' K22.meth_mk KX G ?aC ?k1 ?l1 ?c1 (fun _ _ _ _ _ _ us hl => match us, hl with | [_], _ => rfl)
      (case aC => k_is); (case k1 => k_is); (case l1 => k_is); (case c1 => k_is)
    have Mfree : ∃ C f fd, mg "Rounds" = some (.ref C) ∧ L2.Meth (L2.KOf KX) C "free" f ∧ L2.Fun (L2.KOf KX) "free" "Rounds.free" (L2.inClass (K22.top 14) 14) f fd ∧ L2.Binds (L2.KOf KX) fd ["self"] [] := by
      dsimp only [L2.KOf]
      refine' K22.meth_mk KX G ?aC ?k1 ?l1 ?c1 (fun _ _ _ _ _ _ us hl => match us, hl with | [_], _ => rfl)
      (case aC => k_is); (case k1 => k_is); (case l1 => k_is); (case c1 => k_is)
    have T : K22.Txt (L2.KOf KX) mg := by
      dsimp only [L2.KOf]
      refine' ⟨PySem.W.mg_none_of KX G ?n0, PySem.W.mg_none_of KX G ?n1, PySem.W.mg_none_of KX G ?n2, PySem.W.mg_none_of KX G ?n3, PySem.W.mg_none_of KX G ?n4, PySem.W.mg_none_of KX G ?n5, PySem.W.mg_none_of KX G ?n6, PySem.W.mg_none_of KX G ?n7, PySem.W.mg_none_of KX G ?n8, PySem.W.mg_none_of KX G ?n9, PySem.W.mg_none_of KX G ?n10, PySem.W.mg_none_of KX G ?n11, PySem.W.mg_none_of KX G ?n12, PySem.W.mg_none_of KX G ?n13, PySem.W.mg_none_of KX G ?n14, PySem.W.mg_none_of KX G ?n15, K22.int_of KX G ?c0⟩
      (case n0 => k_is); (case n1 => k_is); (case n2 => k_is); (case n3 => k_is); (case n4 => k_is); (case n5 => k_is); (case n6 => k_is); (case n7 => k_is); (case n8 => k_is); (case n9 => k_is); (case n10 => k_is); (case n11 => k_is); (case n12 => k_is); (case n13 => k_is); (case n14 => k_is); (case n15 => k_is); (case c0 => k_is)
    have D_is_number : ∃ f fd, L2.Dn (L2.KOf KX) mg "is_number" "is_number" K22.s_is_number ["thing"] f fd := by
      dsimp only [L2.KOf]
      refine' L2.dn_mk KX G ?a ?l ?c ?k (fun _ _ _ _ _ _ us hl => match us, hl with | [_], _ => rfl)
      (case a => k_is); (case l => k_is); (case c => k_is); (case k => k_is)
    have D_is_whole : ∃ f fd, L2.Dn (L2.KOf KX) mg "is_whole" "is_whole" K22.s_is_whole ["thing", "low", "high"] f fd := by
      dsimp only [L2.KOf]
      refine' L2.dn_mk KX G ?a ?l ?c ?k (fun _ _ _ _ _ _ us hl => match us, hl with | [_, _, _], _ => rfl)
      (case a => k_is); (case l => k_is); (case c => k_is); (case k => k_is)
    have D_is_place : ∃ f fd, L2.Dn (L2.KOf KX) mg "is_place" "is_place" K22.s_is_place ["thing"] f fd := by
      dsimp only [L2.KOf]
      refine' L2.dn_mk KX G ?a ?l ?c ?k (fun _ _ _ _ _ _ us hl => match us, hl with | [_], _ => rfl)
      (case a => k_is); (case l => k_is); (case c => k_is); (case k => k_is)
    have D_is_count : ∃ f fd, L2.Dn (L2.KOf KX) mg "is_count" "is_count" K22.s_is_count ["thing"] f fd := by
      dsimp only [L2.KOf]
      refine' L2.dn_mk KX G ?a ?l ?c ?k (fun _ _ _ _ _ _ us hl => match us, hl with | [_], _ => rfl)
      (case a => k_is); (case l => k_is); (case c => k_is); (case k => k_is)
    have D_is_doer : ∃ f fd, L2.Dn (L2.KOf KX) mg "is_doer" "is_doer" K22.s_is_doer ["thing"] f fd := by
      dsimp only [L2.KOf]
      refine' L2.dn_mk KX G ?a ?l ?c ?k (fun _ _ _ _ _ _ us hl => match us, hl with | [_], _ => rfl)
      (case a => k_is); (case l => k_is); (case c => k_is); (case k => k_is)
    have D__law_cell : ∃ f fd, L2.Dn (L2.KOf KX) mg "_law_cell" "_law_cell" K22.s__law_cell ["_law_script", "_law_k"] f fd := by
      dsimp only [L2.KOf]
      refine' L2.dn_mk KX G ?a ?l ?c ?k (fun _ _ _ _ _ _ us hl => match us, hl with | [_, _], _ => rfl)
      (case a => k_is); (case l => k_is); (case c => k_is); (case k => k_is)
    have D__law_box : ∃ f fd, L2.Dn (L2.KOf KX) mg "_law_box" "_law_box" K22.s__law_box ["_law_cell_here"] f fd := by
      dsimp only [L2.KOf]
      refine' L2.dn_mk KX G ?a ?l ?c ?k (fun _ _ _ _ _ _ us hl => match us, hl with | [_], _ => rfl)
      (case a => k_is); (case l => k_is); (case c => k_is); (case k => k_is)
    have D__law_take : ∃ f fd, L2.Dn (L2.KOf KX) mg "_law_take" "_law_take" K22.s__law_take ["_law_box_here", "_law_many"] f fd := by
      dsimp only [L2.KOf]
      refine' L2.dn_mk KX G ?a ?l ?c ?k (fun _ _ _ _ _ _ us hl => match us, hl with | [_, _], _ => rfl)
      (case a => k_is); (case l => k_is); (case c => k_is); (case k => k_is)
    have D__law_told_right : ∃ f fd, L2.Dn (L2.KOf KX) mg "_law_told_right" "_law_told_right" K22.s__law_told_right ["_law_rounds", "_law_watched", "_law_used", "_law_given"] f fd := by
      dsimp only [L2.KOf]
      refine' L2.dn_mk KX G ?a ?l ?c ?k (fun _ _ _ _ _ _ us hl => match us, hl with | [_, _, _, _], _ => rfl)
      (case a => k_is); (case l => k_is); (case c => k_is); (case k => k_is)
    have D__law_gone : ∃ f fd, L2.Dn (L2.KOf KX) mg "_law_gone" "_law_gone" K22.s__law_gone ["_law_rounds", "_law_place", "_law_watched", "_law_used", "_law_going"] f fd := by
      dsimp only [L2.KOf]
      refine' L2.dn_mk KX G ?a ?l ?c ?k (fun _ _ _ _ _ _ us hl => match us, hl with | [_, _, _, _, _], _ => rfl)
      (case a => k_is); (case l => k_is); (case c => k_is); (case k => k_is)
    have D__law_given_right : ∃ f fd, L2.Dn (L2.KOf KX) mg "_law_given_right" "_law_given_right" K22.s__law_given_right ["_law_rounds", "_law_watched", "_law_used", "_law_given"] f fd := by
      dsimp only [L2.KOf]
      refine' L2.dn_mk KX G ?a ?l ?c ?k (fun _ _ _ _ _ _ us hl => match us, hl with | [_, _, _, _], _ => rfl)
      (case a => k_is); (case l => k_is); (case c => k_is); (case k => k_is)
    have D__law_left : ∃ f fd, L2.Dn (L2.KOf KX) mg "_law_left" "_law_left" K22.s__law_left ["_law_rounds", "_law_number", "_law_watched", "_law_going"] f fd := by
      dsimp only [L2.KOf]
      refine' L2.dn_mk KX G ?a ?l ?c ?k (fun _ _ _ _ _ _ us hl => match us, hl with | [_, _, _, _], _ => rfl)
      (case a => k_is); (case l => k_is); (case c => k_is); (case k => k_is)
    have D__law_deed_right : ∃ f fd, L2.Dn (L2.KOf KX) mg "_law_deed_right" "_law_deed_right" K22.s__law_deed_right ["_law_box_here", "_law_rounds", "_law_state"] f fd := by
      dsimp only [L2.KOf]
      refine' L2.dn_mk KX G ?a ?l ?c ?k (fun _ _ _ _ _ _ us hl => match us, hl with | [_, _, _], _ => rfl)
      (case a => k_is); (case l => k_is); (case c => k_is); (case k => k_is)
    have D_law : ∃ f fd, L2.Dn (L2.KOf KX) mg "law" "law" K22.s_law ["_law_script"] f fd := by
      dsimp only [L2.KOf]
      refine' L2.dn_mk KX G ?a ?l ?c ?k (fun _ _ _ _ _ _ us hl => match us, hl with | [_], _ => rfl)
      (case a => k_is); (case l => k_is); (case c => k_is); (case k => k_is)
    obtain ⟨fd, hb, hf⟩ := K22.last (P := PySem.Challenge.rw_nolocktree_k22_whole_as_soon_as_nobody_l.prog) (w := w) T TX ENoPlace ENoDoer ETwice RX Mgiven Mwent Menter Mleave Mrelease Mis_past Mis_used Mmany_places Mlap Mused Mkept Mfree D_is_number D_is_whole D_is_place D_is_count D_is_doer D__law_cell D__law_box D__law_take D__law_told_right D__law_gone D__law_given_right D__law_left D__law_deed_right D_law hmg
    exact ⟨fd, hb, fun base _ _ => hf base⟩
