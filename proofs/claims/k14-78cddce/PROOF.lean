import PyProof.Rows.All
import Wide.All
import OpenK.AllK
import Wide.FinOn
import Lean
import PyProof.EqAt
import PyProof.EqKinds
import PyProof.TupleCall
import PyProof.ExcInit
import PyProof.ExcClass3
import PyProof.ExcBaseAll.ValueError
import PyProof.ExcAttrAll.ValueError
import PyProof.ReprRoads
import PyProof.ReprReads
import PyProof.ExcRepr
import PyProof.RaisesMany
import PyProof.StationsW
import PyProof.RulesTry
import PyProof.RulesAs
import PyProof.Draws
import PyProof.EnumMake
import PyProof.EnumFor
import PyProof.ReprLen
import PyProof.ConsumeWalk
import PyProof.WalksMore
import PyProof.ListRange
import PyProof.Rows.SetFrom
import PyProof.SetRoads
import PyProof.FactsAll.subtypes_4
import PyProof.CollectStr
import PyProof.DictWalks
import PyProof.Rows.SortWalk
import PyProof.ZipIter
import PyProof.DictList
import PyProof.DictUpdate
import PyProof.MeetsSeq2
import PyProof.AttrMissHeap
import PyProof.TupleIter
import PyProof.FactsAll.zip
import KE.KDictOf
import KE.KEqDict
import PyProof.NsDelKeeps
import PySem.Challenge.RW_nolocktree_k14_children
set_option Elab.async false
set_option linter.all false
set_option maxRecDepth 100000
namespace L2
open PySem PySem.Spec PyProof.Rows
abbrev Key := Sum Int Str
def keyIs : Key → Value → Bool
  | .inl k, v => Value.isInt k v
  | .inr x, v => Value.isStrOf x v
def keyH (w : World) : Key → Int
  | .inl k => hashInt k
  | .inr x => hashStr w x
theorem keyIs_shape : ∀ {k : Key} {v : Value}, keyIs k v = true → (∃ i t, k = Sum.inl i ∧ v = Value.int i t) ∨ (∃ x t, k = Sum.inr x ∧ v = Value.str x t)
  | .inl i, v, h => by
    obtain ⟨t, e⟩ := Value.isInt_shape (k := i) (v := v) h
    exact .inl ⟨i, t, rfl, e⟩
  | .inr x, v, h => by
    obtain ⟨t, e⟩ := Value.isStrOf_shape (x := x) (v := v) h
    exact .inr ⟨x, t, rfl, e⟩
theorem key_ll (a b : Int) : decide ((Sum.inl a : Key) = Sum.inl b) = (a == b) := by
  by_cases e : a = b
  · subst e; simp
  · have h : ¬ (Sum.inl a : Key) = Sum.inl b := fun q => e (Sum.inl.inj q)
    rw [decide_eq_false h]
    exact (beq_eq_false_iff_ne.mpr e).symm
theorem key_rr (a b : Str) : decide ((Sum.inr a : Key) = Sum.inr b) = decide (a = b) := by
  by_cases e : a = b
  · subst e; simp
  · have h : ¬ (Sum.inr a : Key) = Sum.inr b := fun q => e (Sum.inr.inj q)
    rw [decide_eq_false h, decide_eq_false e]
theorem key_lr (a : Int) (b : Str) : decide ((Sum.inl a : Key) = Sum.inr b) = false := decide_eq_false (fun q => nomatch q)
theorem key_rl (a : Str) (b : Int) : decide ((Sum.inr a : Key) = Sum.inl b) = false := decide_eq_false (fun q => nomatch q)
def mixKind (prog : Program) (w : World) : PySem.KeyKind prog w Key where
  is := keyIs
  hash := keyH w
  inj := fun v a b ha hb => by
    rcases keyIs_shape ha with ⟨i, t, rfl, rfl⟩ | ⟨x, t, rfl, rfl⟩
    · rcases keyIs_shape hb with ⟨j, u, rfl, e⟩ | ⟨y, u, rfl, e⟩
      · injection e with e1 _; rw [e1]
      · exact nomatch e
    · rcases keyIs_shape hb with ⟨j, u, rfl, e⟩ | ⟨y, u, rfl, e⟩
      · exact nomatch e
      · injection e with e1 _; rw [e1]
  byValue := fun k v h => by
    rcases keyIs_shape h with ⟨i, t, rfl, rfl⟩ | ⟨x, t, rfl, rfl⟩ <;> rfl
  pyHash := fun hv h => by
    rcases keyIs_shape hv with ⟨i, t, rfl, rfl⟩ | ⟨x, t, rfl, rfl⟩
    · exact wpAny_pyHash_int h
    · exact wpAny_pyHash_str h
  eqBool := fun hu hv h => by
    rcases keyIs_shape hu with ⟨i, t, rfl, rfl⟩ | ⟨x, t, rfl, rfl⟩
    · rcases keyIs_shape hv with ⟨j, u, rfl, rfl⟩ | ⟨y, u, rfl, rfl⟩
      · rw [key_ll] at h; exact wpAny_eqBool_int h
      · rw [key_lr] at h; exact SeqAt.EqAt.int_str i t y u _ _ _ _ h
    · rcases keyIs_shape hv with ⟨j, u, rfl, rfl⟩ | ⟨y, u, rfl, rfl⟩
      · rw [key_rl] at h; exact SeqAt.EqAt.str_int x t j u _ _ _ _ h
      · rw [key_rr] at h; exact wpAny_eqBool_str h
  «strs» := fun k x t v h => by
    rcases keyIs_shape h with ⟨i, u, rfl, e⟩ | ⟨y, u, rfl, e⟩
    · exact nomatch e
    · injection e with e1 _
      subst e1
      cases v <;> rfl
end L2
namespace L2
open PySem PySem.Spec PyProof.Rows
inductive V where
  | non | bl (b : Bool) | int (i : Int) | str (x : Str) | byt (b : Array UInt8) | flt (b : UInt64) | ref (a : Addr) | ty (n : String)
  deriving DecidableEq
def RelV : V → Value → Prop
  | .non, u => u = Value.none
  | .bl b, u => u = Value.bool b
  | .int i, u => ∃ t, u = Value.int i t
  | .str x, u => ∃ t, u = Value.str x t
  | .byt b, u => ∃ t, u = Value.bytes b t
  | .flt b, u => ∃ t, u = Value.float b t
  | .ref a, u => u = Value.ref a
  | .ty n, u => u = Value.type n
abbrev Vals : List V → List Value → Prop := Paired RelV
theorem Vals.length {xs : List V} {us : List Value} (r : Vals xs us) : xs.length = us.length := Paired.length r
theorem Vals.get : ∀ {xs : List V} {us : List Value} {i : Nat} {x : V}, Vals xs us → xs[i]? = some x → ∃ u, us[i]? = some u ∧ RelV x u
  | _, _, _, _, .nil, e => by simp at e
  | _, _, 0, _, .cons r _, e => by simp at e; subst e; exact ⟨_, rfl, r⟩
  | _, _, i + 1, x, .cons _ t, e => by
    obtain ⟨u, h1, h2⟩ := Vals.get (i := i) (x := x) t (by simpa using e)
    exact ⟨u, by simpa using h1, h2⟩
theorem Vals.set {x : V} {u : Value} (r : RelV x u) : ∀ {xs : List V} {us : List Value} (i : Nat), Vals xs us → Vals (xs.set i x) (us.set i u)
  | _, _, _, .nil => .nil
  | _, _, 0, .cons _ t => .cons r t
  | _, _, i + 1, .cons q t => .cons q (Vals.set r i t)
theorem Vals.append : ∀ {xs ys : List V} {us ws : List Value}, Vals xs us → Vals ys ws → Vals (xs ++ ys) (us ++ ws)
  | _, _, _, _, .nil, s => s
  | _, _, _, _, .cons r t, s => .cons r (Vals.append t s)
theorem Vals.take : ∀ {xs : List V} {us : List Value} (n : Nat), Vals xs us → Vals (xs.take n) (us.take n)
  | _, _, 0, _ => .nil
  | _, _, _ + 1, .nil => .nil
  | _, _, n + 1, .cons r t => .cons r (Vals.take n t)
theorem Vals.drop : ∀ {xs : List V} {us : List Value} (n : Nat), Vals xs us → Vals (xs.drop n) (us.drop n)
  | _, _, 0, r => r
  | _, _, _ + 1, .nil => .nil
  | _, _, n + 1, .cons _ t => Vals.drop n t
def RelO : Option V → Option Value → Prop
  | some v, some u => RelV v u
  | none, none => True
  | _, _ => False
def KV {κ : Type} : List (κ × V) → List (κ × Value) → Prop := Paired fun (p : κ × V) (q : κ × Value) => p.1 = q.1 ∧ RelV p.2 q.2
def kV : Key → V
  | .inl i => .int i
  | .inr x => .str x
inductive HO where
  /-- a list -/
  | lst (xs : List V)
  /-- a tuple (never changes) -/
  | tup (xs : List V)
  /-- a dict whose keys are ints and texts; one whose keys are tuples of ints and texts (the empty one is both) -/
  | dK (kvs : List (Key × V)) | dT (kvs : List (List Key × V))
  /-- a set of ints: its members, its size -/
  | set (S : Int → Bool) (n : Nat)
  /-- an instance of the class at C, its dict at dx, its attributes -/
  | ins (C dx : Addr) (fs : List (Str × V))
  /-- the dict of the instance at x -/
  | own (x : Addr)
  /-- the dict of an exception -/
  | xd (fs : List (Str × V))
  /-- a bound method, f of x -/
  | met (f x : Addr)
  /-- a range object lo, lo + 1, .. below hi -/
  | rng (lo hi : Int)
  /-- a thing that is known to the object (the script; a dict while a loop walks it): read, never written while it is so -/
  | frz (o : Obj) (u : HO)
  /-- a code object's table -/
  | tbl (ps : Array Value)
  /-- any other thing, by what is true of its one object (a def of one's own: SetO a S n := HO.ext fun h => ..) -/
  | ext (φ : Heap → Prop)
abbrev Hp := Addr → Option HO
def upd (H : Hp) (a : Addr) (o : HO) : Hp := fun b => if b = a then some o else H b
theorem upd_same {H : Hp} {a : Addr} {o : HO} : upd H a o a = some o := by unfold upd; rw [if_pos rfl]
theorem upd_ne {H : Hp} {a b : Addr} {o : HO} (h : b ≠ a) : upd H a o b = H b := by unfold upd; rw [if_neg h]
theorem ne_of {H : Hp} {a b : Addr} {o u : HO} (h : H a = some o) (h' : H b = some u) (d : o ≠ u) : a ≠ b := by
  intro e; subst e; rw [h] at h'; exact d (Option.some.inj h')
theorem ne_of_none {H : Hp} {a b : Addr} {o : HO} (h : H a = some o) (h' : H b = none) : a ≠ b := by
  intro e; subst e; rw [h] at h'; cases h'
theorem tup_nodict {h : Heap} {xs : Array Value} : ∀ o, (h.push { cls := .type "tuple", data := .seq xs }).get? h.objs.size = some o → o.dict = none := fun o e => by
  rw [Heap.get?_push_size _ rfl] at e
  cases e
  rfl
section
variable (P : Program) (w : World)
def ObjOk (H : Hp) (h : Heap) (a : Addr) : HO → Prop
  | .lst xs => xs.length ≤ sizeLine ∧ ∃ (its : List Value) (n : Nat), Vals xs its ∧ h.get? a = some { cls := .type "list", data := .seq its.toArray n }
  | .tup xs => xs.length ≤ sizeLine ∧ ∃ its : List Value, Vals xs its ∧ IsTup h a its.toArray ∧ ∀ o, h.get? a = some o → o.dict = none
  | .dK kvs => kvs.length ≤ sizeLine ∧ (a == sysModules) = false ∧ ∃ vs, KV kvs vs ∧ h.DictOf (mixKind P w) a vs
  | .dT kvs => kvs.length ≤ sizeLine ∧ (a == sysModules) = false ∧ ∃ xs : List (List Key × Addr × Value),
      Paired (fun (p : List Key × V) (q : List Key × Addr × Value) => p.1 = q.1 ∧ H q.2.1 = some (.tup (p.1.map kV)) ∧ RelV p.2 q.2.2) kvs xs ∧
      ∃ o es ep, h.get? a = some o ∧ o.ExactDict ∧ o.data = .dict es ep ∧ es.toList = xs.map (entryOfKey (tupleKind (mixKind P w))) ∧ (xs.map (·.1)).Nodup
  | .set S n => h.SetOf (intKind P w) a S n
  | .ins C dx fs => H dx = some (.own a) ∧ fs.length ≤ 1000 ∧ dx ≠ a ∧ h.get? a = some (PySem.W.instObj C dx) ∧
      ∃ mA, h.Ns1 dx mA ∧ (∀ f, RelO (fs.lookup f) (mA f)) ∧ PySem.Within mA (fs.map (·.1))
  | .own _ => ∃ o, h.get? a = some o
  | .xd fs => ∃ mA, h.Ns1 a mA ∧ ∀ f, RelO (fs.lookup f) (mA f)
  | .rng lo hi => ∃ t u v, h.get? a = some { cls := .type "range", data := .fields #[.int lo t, .int hi u, .int 1 v] }
  | .frz o u => h.get? a = some o ∧ ObjOk H h a u
  | .tbl ps => h.get? a = some { cls := .none, data := .fields ps }
  | .met f x => h.get? a = some (PySem.W.methodObj (.ref f) (.ref x))
  | .ext φ => φ h ∧ (∃ o, h.get? a = some o) ∧ ∀ h1 h2 : Heap, φ h1 → (∀ o, h1.get? a = some o → h2.get? a = some o) → φ h2
def HOk (H : Hp) (h : Heap) : Prop := ∀ a o, H a = some o → ObjOk P w H h a o
end
section
variable {P : Program} {w : World} {H H' : Hp} {h h' : Heap} {a : Addr} {o : HO}
theorem ObjOk.lt (x : ObjOk P w H h a o) : a < h.objs.size := by
  cases o with
  | lst xs => obtain ⟨_, _, _, _, e⟩ := x; exact Heap.lt_size e
  | tup xs => obtain ⟨_, _, _, p, _⟩ := x; exact p.lt
  | dK kvs => obtain ⟨_, _, _, _, o, _, _, e, _⟩ := x; exact Heap.lt_size e
  | dT kvs => obtain ⟨_, _, _, _, o, _, _, e, _⟩ := x; exact Heap.lt_size e
  | set S n => obtain ⟨o, _, _, _, e, _⟩ := x; exact Heap.lt_size e
  | ins C dx fs => obtain ⟨_, _, _, e, _⟩ := x; exact Heap.lt_size e
  | own y => obtain ⟨_, e⟩ := x; exact Heap.lt_size e
  | xd fs => obtain ⟨_, ⟨_, _, _, e, _⟩, _⟩ := x; exact Heap.lt_size e
  | rng lo hi => obtain ⟨_, _, _, e⟩ := x; exact Heap.lt_size e
  | frz ob u => obtain ⟨e, _⟩ := x; exact Heap.lt_size e
  | tbl ps => exact Heap.lt_size (show h.get? a = some _ from x)
  | met f y => exact Heap.lt_size (show h.get? a = some _ from x)
  | ext φ => obtain ⟨_, ⟨_, e⟩, _⟩ := x; exact Heap.lt_size e
theorem Paired.mapP {α β : Type} {F G : α → β → Prop} : ∀ {l₁ : List α} {l₂ : List β}, Paired F l₁ l₂ → (∀ a b, F a b → G a b) → Paired G l₁ l₂
  | _, _, .nil, _ => .nil
  | _, _, .cons r t, f => .cons (f _ _ r) (Paired.mapP t f)
theorem ObjOk.stay (x : ObjOk P w H h a o) (k : ∀ b u, (b = a ∨ H b = some (.own a)) → h.get? b = some u → h'.get? b = some u)
    (ho : ∀ b, H b = some (.own a) → H' b = some (.own a)) (ht : ∀ b xs, H b = some (.tup xs) → H' b = some (.tup xs)) : ObjOk P w H' h' a o := by
  induction o with
  | lst xs => obtain ⟨z, its, n, r, e⟩ := x; exact ⟨z, its, n, r, k _ _ (.inl rfl) e⟩
  | tup xs =>
    obtain ⟨z, its, r, ⟨ob, e, c⟩, dn⟩ := x
    have e2 := k _ _ (.inl rfl) e
    exact ⟨z, its, r, ⟨ob, e2, c⟩, fun o q => by rw [e2] at q; cases q; exact dn _ e⟩
  | dK kvs => obtain ⟨z, y, vs, r, ob, es, ep, e, c⟩ := x; exact ⟨z, y, vs, r, ob, es, ep, k _ _ (.inl rfl) e, c⟩
  | dT kvs =>
    obtain ⟨z, y, xs, r, ob, es, ep, e, c⟩ := x
    exact ⟨z, y, xs, Paired.mapP r fun p q z => ⟨z.1, ht _ _ z.2.1, z.2.2⟩, ob, es, ep, k _ _ (.inl rfl) e, c⟩
  | set S n => obtain ⟨ob, es, ep, t, e, c⟩ := x; exact ⟨ob, es, ep, t, k _ _ (.inl rfl) e, c⟩
  | ins C dx fs =>
    obtain ⟨d, z, ne, e, mA, ⟨od, es, ep, e2, c⟩, r⟩ := x
    exact ⟨ho _ d, z, ne, k _ _ (.inl rfl) e, mA, ⟨od, es, ep, k _ _ (.inr d) e2, c⟩, r⟩
  | own y => obtain ⟨ob, e⟩ := x; exact ⟨ob, k _ _ (.inl rfl) e⟩
  | xd fs => obtain ⟨mA, ⟨od, es, ep, e, c⟩, r⟩ := x; exact ⟨mA, ⟨od, es, ep, k _ _ (.inl rfl) e, c⟩, r⟩
  | rng lo hi => obtain ⟨t, u, v, e⟩ := x; exact ⟨t, u, v, k _ _ (.inl rfl) e⟩
  | frz ob u ih => obtain ⟨e, q⟩ := x; exact ⟨k _ _ (.inl rfl) e, ih q⟩
  | tbl ps =>
    have e : h.get? a = some { cls := .none, data := .fields ps } := x
    show h'.get? a = some { cls := .none, data := .fields ps }
    exact k a _ (.inl rfl) e
  | met f y =>
    have e : h.get? a = some (PySem.W.methodObj (.ref f) (.ref y)) := x
    show h'.get? a = some (PySem.W.methodObj (.ref f) (.ref y))
    exact k a _ (.inl rfl) e
  | ext φ => obtain ⟨p, ⟨o, e⟩, st⟩ := x; exact ⟨st _ _ p fun o q => k _ _ (.inl rfl) q, ⟨o, k _ _ (.inl rfl) e⟩, st⟩
theorem HOk.lt (x : HOk P w H h) (e : H a = some o) : a < h.objs.size := (x a o e).lt
theorem HOk.fresh (x : HOk P w H h) (e : h.objs.size ≤ a) : H a = none := by
  cases q : H a with
  | none => rfl
  | some u => exact absurd (Nat.lt_of_lt_of_le (x.lt q) e) (Nat.lt_irrefl _)
theorem HOk.kept (x : HOk P w H h) (k : ∀ b u, h.get? b = some u → h'.get? b = some u) : HOk P w H h' := fun a o e =>
  (x a o e).stay (fun b u _ q => k b u q) (fun _ q => q) fun _ _ q => q
theorem HOk.laid (x : HOk P w H h) (k : ∀ b u, h.get? b = some u → h'.get? b = some u) (hp : h.objs.size ≤ a) (new : ObjOk P w (upd H a o) h' a o) : HOk P w (upd H a o) h' := fun b u e => by
  have hn := x.fresh hp
  by_cases hb : b = a
  · subst hb; rw [upd_same] at e; cases e; exact new
  · rw [upd_ne hb] at e
    exact (x b u e).stay (fun c v _ q => k c v q) (fun c q => by rw [upd_ne (ne_of_none q hn)]; exact q) fun c xs q => by rw [upd_ne (ne_of_none q hn)]; exact q
end
def Rd (H : Hp) (a : Addr) (u : HO) : Prop := H a = some u ∨ ∃ o, H a = some (.frz o u)
theorem Rd.ok {P : Program} {w : World} {H : Hp} {h : Heap} {a : Addr} {u : HO} (r : Rd H a u) (x : HOk P w H h) : ObjOk P w H h a u := by
  rcases r with r | ⟨o, r⟩
  · exact x a u r
  · obtain ⟨_, q⟩ := x a _ r
    exact q
def Mut : Option HO → Prop
  | some (.lst _) => True
  | some (.dK _) => True
  | some (.dT _) => True
  | some (.set _ _) => True
  | some (.ins _ _ _) => True
  | some (.ext _) => True
  | _ => False
section
variable {P : Program} {w : World} {H : Hp} {h h' : Heap} {x e : Addr} {o' : HO}
theorem HOk.write (ok : HOk P w H h) (mu : Mut (H x)) (he : e = x ∨ H e = some (.own x)) (k : ∀ b u, b ≠ e → h.get? b = some u → h'.get? b = some u) (heo : ∃ u, h'.get? e = some u)
    (new : ObjOk P w (upd H x o') h' x o') : HOk P w (upd H x o') h' := fun b u q => by
  have nown : ∀ c y, H c = some (.own y) → c ≠ x := fun c y r z => by subst z; rw [r] at mu; exact mu
  have ntup : ∀ c xs, H c = some (.tup xs) → c ≠ x := fun c xs r z => by subst z; rw [r] at mu; exact mu
  by_cases hb : b = x
  · subst hb; rw [upd_same] at q; cases q; exact new
  · rw [upd_ne hb] at q
    by_cases hbe : b = e
    · have q' : H b = some (.own x) := by
        rcases he with z | z
        · exact absurd (hbe.trans z) hb
        · rw [hbe]; exact z
      rw [q] at q'; cases q'
      obtain ⟨v, hv⟩ := heo
      exact ⟨v, by rw [hbe]; exact hv⟩
    · refine (ok b u q).stay (fun c v hc r => k c v ?_ r) (fun c r => by rw [upd_ne (nown c b r)]; exact r) fun c xs r => by rw [upd_ne (ntup c xs r)]; exact r
      rcases hc with rfl | hc
      · exact hbe
      · rintro rfl
        rcases he with z | z
        · exact nown c b hc z
        · rw [hc] at z; cases z; exact hb rfl
end
structure Un (fs ex : List Addr) (H H' : Hp) (h h' : Heap) : Prop where
  keep : ∀ b o, h.get? b = some o → H b = none → b ∉ fs → b ∉ ex → h'.get? b = some o
  slot : ∀ b o, h.get? b = some o → H b = none → b ∈ fs → b ∉ ex → ∃ sl, h'.get? b = some { o with slots := sl }
  free : ∀ b o, h.get? b = some o → H b = none → b ∉ ex → H' b = none
  there : ∀ b o, h.get? b = some o → b ∉ ex → ∃ o', h'.get? b = some o'
  tups : ∀ b xs, H b = some (.tup xs) → H' b = some (.tup xs)
  frzs : ∀ b o u, H b = some (.frz o u) → H' b = some (.frz o u)
  tbls : ∀ b ps, H b = some (.tbl ps) → ∃ more, H' b = some (.tbl (ps ++ more))
section
variable {fs fs' ex ex' : List Addr} {H H1 H2 : Hp} {h h1 h2 h' : Heap} {a x e : Addr} {o : HO}
theorem Un.any (u : Un fs ex H H1 h h1) {b : Addr} {ob : Obj} (q : h.get? b = some ob) (n : H b = none) (hx : b ∉ ex) : ∃ sl, h1.get? b = some { ob with slots := sl } := by
  by_cases hb : b ∈ fs
  · exact u.slot b ob q n hb hx
  · exact ⟨ob.slots, u.keep b ob q n hb hx⟩
theorem Un.kept (k : ∀ b u, h.get? b = some u → h'.get? b = some u) : Un fs ex H H h h' :=
  ⟨fun b ob q _ _ _ => k b ob q, fun b ob q _ _ _ => ⟨ob.slots, k b ob q⟩, fun _ _ _ n _ => n, fun b ob q _ => ⟨ob, k b ob q⟩, fun _ _ q => q, fun _ _ _ q => q, fun _ ps q => ⟨#[], by rw [q]; simp⟩⟩
theorem Un.refl : Un fs ex H H h h := Un.kept fun _ _ q => q
theorem Un.laid (k : ∀ b u, h.get? b = some u → h'.get? b = some u) (hp : h.objs.size ≤ a) (hn : H a = none) : Un fs ex H (upd H a o) h h' where
  keep := fun b u q _ _ _ => k b u q
  slot := fun b u q _ _ _ => ⟨u.slots, k b u q⟩
  free := fun b u q n _ => by rw [upd_ne (Nat.ne_of_lt (Nat.lt_of_lt_of_le (Heap.lt_size q) hp))]; exact n
  there := fun b u q _ => ⟨u, k b u q⟩
  tups := fun b xs q => by rw [upd_ne (ne_of_none q hn)]; exact q
  frzs := fun b u xs q => by rw [upd_ne (ne_of_none q hn)]; exact q
  tbls := fun b ps q => ⟨#[], by rw [upd_ne (ne_of_none q hn), q]; simp⟩
theorem Un.write (mu : Mut (H x)) (he : e = x ∨ H e = some (.own x)) (k : ∀ b u, b ≠ e → h.get? b = some u → h'.get? b = some u) (heo : ∃ u, h'.get? e = some u) : Un fs ex H (upd H x o) h h' := by
  have hx : ∀ b, H b = none → b ≠ x := fun b n z => by subst z; rw [n] at mu; exact mu
  have hb : ∀ b, H b = none → b ≠ e := fun b n z => by
    subst z
    rcases he with r | r
    · exact hx b n r
    · rw [n] at r; cases r
  have hm : ∀ b u, H b = some u → ¬ Mut (some u) → b ≠ x := fun b u q nm z => by subst z; rw [q] at mu; exact nm mu
  refine ⟨fun b u q n _ _ => k b u (hb b n) q, fun b u q n _ _ => ⟨u.slots, k b u (hb b n) q⟩, fun b u q n _ => by rw [upd_ne (hx b n)]; exact n, fun b u q _ => ?_,
    fun b xs q => by rw [upd_ne (hm b _ q fun z => z)]; exact q, fun b u xs q => by rw [upd_ne (hm b _ q fun z => z)]; exact q, fun b ps q => ⟨#[], by rw [upd_ne (hm b _ q fun z => z), q]; simp⟩⟩
  by_cases hbe : b = e
  · subst hbe; exact heo
  · exact ⟨u, k b u hbe q⟩
end
def trk (h : Heap) (H : Hp) : List Addr := (List.range h.objs.size).filter fun a => (H a).isSome
def hidT (h : Heap) (H : Hp) : Heap := PySem.W.hideAll h (trk h H)
theorem hidT_size (h : Heap) (H : Hp) : (hidT h H).objs.size = h.objs.size := PySem.W.hideAll_size _ _
theorem hidT_get {h : Heap} {H : Hp} {b : Addr} {o : Obj} (e : h.get? b = some o) (n : H b = none) : (hidT h H).get? b = some o :=
  PySem.W.hideAll_get _ e fun hm => by
    have q : (H b).isSome = true := (List.mem_filter.mp hm).2
    rw [n] at q; simp at q
theorem of_hidT {h : Heap} {H : Hp} {b : Addr} {o : Obj} (e : (hidT h H).get? b = some o) : h.get? b = some o ∧ H b = none := by
  have e' : h.get? b = some o := PySem.W.of_hideAll (trk h H) e
  refine ⟨e', ?_⟩
  cases q : H b with
  | none => rfl
  | some x =>
    have hm : b ∈ trk h H := List.mem_filter.mpr ⟨List.mem_range.mpr (Heap.lt_size e'), by simp [q]⟩
    have z : (hidT h H).get? b = none := PySem.W.hideAll_none (trk h H) hm
    rw [z] at e; cases e
end L2
namespace L2
open PySem PySem.Spec PyProof.Rows
structure Mod (K : PySem.W.Frag) (mg : Str → Option Value) (base : Heap) : Prop where
  kin : K.In base
  glob : base.Ns mainGlobals mg
  blt : ∃ mb, base.Ns builtinsNs mb ∧ ∀ x : Str, x ≠ "__name__" → mb x = bootBuiltins x
  nolimit : base.NoLimit
structure Cx where
  prog : Program
  w : World
  K : PySem.W.Frag
  mg : Str → Option Value
  base : Heap
  A : Around
  N : List Str
  s₀ : Shared
  H₀ : Hp
  env : Env
  outer : List Env
  stack : List Env
  ex : List Addr
  fn : Str → Bool
  calm : Bool
  pn : List (Addr × Obj)
  xe : Value → Shared → Prop
def frs (l : List Env) : List Addr := l.filterMap (·.frame)
abbrev Cx.fs (X : Cx) : List Addr := frs X.outer
def Vis (sc : Scope) (x : Str) : Prop := sc.names.lookup x = some .local ∨ sc.names.lookup x = some .cell ∨ sc.names.lookup x = some .free
def Loc (sc : Scope) (x : Str) : Prop := sc.names.lookup x = some .local ∨ sc.names.lookup x = some .cell
def Look (env : Env) (h : Heap) (m : Str → Option Value) (x : Str) (u : Value) : Prop :=
  (env.kindOf x = some .local ∧ m x = some u) ∨ ((env.kindOf x = some .cell ∨ env.kindOf x = some .free) ∧ ∃ c, env.cells.lookup x = some c ∧ h.IsCell c (some u))
structure Cx.Ok (X : Cx) : Prop where
  mod : Mod X.K X.mg X.base
  kind : X.env.scope.kind = .function
  glob : X.env.globals = mainGlobals
  blt : X.env.builtins = builtinsNs
  above : X.s₀.heap.objs.size ≤ X.env.locals
  inj : ∀ x y c, X.env.cells.lookup x = some c → X.env.cells.lookup y = some c → x = y
  has : ∀ x, (X.env.kindOf x = some .cell ∨ X.env.kindOf x = some .free) → ∃ c, X.env.cells.lookup x = some c
  cab : ∀ x c, X.fn x = true → X.env.cells.lookup x = some c → X.s₀.heap.objs.size ≤ c
  hd : X.calm = true → X.A.handled = none
  frames : X.A.frames = some X.stack
  stk : X.stack = X.outer ∨ (X.stack = X.env :: X.outer ∧ X.env.frame = some X.env.locals)
  exf : ∀ b ∈ X.ex, b ≠ X.env.locals ∧ ∀ x c, X.env.cells.lookup x = some c → c ≠ b
  bs : ∀ b o, X.base.get? b = some o → X.s₀.heap.get? b = some o ∧ X.H₀ b = none
  bsz : X.base.objs.size ≤ X.s₀.heap.objs.size
  noex : ∀ b o, X.base.get? b = some o → b ∉ X.ex
  exfs : ∀ b ∈ X.ex, b ∉ X.fs
  funs : X.s₀.heap.FunFrames X.base X.outer
  frf : ∀ b ∈ X.fs, X.H₀ b = none
structure Inv (X : Cx) (pins : List (Addr × Obj)) (σ : List (Option V)) (H : Hp) (s : Shared) : Prop where
  ok : X.Ok
  os : s.os = X.s₀.os
  bare : AllBare s.gens
  base : Un X.fs X.ex X.H₀ H X.s₀.heap s.heap
  loc : ∃ m, s.heap.Ns X.env.locals m ∧ ∀ (i : Nat) (x : Str) (v : V), X.N[i]? = some x → σ[i]? = some (some v) → Vis X.env.scope x → ∃ u, RelV v u ∧ Look X.env s.heap m x u
  cell : ∀ x c, X.env.cells.lookup x = some c → ∃ v, s.heap.IsCell c v
  free : H X.env.locals = none
  freeC : ∀ x c, X.env.cells.lookup x = some c → H c = none
  pin : ∀ p ∈ X.pn ++ pins, s.heap.get? p.1 = some p.2 ∧ H p.1 = none ∧ p.1 ≠ X.env.locals ∧ p.1 ∉ X.fs ∧ ∀ v, p.2.data ≠ .cell v
  hok : HOk X.prog X.w H s.heap
  len : σ.length = X.N.length
section
variable {X : Cx} {pins : List (Addr × Obj)} {σ : List (Option V)} {H H' : Hp} {s : Shared} {h' : Heap}
theorem Cx.Ok.nofr (ok : X.Ok) {b : Addr} {o : Obj} (e : X.base.get? b = some o) : b ∉ X.fs := fun hb => by
  have := (ok.funs.mem hb).1
  rw [e] at this; cases this
theorem Inv.bs (I : Inv X pins σ H s) : ∀ b o, X.base.get? b = some o → s.heap.get? b = some o ∧ H b = none := fun b o e =>
  ⟨I.base.keep b o (I.ok.bs b o e).1 (I.ok.bs b o e).2 (I.ok.nofr e) (I.ok.noex b o e), I.base.free b o (I.ok.bs b o e).1 (I.ok.bs b o e).2 (I.ok.noex b o e)⟩
theorem Inv.bk (I : Inv X pins σ H s) : ∀ b o, X.base.get? b = some o → s.heap.get? b = some o := fun b o e => (I.bs b o e).1
theorem Inv.mod (I : Inv X pins σ H s) : Mod X.K X.mg X.base := I.ok.mod
theorem Inv.kIn (I : Inv X pins σ H s) : X.K.In s.heap := I.ok.mod.kin.keeps I.bk
theorem Inv.lt (I : Inv X pins σ H s) : X.env.locals < s.heap.objs.size := let ⟨_, hn, _⟩ := I.loc; hn.lt
theorem Inv.sz (I : Inv X pins σ H s) : X.s₀.heap.objs.size ≤ s.heap.objs.size := Nat.le_trans I.ok.above (Nat.le_of_lt I.lt)
theorem Inv.nofs (I : Inv X pins σ H s) {a : Addr} (h : s.heap.objs.size ≤ a) : a ∉ X.fs := fun hb => by
  obtain ⟨_, o, ho, _⟩ := I.ok.funs.mem hb
  exact absurd (Nat.lt_of_lt_of_le (Heap.lt_size ho) (Nat.le_trans I.sz h)) (Nat.lt_irrefl _)
theorem Inv.cne (I : Inv X pins σ H s) : ∀ x c, X.env.cells.lookup x = some c → c ≠ X.env.locals := fun x c e z => by
  obtain ⟨v, o, ho, hd⟩ := I.cell x c e
  obtain ⟨m, ⟨o', es, ep, ho', hd', _⟩, _⟩ := I.loc
  rw [z, ho'] at ho; cases ho; rw [hd'] at hd; cases hd
theorem Inv.funs (I : Inv X pins σ H s) : s.heap.FunFrames X.base X.outer := by
  have all : ∀ (l : List Env), (∀ b ∈ frs l, b ∈ X.fs) → X.s₀.heap.FunFrames X.base l → s.heap.FunFrames X.base l := by
    intro l
    induction l with
    | nil => intro _ _; trivial
    | cons env r ih =>
      intro hs hl
      obtain ⟨hk, ⟨L, o, hf, hn, ho, hd⟩, hr⟩ := hl
      have hL : L ∈ X.fs := hs L (by unfold frs; rw [List.filterMap_cons, hf]; exact List.mem_cons_self)
      obtain ⟨sl, e⟩ := I.base.slot L o ho (I.ok.frf L hL) hL fun z => I.ok.exfs L z hL
      exact ⟨hk, ⟨L, _, hf, hn, e, hd⟩, ih (fun b hb => hs b (by unfold frs; rw [List.filterMap_cons, hf]; exact List.mem_cons_of_mem _ hb)) hr⟩
  exact all X.outer (fun _ hb => hb) I.ok.funs
theorem Inv.stack (I : Inv X pins σ H s) : s.heap.FunFrames X.base X.stack := by
  rcases I.ok.stk with e | ⟨e, hf⟩
  · rw [e]; exact I.funs
  · rw [e]
    obtain ⟨m, hn, _⟩ := I.loc
    refine .cons (by rw [I.ok.kind]; decide) hf hn ?_ I.funs
    exact Heap.get?_none_of_le (Nat.le_trans I.ok.bsz I.ok.above)
theorem Inv.stkSub (I : Inv X pins σ H s) : ∀ b ∈ frs X.stack, b ∈ X.env.locals :: X.fs := fun b hb => by
  rcases I.ok.stk with e | ⟨e, hf⟩
  · rw [e] at hb; exact List.mem_cons_of_mem _ hb
  · rw [e] at hb
    unfold frs at hb
    rw [List.filterMap_cons, hf] at hb
    exact hb
theorem Inv.stkFree (I : Inv X pins σ H s) : ∀ b ∈ frs X.stack, H b = none := fun b hb => by
  rcases List.mem_cons.mp (I.stkSub b hb) with e | hb
  · rw [e]; exact I.free
  · obtain ⟨_, o, ho, _⟩ := I.ok.funs.mem hb
    exact I.base.free b o ho (I.ok.frf b hb) fun z => I.ok.exfs b z hb
theorem Inv.step {g' : Array GenState} {t' : Nat} {d' : Drawn} {ch : List Addr} (I : Inv X pins σ H s)
    (hch : ∀ b ∈ ch, (b ∈ X.ex ∨ X.s₀.heap.objs.size ≤ b) ∧ b ≠ X.env.locals ∧ (∀ x c, X.env.cells.lookup x = some c → c ≠ b) ∧ ∀ p ∈ X.pn ++ pins, p.1 ≠ b)
    (keep : ∀ b o, b ≠ X.env.locals → b ∉ X.fs → b ∉ ch → s.heap.get? b = some o → H b = none → h'.get? b = some o)
    (slot : ∀ b o, b ≠ X.env.locals → b ∈ X.fs → b ∉ ch → s.heap.get? b = some o → H b = none → ∃ sl, h'.get? b = some { o with slots := sl }) (free : ∀ b o, b ∉ ch → s.heap.get? b = some o → H b = none → H' b = none)
    (there : ∀ b o, b ∉ ch → s.heap.get? b = some o → ∃ o', h'.get? b = some o')
    (tups : ∀ b xs, H b = some (.tup xs) → H' b = some (.tup xs)) (frzs : ∀ b o u, H b = some (.frz o u) → H' b = some (.frz o u)) (tbls : ∀ b ps, H b = some (.tbl ps) → ∃ more, H' b = some (.tbl (ps ++ more)))
    (ns : ∀ m, s.heap.Ns X.env.locals m → h'.Ns X.env.locals m) (hok : HOk X.prog X.w H' h') (hg : AllBare g') :
    Inv X pins σ H' { s with heap := h', gens := g', drawn := d', toks := t' } := by
  have neL : ∀ b o, X.s₀.heap.get? b = some o → b ≠ X.env.locals := fun b o e => Nat.ne_of_lt (Nat.lt_of_lt_of_le (Heap.lt_size e) I.ok.above)
  have neC : ∀ b o, X.s₀.heap.get? b = some o → b ∉ X.ex → b ∉ ch := fun b o e hx hb => by
    rcases (hch b hb).1 with z | z
    · exact hx z
    · exact absurd (Nat.lt_of_lt_of_le (Heap.lt_size e) z) (Nat.lt_irrefl _)
  have cellK : ∀ x c, X.env.cells.lookup x = some c → ∀ v, s.heap.IsCell c v → h'.IsCell c v := fun x c e v ⟨o, ho, hd⟩ => by
    have nch : c ∉ ch := fun z => (hch c z).2.2.1 x c e rfl
    by_cases hc : c ∈ X.fs
    · obtain ⟨sl, q⟩ := slot c o (I.cne x c e) hc nch ho (I.freeC x c e)
      exact ⟨_, q, hd⟩
    · exact ⟨o, keep c o (I.cne x c e) hc nch ho (I.freeC x c e), hd⟩
  refine ⟨I.ok, I.os, hg, ⟨fun b o e n hb hx => ?_, fun b o e n hb hx => ?_, fun b o e n hx => ?_, fun b o e hx => ?_, fun b xs e => tups b xs (I.base.tups b xs e), fun b o xs e => frzs b o xs (I.base.frzs b o xs e), fun b ps e => ?_⟩, ?_, fun x c e => ?_, ?_, fun x c e => ?_, fun p hp => ?_, hok, I.len⟩
  · exact keep b o (neL b o e) hb (neC b o e hx) (I.base.keep b o e n hb hx) (I.base.free b o e n hx)
  · obtain ⟨sl, e1⟩ := I.base.slot b o e n hb hx
    obtain ⟨sl', e2⟩ := slot b _ (neL b o e) hb (neC b o e hx) e1 (I.base.free b o e n hx)
    exact ⟨sl', e2⟩
  · obtain ⟨o', e1⟩ := I.base.there b o e hx
    exact free b o' (neC b o e hx) e1 (I.base.free b o e n hx)
  · obtain ⟨o', e1⟩ := I.base.there b o e hx
    exact there b o' (neC b o e hx) e1
  · obtain ⟨m1, e1⟩ := I.base.tbls b ps e
    obtain ⟨m2, e2⟩ := tbls b _ e1
    exact ⟨m1 ++ m2, by rw [e2, Array.append_assoc]⟩
  · obtain ⟨m, hn, hl⟩ := I.loc
    refine ⟨m, ns m hn, fun i x v e1 e2 e3 => ?_⟩
    obtain ⟨u, r, l⟩ := hl i x v e1 e2 e3
    refine ⟨u, r, ?_⟩
    rcases l with l | ⟨k, c, e, z⟩
    · exact .inl l
    · exact .inr ⟨k, c, e, cellK x c e _ z⟩
  · obtain ⟨v, z⟩ := I.cell x c e
    exact ⟨v, cellK x c e v z⟩
  · obtain ⟨m, ⟨o, _, _, ho, _⟩, _⟩ := I.loc
    exact free _ o (fun z => (hch _ z).2.1 rfl) ho I.free
  · obtain ⟨v, o, ho, hd⟩ := I.cell x c e
    exact free c o (fun z => (hch c z).2.2.1 x c e rfl) ho (I.freeC x c e)
  · obtain ⟨e, n, ne, nf, d⟩ := I.pin p hp
    have nch : p.1 ∉ ch := fun z => (hch p.1 z).2.2.2 p hp rfl
    exact ⟨keep p.1 p.2 ne nf nch e n, free p.1 p.2 nch e n, ne, nf, d⟩
theorem Inv.un {t' : Nat} (I : Inv X pins σ H s) (u : Un X.fs [] H H' s.heap h') (hok : HOk X.prog X.w H' h') : Inv X pins σ H' { s with heap := h', toks := t' } := by
  obtain ⟨m, ⟨o, es, ep, ho, r⟩, _⟩ := id I.loc
  obtain ⟨sl, hL⟩ := u.any ho I.free (by simp)
  exact I.step (g' := s.gens) (d' := s.drawn) (ch := []) (fun _ z => nomatch z) (fun b o _ hb _ e n => u.keep b o e n hb (by simp)) (fun b o _ hb _ e n => u.slot b o e n hb (by simp)) (fun b o _ e n => u.free b o e n (by simp)) (fun b o _ e => u.there b o e (by simp)) u.tups u.frzs u.tbls (fun m' hm => by
    obtain ⟨o', es', ep', ho', r'⟩ := hm
    rw [ho] at ho'; cases ho'
    exact ⟨_, es', ep', hL, r'⟩) hok I.bare
theorem Inv.call {g' : Array GenState} {t' : Nat} {d' : Drawn} {ch : List Addr} (I : Inv X pins σ H s) (u : Un (frs X.stack) ch H H' s.heap h') (hok : HOk X.prog X.w H' h') (hg : AllBare g')
    (hch : ∀ b ∈ ch, (b ∈ X.ex ∨ X.s₀.heap.objs.size ≤ b) ∧ b ≠ X.env.locals ∧ (∀ x c, X.env.cells.lookup x = some c → c ≠ b) ∧ ∀ p ∈ X.pn ++ pins, p.1 ≠ b) :
    Inv X pins σ H' { s with heap := h', gens := g', drawn := d', toks := t' } := by
  obtain ⟨m, ⟨o, es, ep, ho, r⟩, _⟩ := id I.loc
  obtain ⟨sl, hL⟩ := u.any ho I.free fun z => (hch _ z).2.1 rfl
  exact I.step (ch := ch) hch (fun b o hL hb hc e n => u.keep b o e n (fun z => (List.mem_cons.mp (I.stkSub b z)).elim hL hb) hc) (fun b o _ _ hc e n => u.any e n hc) (fun b o hc e n => u.free b o e n hc) (fun b o hc e => u.there b o e hc) u.tups u.frzs u.tbls (fun m' hm => by
    obtain ⟨o', es', ep', ho', r'⟩ := hm
    rw [ho] at ho'; cases ho'
    exact ⟨_, es', ep', hL, r'⟩) hok hg
theorem Inv.turned {t' : Nat} {it : Addr} (I : Inv X pins σ H s) (k : ∀ b o, b ≠ it → s.heap.get? b = some o → h'.get? b = some o) (hn : H it = none) (hL : it ≠ X.env.locals)
    (h1 : it ∈ X.ex ∨ X.s₀.heap.objs.size ≤ it) (h2 : ∀ x c, X.env.cells.lookup x = some c → c ≠ it) (h3 : ∀ p ∈ X.pn ++ pins, p.1 ≠ it) : Inv X pins σ H { s with heap := h', toks := t' } := by
  have nit : ∀ b u, H b = some u → b ≠ it := fun b u e z => by rw [z, hn] at e; cases e
  refine I.step (g' := s.gens) (d' := s.drawn) (ch := [it]) (fun b hb => ?_) (fun b o _ _ hc e _ => k b o (fun z => hc (by simp [z])) e) (fun b o _ _ hc e _ => ⟨o.slots, k b o (fun z => hc (by simp [z])) e⟩) (fun _ _ _ _ n => n)
    (fun b o hc e => ⟨o, k b o (fun z => hc (by simp [z])) e⟩) (fun _ _ e => e) (fun _ _ _ e => e) (fun b ps e => ⟨#[], by rw [e]; simp⟩) (fun m hm => ?_) (fun b u e => ?_) I.bare
  · have e : b = it := by simpa using hb
    subst e
    exact ⟨h1, hL, h2, h3⟩
  · obtain ⟨o, es, ep, ho, r⟩ := hm
    exact ⟨o, es, ep, k _ o (Ne.symm hL) ho, r⟩
  · refine (I.hok b u e).stay (fun c v hc q => k c v ?_ q) (fun _ q => q) fun _ _ q => q
    rcases hc with z | z
    · rw [z]; exact nit b u e
    · exact nit c _ z
theorem Inv.tok (I : Inv X pins σ H s) (t : Nat) : Inv X pins σ H { s with toks := t } := I.un (h' := s.heap) (t' := t) Un.refl I.hok
theorem Inv.kept {t' : Nat} (I : Inv X pins σ H s) (k : ∀ b u, s.heap.get? b = some u → h'.get? b = some u) : Inv X pins σ H { s with heap := h', toks := t' } := I.un (Un.kept k) (I.hok.kept k)
theorem Inv.laid {a : Addr} {o : HO} {t' : Nat} (I : Inv X pins σ H s) (k : ∀ b u, s.heap.get? b = some u → h'.get? b = some u) (hp : s.heap.objs.size ≤ a) (new : ObjOk X.prog X.w (upd H a o) h' a o) :
    Inv X pins σ (upd H a o) { s with heap := h', toks := t' } := I.un (Un.laid k hp (I.hok.fresh hp)) (I.hok.laid k hp new)
theorem Inv.write {x e : Addr} {o : HO} {t' : Nat} (I : Inv X pins σ H s) (mu : Mut (H x)) (he : e = x ∨ H e = some (.own x)) (k : ∀ b u, b ≠ e → s.heap.get? b = some u → h'.get? b = some u) (heo : ∃ u, h'.get? e = some u)
    (new : ObjOk X.prog X.w (upd H x o) h' x o) : Inv X pins σ (upd H x o) { s with heap := h', toks := t' } := I.un (Un.write mu he k heo) (I.hok.write mu he k heo new)
theorem Inv.pins_of {pins' : List (Addr × Obj)} (I : Inv X pins σ H s) (h : ∀ p ∈ pins', s.heap.get? p.1 = some p.2 ∧ H p.1 = none ∧ p.1 ≠ X.env.locals ∧ p.1 ∉ X.fs ∧ ∀ v, p.2.data ≠ .cell v) : Inv X pins' σ H s :=
  ⟨I.ok, I.os, I.bare, I.base, I.loc, I.cell, I.free, I.freeC, fun p hp => (List.mem_append.mp hp).elim (fun z => I.pin p (List.mem_append_left _ z)) (h p), I.hok, I.len⟩
theorem nodup_ix {N : List Str} (hN : N.Nodup) {i j : Nat} {x : Str} (a : N[i]? = some x) (b : N[j]? = some x) : i = j := by
  obtain ⟨h1, e1⟩ := List.getElem?_eq_some_iff.mp a
  obtain ⟨h2, e2⟩ := List.getElem?_eq_some_iff.mp b
  exact (List.getElem_inj hN).mp (e1.trans e2.symm)
theorem store_ok2 {M : Model} {A : Around} {E : Value → Shared → Prop} {i : Nat} {x : Str} {v : V} {u : Value} {Q : Unit → Shared → Prop} (I : Inv X pins σ H s) (hN : X.N.Nodup) (hi : X.N[i]? = some x) (hx : Loc X.env.scope x) (r : RelV v u)
    (h : ∀ s', Inv X pins (σ.set i (some v)) H s' → (∃ a, Heap.SameBut a s.heap s'.heap ∧ (a = X.env.locals ∨ X.env.cells.lookup x = some a)) → Q () s') (hf : X.fn x = true ∨ X.env.scope.names.lookup x = some .local := by first | exact .inl rfl | exact .inr rfl | assumption) : wpAny M A (storeName X.env x u) Q E s := by
  obtain ⟨m, hn, hl⟩ := id I.loc
  have hcls : (X.env.scope.kind == .class || (X.env.scope.kind == .module && X.env.locals != X.env.globals)) = false := by rw [I.ok.kind]; rfl
  have hiσ : i < σ.length := by rw [I.len]; exact (List.getElem?_eq_some_iff.mp hi).1
  have cne := I.cne
  have tracked : ∀ {a : Addr} {h' : Heap}, (∃ o, s.heap.get? a = some o ∧ H a = none) → Heap.SameBut a s.heap h' → HOk X.prog X.w H h' := fun {a h'} ha hs b ob e => by
    obtain ⟨_, _, hfree⟩ := ha
    refine (I.hok b ob e).stay (fun c w' hc q => (hs.2 c ?_).trans q) (fun _ q => q) fun _ _ q => q
    rintro rfl
    rcases hc with rfl | hc
    · rw [hfree] at e; cases e
    · rw [hfree] at hc; cases hc
  rcases hx with hk | hk
  · refine wpAny_storeName_local hk hn (fun h' hn' hs => ?_) hcls
    obtain ⟨oL, _, _, hoL, _⟩ := id hn
    refine h _ ⟨I.ok, I.os, I.bare, ⟨fun b o e n hb hx => ?_, fun b o e n hb hx => ?_, I.base.free, fun b o e hx => ?_, I.base.tups, I.base.frzs, I.base.tbls⟩, ⟨_, hn', fun j y v' e1 e2 e3 => ?_⟩, fun y c e => ?_, I.free, I.freeC, fun p hp => ?_, tracked ⟨oL, hoL, I.free⟩ hs, by simpa using I.len⟩ ⟨_, hs, .inl rfl⟩
    · exact (hs.2 b (Nat.ne_of_lt (Nat.lt_of_lt_of_le (Heap.lt_size e) I.ok.above))).trans (I.base.keep b o e n hb hx)
    · obtain ⟨sl, e1⟩ := I.base.slot b o e n hb hx
      exact ⟨sl, (hs.2 b (Nat.ne_of_lt (Nat.lt_of_lt_of_le (Heap.lt_size e) I.ok.above))).trans e1⟩
    · obtain ⟨o', e1⟩ := I.base.there b o e hx
      exact ⟨o', (hs.2 b (Nat.ne_of_lt (Nat.lt_of_lt_of_le (Heap.lt_size e) I.ok.above))).trans e1⟩
    · by_cases hj : j = i
      · subst hj
        rw [hi] at e1; cases e1
        rw [List.getElem?_set_self hiσ] at e2
        cases e2
        exact ⟨u, r, .inl ⟨hk, by simp⟩⟩
      · rw [List.getElem?_set_ne (Ne.symm hj)] at e2
        obtain ⟨u', r', q⟩ := hl j y v' e1 e2 e3
        refine ⟨u', r', ?_⟩
        rcases q with ⟨k, e⟩ | ⟨k, c, e, z⟩
        · refine .inl ⟨k, ?_⟩
          have : y ≠ x := fun e => hj (nodup_ix hN e1 (e ▸ hi))
          simp [this, e]
        · exact .inr ⟨k, c, e, z.sameBut hs (cne y c e)⟩
    · obtain ⟨w', z⟩ := I.cell y c e
      exact ⟨w', z.sameBut hs (cne y c e)⟩
    · obtain ⟨e, n, ne, nf, d⟩ := I.pin p hp
      exact ⟨(hs.2 p.1 ne).trans e, n, ne, nf, d⟩
  · have hfn : X.fn x = true := by
      rcases hf with z | z
      · exact z
      · rw [z] at hk; cases hk
    obtain ⟨c, hc⟩ := I.ok.has x (.inl hk)
    obtain ⟨w', z⟩ := I.cell x c hc
    refine wpAny_storeName_cell I.ok.kind hk hc z (fun h' hc' hs => ?_)
    obtain ⟨oc, hoc, hocd⟩ := id z
    refine h { s with heap := h' } ⟨I.ok, I.os, I.bare, ⟨fun b o e n hb hx => ?_, fun b o e n hb hx => ?_, I.base.free, fun b o e hx => ?_, I.base.tups, I.base.frzs, I.base.tbls⟩, ⟨m, hn.sameBut hs (Ne.symm (cne x c hc)), fun j y v' e1 e2 e3 => ?_⟩, fun y c' e => ?_, I.free, I.freeC, fun p hp => ?_, tracked ⟨oc, hoc, I.freeC x c hc⟩ hs, by simpa using I.len⟩ ⟨c, hs, .inr hc⟩
    · exact (hs.2 b (Nat.ne_of_lt (Nat.lt_of_lt_of_le (Heap.lt_size e) (I.ok.cab x c hfn hc)))).trans (I.base.keep b o e n hb hx)
    · obtain ⟨sl, e1⟩ := I.base.slot b o e n hb hx
      exact ⟨sl, (hs.2 b (Nat.ne_of_lt (Nat.lt_of_lt_of_le (Heap.lt_size e) (I.ok.cab x c hfn hc)))).trans e1⟩
    · obtain ⟨o', e1⟩ := I.base.there b o e hx
      exact ⟨o', (hs.2 b (Nat.ne_of_lt (Nat.lt_of_lt_of_le (Heap.lt_size e) (I.ok.cab x c hfn hc)))).trans e1⟩
    · by_cases hj : j = i
      · subst hj
        rw [hi] at e1; cases e1
        rw [List.getElem?_set_self hiσ] at e2
        cases e2
        exact ⟨u, r, .inr ⟨.inl hk, c, hc, hc'⟩⟩
      · rw [List.getElem?_set_ne (Ne.symm hj)] at e2
        obtain ⟨u', r', q⟩ := hl j y v' e1 e2 e3
        refine ⟨u', r', ?_⟩
        rcases q with q | ⟨k, c', e, z'⟩
        · exact .inl q
        · refine .inr ⟨k, c', e, z'.sameBut hs ?_⟩
          rintro rfl
          exact hj (nodup_ix hN e1 (I.ok.inj _ _ _ e hc ▸ hi))
    · by_cases hcc : c' = c
      · subst hcc; exact ⟨_, hc'⟩
      · obtain ⟨w2, z2⟩ := I.cell y c' e
        exact ⟨w2, z2.sameBut hs hcc⟩
    · obtain ⟨e, n, ne, nf, d⟩ := I.pin p hp
      refine ⟨(hs.2 p.1 ?_).trans e, n, ne, nf, d⟩
      intro q
      rw [q, hoc] at e
      have q' : oc = p.2 := Option.some.inj e
      exact d w' (by rw [← q']; exact hocd)
theorem store_ok {M : Model} {A : Around} {E : Value → Shared → Prop} {i : Nat} {x : Str} {v : V} {u : Value} {Q : Unit → Shared → Prop} (I : Inv X pins σ H s) (hN : X.N.Nodup) (hi : X.N[i]? = some x) (hx : Loc X.env.scope x) (r : RelV v u)
    (h : ∀ s', Inv X pins (σ.set i (some v)) H s' → Q () s') (hf : X.fn x = true ∨ X.env.scope.names.lookup x = some .local := by first | exact .inl rfl | exact .inr rfl | assumption) : wpAny M A (storeName X.env x u) Q E s :=
  store_ok2 I hN hi hx r (fun s' I' _ => h s' I') hf
theorem Inv.call' {s' : Shared} {ch : List Addr} (I : Inv X pins σ H s) (ho : s'.os = s.os) (u : Un (frs X.stack) ch H H' s.heap s'.heap) (hok : HOk X.prog X.w H' s'.heap) (hg : AllBare s'.gens)
    (hch : ∀ b ∈ ch, (b ∈ X.ex ∨ X.s₀.heap.objs.size ≤ b) ∧ b ≠ X.env.locals ∧ (∀ x c, X.env.cells.lookup x = some c → c ≠ b) ∧ ∀ p ∈ X.pn ++ pins, p.1 ≠ b) : Inv X pins σ H' s' := by
  obtain ⟨h', g', d', t', o'⟩ := s'
  have e : o' = s.os := ho
  subst e
  exact I.call (g' := g') (t' := t') (d' := d') u hok hg hch
end
abbrev XK := Value → Option Addr → Hp → Prop
abbrev St := List (Option V)
abbrev VK := V → Hp → Prop
abbrev TE := St → Hp → VK → Prop
abbrev TT := St → Hp → (Bool → Hp → Prop) → Prop
abbrev TA := St → Hp → (List V → Hp → Prop) → Prop
structure Ends where
  nx : St → Hp → Prop
  rt : VK
  bk : St → Hp → Prop := fun _ _ => False
  ct : St → Hp → Prop := fun _ _ => False
abbrev TS := Ends → St → Hp → Prop
def EP (X : Cx) (pins : List (Addr × Obj)) (σ : St) (Q : VK) (u : Value) (s' : Shared) : Prop := ∃ v H', Inv X pins σ H' s' ∧ RelV v u ∧ Q v H'
def TP (X : Cx) (pins : List (Addr × Obj)) (σ : St) (Q : Bool → Hp → Prop) (b : Bool) (s' : Shared) : Prop := ∃ H', Inv X pins σ H' s' ∧ Q b H'
def AP (X : Cx) (pins : List (Addr × Obj)) (σ : St) (Q : List V → Hp → Prop) (us : List Value) (s' : Shared) : Prop := ∃ vs H', Inv X pins σ H' s' ∧ Vals vs us ∧ Q vs H'
def SP (X : Cx) (pins : List (Addr × Obj)) (D : Ends) (f : Flow) (s' : Shared) : Prop :=
  match f with
  | .next => ∃ σ' H', Inv X pins σ' H' s' ∧ D.nx σ' H'
  | .brk => ∃ σ' H', Inv X pins σ' H' s' ∧ D.bk σ' H'
  | .cont => ∃ σ' H', Inv X pins σ' H' s' ∧ D.ct σ' H'
  | .ret u => ∃ v σ' H', Inv X pins σ' H' s' ∧ RelV v u ∧ D.rt v H'
def PE (X : Cx) (e : Expr) (t : TE) : Prop :=
  ∀ (pins : List (Addr × Obj)) (s : Shared) (σ : St) (H : Hp) (Q : VK), Inv X pins σ H s → t σ H Q → wpAny (model X.prog X.w) X.A (eval e X.env) (EP X pins σ Q) X.xe s
def PT (X : Cx) (e : Expr) (t : TT) : Prop :=
  ∀ (pins : List (Addr × Obj)) (s : Shared) (σ : St) (H : Hp) (Q : Bool → Hp → Prop), Inv X pins σ H s → t σ H Q → wpAny (model X.prog X.w) X.A (isTrue e X.env (eval e X.env)) (TP X pins σ Q) X.xe s
def PW (X : Cx) (e : Expr) (t : TT) : Prop :=
  ∀ (whole : Sem Value) (pins : List (Addr × Obj)) (s : Shared) (σ : St) (H : Hp) (Q : Bool → Hp → Prop), Inv X pins σ H s → t σ H Q → wpAny (model X.prog X.w) X.A (isTrue e X.env whole) (TP X pins σ Q) X.xe s
theorem PW.pt {X : Cx} {e : Expr} {t : TT} (h : PW X e t) : PT X e t := h _
def PA (X : Cx) (es : List Expr) (t : TA) : Prop :=
  ∀ (pos : Pos) (pins : List (Addr × Obj)) (s : Shared) (σ : St) (H : Hp) (Q : List V → Hp → Prop), Inv X pins σ H s → t σ H Q → wpAny (model X.prog X.w) X.A (spliced (backTo pos (starEach es X.env))) (AP X pins σ Q) X.xe s
def PS (X : Cx) (st : Stmt) (t : TS) : Prop :=
  ∀ (pins : List (Addr × Obj)) (s : Shared) (σ : St) (H : Hp) (D : Ends), Inv X pins σ H s → t D σ H → wpAny (model X.prog X.w) X.A (exec st X.env) (SP X pins D) X.xe s
def PSs (X : Cx) (st : List Stmt) (t : TS) : Prop :=
  ∀ (pins : List (Addr × Obj)) (s : Shared) (σ : St) (H : Hp) (D : Ends), Inv X pins σ H s → t D σ H → wpAny (model X.prog X.w) X.A (execs st X.env) (SP X pins D) X.xe s
theorem thn {α : Type} {t : Sem α} {Q Q' : α → Shared → Prop} {M : Model} {A : Around} {E : Value → Shared → Prop} {s : Shared} (h : wpAny M A t Q E s) (hQ : ∀ a s, Q a s → Q' a s) : wpAny M A t Q' E s := wpAny_mono h hQ fun _ _ x => x
end L2
namespace L2
open PySem PySem.Spec PyProof.Rows
section
variable {X : Cx}
def tVar (i : Nat) : TE := fun σ H Q => ∃ v, σ[i]? = some (some v) ∧ Q v H
def tC (v : V) : TE := fun _ H Q => Q v H
theorem pe_var {i : Nat} {x : Str} {pos : Pos} (hN : X.N[i]? = some x) (hv : Vis X.env.scope x) (hd : (x == ("__debug__" : Str)) = false := by decide) (hcd : (x == ("__classdict__" : Str)) = false := by decide) : PE X (.Name x pos) (tVar i) := by
  intro pins s σ H Q I h
  obtain ⟨v, e, h⟩ := h
  obtain ⟨m, hn, hl⟩ := I.loc
  obtain ⟨u, r, l⟩ := hl i x v hN e hv
  have fin : EP X pins σ Q u s := ⟨v, H, I, r, h⟩
  rcases l with ⟨hk, hm⟩ | ⟨hk, c, hc, hcell⟩
  · exact wpAny_Name (wpAny_loadName_local I.ok.kind hk hn hm fin) hd
  · rcases hk with hk | hk
    · exact wpAny_Name (wpAny_loadName_cell I.ok.kind hk hc hcell fin) hd
    · exact wpAny_Name (wpAny_loadName_free I.ok.kind hk hc hcell fin hcd) hd
theorem pe_int {i j pos} : PE X (.Constant (.int i) j pos) (tC (.int i)) := fun _ _ _ H _ I h => wpAny_Constant_int ⟨.int i, H, I.tok _, ⟨_, rfl⟩, h⟩
theorem pe_bl {b j pos} : PE X (.Constant (.bool b) j pos) (tC (.bl b)) := fun _ _ _ H _ I h => Constant_bool ⟨.bl b, H, I, rfl, h⟩
theorem pe_non {j pos} : PE X (.Constant .none j pos) (tC .non) := fun _ _ _ H _ I h => Constant_none ⟨.non, H, I, rfl, h⟩
theorem pe_str {x j pos} : PE X (.Constant (.str x) j pos) (tC (.str x)) := fun _ _ _ H _ I h => Calls.Constant_str ⟨.str x, H, I.tok _, ⟨_, rfl⟩, h⟩
def Gl (X : Cx) (x : Str) : Prop := X.env.kindOf x = some .globalImplicit
theorem ld_glob {E : Value → Shared → Prop} {pins : List (Addr × Obj)} {s : Shared} {σ : St} {H : Hp} {x : Str} {u : Value} {pos : Pos} {Q : Value → Shared → Prop} (I : Inv X pins σ H s) (hg : Gl X x) (hm : X.mg x = some u) (h : Q u s)
    (hd : (x == ("__debug__" : Str)) = false := by decide) : wpAny (model X.prog X.w) X.A (eval (.Name x pos) X.env) Q E s :=
  Calls.Name_function_global I.ok.kind hg (Calls.loadGlobal_global (by rw [I.ok.glob]; exact I.mod.glob.keeps I.bk) hm h) hd
theorem ld_blt {E : Value → Shared → Prop} {pins : List (Addr × Obj)} {s : Shared} {σ : St} {H : Hp} {x : Str} {u : Value} {pos : Pos} {Q : Value → Shared → Prop} (I : Inv X pins σ H s) (hg : Gl X x) (hm : X.mg x = none) (hv : bootBuiltins x = some u) (h : Q u s)
    (hn : x ≠ "__name__" := by decide) (hd : (x == ("__debug__" : Str)) = false := by decide) : wpAny (model X.prog X.w) X.A (eval (.Name x pos) X.env) Q E s := by
  obtain ⟨mb, h1, h2⟩ := I.mod.blt
  exact Calls.Name_function_global I.ok.kind hg (Calls.loadGlobal_builtin (by rw [I.ok.glob]; exact I.mod.glob.keeps I.bk) hm (by rw [I.ok.blt]; exact h1.keeps I.bk) ((h2 x hn).trans hv) h) hd
theorem pe_glob {x : Str} {v : V} {u : Value} {pos : Pos} (hg : Gl X x) (hm : X.mg x = some u) (r : RelV v u) (hd : (x == ("__debug__" : Str)) = false := by decide) : PE X (.Name x pos) (tC v) :=
  fun _ _ _ H _ I h => ld_glob I hg hm ⟨v, H, I, r, h⟩ hd
theorem pe_bltn {x : Str} {v : V} {u : Value} {pos : Pos} (hg : Gl X x) (hm : X.mg x = none) (hv : bootBuiltins x = some u) (r : RelV v u) (hn : x ≠ "__name__" := by decide) (hd : (x == ("__debug__" : Str)) = false := by decide) : PE X (.Name x pos) (tC v) :=
  fun _ _ _ H _ I h => ld_blt I hg hm hv ⟨v, H, I, r, h⟩ hn hd
variable {a b : Expr} {ta tb : TE} {pos : Pos}
def tB (t : TE) : TT := fun σ H Q => t σ H fun x H1 => ∃ c, x = .bl c ∧ Q c H1
theorem pt_val {e : Expr} {t : TE} (h : PE X e t) (he : ∀ whole, isTrue e X.env whole = (do let v ← whole; standAt e.pos; holding [v] (truthy v)) := by intro _; rfl) : PT X e (tB t) := by
  intro pins s σ H Q I hw
  refine isTrue_plain (thn (h pins s σ H _ I hw) fun v s1 ⟨x, H1, I1, r1, q1⟩ => ?_) (he _)
  obtain ⟨d, rfl, q⟩ := q1
  cases r1
  exact wpAny_truthy_bool ⟨H1, I1, q⟩
variable {tA tB' : TT} {rest : List Expr}
def tAnd (t u : TT) : TT := fun σ H Q => t σ H fun c H1 => if c = true then u σ H1 Q else Q false H1
def tOr (t u : TT) : TT := fun σ H Q => t σ H fun c H1 => if c = true then Q true H1 else u σ H1 Q
def tNot (t : TT) : TT := fun σ H Q => t σ H fun c H1 => Q (!c) H1
theorem pw_and1 (ha : PT X a tA) : PW X (.BoolOp .And [a] pos) tA := by
  intro wh pins s σ H Q I h
  refine isTrue_and (thn (ha pins s σ H Q I h) fun c s1 e => ?_)
  cases c with
  | true => exact isTrue_and_nil e
  | false => exact e
theorem pw_or1 (ha : PT X a tA) : PW X (.BoolOp .Or [a] pos) tA := by
  intro wh pins s σ H Q I h
  refine isTrue_or (thn (ha pins s σ H Q I h) fun c s1 e => ?_)
  cases c with
  | false => exact isTrue_or_nil e
  | true => exact e
theorem pw_and (ha : PT X a tA) (hb : PW X (.BoolOp .And (b :: rest) pos) tB') : PW X (.BoolOp .And (a :: b :: rest) pos) (tAnd tA tB') := by
  intro wh pins s σ H Q I h
  refine isTrue_and (thn (ha pins s σ H _ I h) fun c s1 ⟨H1, I1, q1⟩ => ?_)
  cases c with
  | true => exact hb wh pins s1 σ H1 Q I1 q1
  | false => exact ⟨H1, I1, q1⟩
theorem pw_or (ha : PT X a tA) (hb : PW X (.BoolOp .Or (b :: rest) pos) tB') : PW X (.BoolOp .Or (a :: b :: rest) pos) (tOr tA tB') := by
  intro wh pins s σ H Q I h
  refine isTrue_or (thn (ha pins s σ H _ I h) fun c s1 ⟨H1, I1, q1⟩ => ?_)
  cases c with
  | true => exact ⟨H1, I1, q1⟩
  | false => exact hb wh pins s1 σ H1 Q I1 q1
theorem pt_not (ha : PT X a tA) : PT X (.UnaryOp .Not a pos) (tNot tA) := by
  intro pins s σ H Q I h
  exact isTrue_not (ha pins s σ H (fun c H1 => Q (!c) H1) I h)
def tAndV (ta tb : TE) : TE := fun σ H Q => ta σ H fun x H1 => ∃ c, x = .bl c ∧ if c = true then tb σ H1 Q else Q (.bl false) H1
def tNotV (ta : TE) : TE := fun σ H Q => ta σ H fun x H1 => ∃ c, x = .bl c ∧ Q (.bl (!c)) H1
theorem pe_one {op} {t : TE} (h : PE X a t) : PE X (.BoolOp op [a] pos) t := fun pins s σ H Q I hw => BoolOp_one (h pins s σ H Q I hw)
theorem pe_and (ha : PE X a ta) (hb : PE X (.BoolOp .And (b :: rest) pos) tb) : PE X (.BoolOp .And (a :: b :: rest) pos) (tAndV ta tb) := by
  intro pins s σ H Q I h
  refine BoolOp_and (thn (ha pins s σ H _ I h) fun v s1 ⟨x, H1, I1, r1, q1⟩ => ?_)
  obtain ⟨c, rfl, q1⟩ := q1
  cases r1
  refine wpAny_truthy_bool ?_
  cases c with
  | true => exact hb pins s1 σ H1 Q I1 q1
  | false => exact ⟨.bl false, H1, I1, rfl, q1⟩
theorem pe_not (ha : PE X a ta) : PE X (.UnaryOp .Not a pos) (tNotV ta) := by
  intro pins s σ H Q I h
  refine UnaryOp_ (thn (ha pins s σ H _ I h) fun v s1 ⟨x, H1, I1, r1, q1⟩ => ?_)
  obtain ⟨c, rfl, q1⟩ := q1
  cases r1
  exact not_of (wpAny_truthy_bool ⟨.bl (!c), H1, I1, rfl, q1⟩)
def tIf (t : TT) (ta tb : TE) : TE := fun σ H Q => t σ H fun c H1 => if c = true then ta σ H1 Q else tb σ H1 Q
theorem pe_ifExp {c : Expr} (hc : PT X c tA) (ha : PE X a ta) (hb : PE X b tb) : PE X (.IfExp c a b pos) (tIf tA ta tb) := by
  intro pins s σ H Q I h
  refine wpAny_IfExp (thn (hc pins s σ H _ I h) fun d s1 ⟨H1, I1, q1⟩ => ?_)
  cases d with
  | true => exact ha pins s1 σ H1 Q I1 q1
  | false => exact hb pins s1 σ H1 Q I1 q1
end
end L2
namespace L2
open PySem PySem.Spec PyProof.Rows
def SqL (K : PySem.W.Frag) (H : Hp) (a : Addr) (xs : List V) : Prop :=
  Rd H a (.lst xs) ∨
    ∃ (o : Obj) (its : Array Value) (n : Nat), K.lookup a = some o ∧ o.cls = .type "list" ∧ o.dict = none ∧ o.data = .seq its n ∧ its.size ≤ sizeLine ∧ Vals xs its.toList
def SqT (K : PySem.W.Frag) (H : Hp) (a : Addr) (xs : List V) : Prop :=
  Rd H a (.tup xs) ∨
    ∃ (o : Obj) (its : Array Value) (n : Nat), K.lookup a = some o ∧ o.cls = .type "tuple" ∧ o.data = .seq its n ∧ its.size ≤ sizeLine ∧ Vals xs its.toList
def absV : Value → Option V
  | .none => some .non
  | .bool b => some (.bl b)
  | .int i _ => some (.int i)
  | .str x _ => some (.str x)
  | .bytes b _ => some (.byt b)
  | .float b _ => some (.flt b)
  | .ref a => some (.ref a)
  | .type n => some (.ty n)
  | _ => none
theorem RelV.abs {x : V} {u : Value} (r : RelV x u) : absV u = some x := by
  cases x with
  | non => cases r; rfl
  | bl _ => cases r; rfl
  | int _ => obtain ⟨t, rfl⟩ := r; rfl
  | str _ => obtain ⟨t, rfl⟩ := r; rfl
  | byt _ => obtain ⟨t, rfl⟩ := r; rfl
  | flt _ => obtain ⟨t, rfl⟩ := r; rfl
  | ref _ => cases r; rfl
  | ty _ => cases r; rfl
theorem RelV.inj {x y : V} {u : Value} (r : RelV x u) (q : RelV y u) : x = y := Option.some.inj (r.abs.symm.trans q.abs)
theorem Vals.inj : ∀ {xs ys : List V} {us : List Value}, Vals xs us → Vals ys us → xs = ys
  | _, _, _, .nil, .nil => rfl
  | _, _, _, .cons r t, .cons r' t' => by rw [r.inj r', Vals.inj t t']
section
variable {X : Cx} {pins : List (Addr × Obj)} {σ : St} {H : Hp} {s : Shared} {a : Addr} {xs ys : List V}
theorem SqL.of {K : PySem.W.Frag} (h : H a = some (.lst xs)) : SqL K H a xs := .inl (.inl h)
theorem SqT.of {K : PySem.W.Frag} (h : H a = some (.tup xs)) : SqT K H a xs := .inl (.inl h)
theorem Inv.list (I : Inv X pins σ H s) (h : SqL X.K H a xs) : ∃ its : List Value, Vals xs its ∧ PlainL s.heap a its.toArray ∧ xs.length ≤ sizeLine := by
  rcases h with h | ⟨o, its, n, hk, hc, hd, hs, hz, r⟩
  · obtain ⟨z, its, n, r, e⟩ := h.ok I.hok
    exact ⟨its, r, ⟨_, n, e, rfl, rfl, rfl⟩, z⟩
  · refine ⟨its.toList, r, ⟨o, n, I.kIn a o hk, hc, hd, by simpa using hs⟩, ?_⟩
    have e := r.length
    simp only [Array.length_toList] at e
    omega
theorem Inv.tuple (I : Inv X pins σ H s) (h : SqT X.K H a xs) : ∃ its : List Value, Vals xs its ∧ IsTup s.heap a its.toArray ∧ xs.length ≤ sizeLine := by
  rcases h with h | ⟨o, its, n, hk, hc, hs, hz, r⟩
  · obtain ⟨z, its, r, p, _⟩ := h.ok I.hok
    exact ⟨its, r, p, z⟩
  · refine ⟨its.toList, r, ⟨o, I.kIn a o hk, hc, n, by simpa using hs⟩, ?_⟩
    have e := r.length
    simp only [Array.length_toList] at e
    omega
theorem Inv.list_inj (I : Inv X pins σ H s) (h : SqL X.K H a xs) (h' : SqL X.K H a ys) : xs = ys := by
  obtain ⟨its, r, ⟨o, n, e, _, _, d⟩, _⟩ := I.list h
  obtain ⟨its', r', ⟨o', n', e', _, _, d'⟩, _⟩ := I.list h'
  rw [e] at e'; cases e'
  rw [d] at d'
  injection d' with d1 _
  have : its = its' := by simpa using congrArg Array.toList d1
  subst this
  exact r.inj r'
theorem Inv.tuple_inj (I : Inv X pins σ H s) (h : SqT X.K H a xs) (h' : SqT X.K H a ys) : xs = ys := by
  obtain ⟨its, r, ⟨o, e, _, n, d⟩, _⟩ := I.tuple h
  obtain ⟨its', r', ⟨o', e', _, n', d'⟩, _⟩ := I.tuple h'
  rw [e] at e'; cases e'
  rw [d] at d'
  injection d' with d1 _
  have : its = its' := by simpa using congrArg Array.toList d1
  subst this
  exact r.inj r'
end
abbrev Cx.wish (X : Cx) (E : Value → Shared → Prop) : Cx := { X with xe := E }
abbrev Cx.nox (X : Cx) : Cx := X.wish fun _ _ => False
theorem Cx.Ok.wish {X : Cx} (ok : X.Ok) (E : Value → Shared → Prop) : (X.wish E).Ok :=
  ⟨ok.mod, ok.kind, ok.glob, ok.blt, ok.above, ok.inj, ok.has, ok.cab, ok.hd, ok.frames, ok.stk, ok.exf, ok.bs, ok.bsz, ok.noex, ok.exfs, ok.funs, ok.frf⟩
theorem Cx.Ok.unwish {X : Cx} {E : Value → Shared → Prop} (ok : (X.wish E).Ok) : X.Ok :=
  ⟨ok.mod, ok.kind, ok.glob, ok.blt, ok.above, ok.inj, ok.has, ok.cab, ok.hd, ok.frames, ok.stk, ok.exf, ok.bs, ok.bsz, ok.noex, ok.exfs, ok.funs, ok.frf⟩
section
variable {X : Cx} {pins : List (Addr × Obj)} {σ : St} {H : Hp} {s : Shared} {E : Value → Shared → Prop}
theorem Inv.wish (I : Inv X pins σ H s) (E : Value → Shared → Prop) : Inv (X.wish E) pins σ H s := ⟨I.ok.wish E, I.os, I.bare, I.base, I.loc, I.cell, I.free, I.freeC, I.pin, I.hok, I.len⟩
theorem Inv.unwish (I : Inv (X.wish E) pins σ H s) : Inv X pins σ H s := ⟨I.ok.unwish, I.os, I.bare, I.base, I.loc, I.cell, I.free, I.freeC, I.pin, I.hok, I.len⟩
theorem SP.unwish {D : Ends} {f : Flow} {s' : Shared} (h : SP (X.wish E) pins D f s') : SP X pins D f s' := by
  cases f with
  | next => obtain ⟨σ', H', I, q⟩ := h; exact ⟨σ', H', I.unwish, q⟩
  | brk => obtain ⟨σ', H', I, q⟩ := h; exact ⟨σ', H', I.unwish, q⟩
  | cont => obtain ⟨σ', H', I, q⟩ := h; exact ⟨σ', H', I.unwish, q⟩
  | ret u => obtain ⟨v, σ', H', I, r, q⟩ := h; exact ⟨v, σ', H', I.unwish, r, q⟩
theorem PSs.nox {st : List Stmt} {t : TS} (h : PSs X.nox st t) : PSs X st t := fun pins s σ H D I hw =>
  wpAny_mono (h pins s σ H D (I.wish _) hw) (fun _ _ q => q.unwish) fun _ _ z => False.elim z
end
section
variable {X : Cx} {st : Stmt} {rest : List Stmt} {t u : TS} {e : Expr} {te : TE} {pos : Pos}
def tNext : TS := fun D σ H => D.nx σ H
def tSeq (t u : TS) : TS := fun D σ H => t { D with nx := u D } σ H
theorem pss_nil : PSs X [] tNext := fun _ _ σ H _ I h => wpAny_execs_nil ⟨σ, H, I, h⟩
theorem pss_cons (h1 : PS X st t) (h2 : PSs X rest u) : PSs X (st :: rest) (tSeq t u) := by
  intro pins s σ H D I h
  refine wpAny_execs_cons (thn (h1 pins s σ H { D with nx := u D } I h) fun f s1 q => ?_)
  cases f with
  | next =>
    obtain ⟨σ', H', I', q⟩ := q
    exact h2 pins s1 σ' H' D I' q
  | ret v => exact q
  | brk => exact q
  | cont => exact q
theorem pss_one (h1 : PS X st t) : PSs X [st] t := by
  intro pins s σ H D I h
  refine wpAny_execs_cons (thn (h1 pins s σ H D I h) fun f s1 q => ?_)
  cases f with
  | next => exact wpAny_execs_nil q
  | ret v => exact q
  | brk => exact q
  | cont => exact q
theorem Inv.quiet {pins : List (Addr × Obj)} {σ : St} {H : Hp} {s : Shared} (I : Inv X pins σ H s) : interactive X.env = false := by simp [interactive, I.ok.kind]
def tDrop (te : TE) : TS := fun D σ H => te σ H fun _ H1 => D.nx σ H1
theorem ps_expr (he : PE X e te) (hs : swapsWith e none pos.line X.env = pure false := by rfl) : PS X (.Expr e pos) (tDrop te) := by
  intro pins s σ H D I h
  exact wpAny_Expr_any (thn (he pins s σ H _ I h) fun v s1 ⟨x, H1, I1, r1, q1⟩ => ⟨σ, H1, I1, q1⟩) I.quiet hs
def tRet (te : TE) : TS := fun D σ H => te σ H D.rt
theorem ps_ret (he : PE X e te) : PS X (.Return (some e) pos) (tRet te) := by
  intro pins s σ H D I h
  exact wpAny_Return_some (thn (he pins s σ H _ I h) fun v s1 ⟨x, H1, I1, r1, q1⟩ => ⟨x, σ, H1, I1, r1, q1⟩)
def tIfS (c : TT) (t u : TS) : TS := fun D σ H => c σ H fun b H1 => if b = true then t D σ H1 else u D σ H1
theorem ps_if {c : Expr} {a b : List Stmt} {tc : TT} (hc : PT X c tc) (ha : PSs X a t) (hb : PSs X b u) : PS X (.If c a b pos) (tIfS tc t u) := by
  intro pins s σ H D I h
  refine wpAny_If (thn (hc pins s σ H _ I h) fun d s1 ⟨H1, I1, q1⟩ => ?_)
  cases d with
  | true => exact ha pins s1 σ H1 D I1 q1
  | false => exact hb pins s1 σ H1 D I1 q1
end
abbrev TG := V → St → Hp → (St → Hp → Prop) → Prop
abbrev TGs := List V → St → Hp → (St → Hp → Prop) → Prop
def PG (X : Cx) (target : Expr) (t : TG) : Prop :=
  ∀ (pins : List (Addr × Obj)) (s : Shared) (σ : St) (H : Hp) (v : V) (u : Value) (Q : St → Hp → Prop), Inv X pins σ H s → RelV v u → t v σ H Q →
    wpAny (model X.prog X.w) X.A (assign target X.env u) (fun _ s' => ∃ σ' H', Inv X pins σ' H' s' ∧ Q σ' H') X.xe s
def PGs (X : Cx) (ts : List Expr) (t : TGs) : Prop :=
  ∀ (pins : List (Addr × Obj)) (s : Shared) (σ : St) (H : Hp) (vs : List V) (us : List Value) (Q : St → Hp → Prop), Inv X pins σ H s → Vals vs us → t vs σ H Q →
    wpAny (model X.prog X.w) X.A (assignInOrder ((assignEach ts X.env).map (·.2)) us) (fun _ s' => ∃ σ' H', Inv X pins σ' H' s' ∧ Q σ' H') X.xe s
abbrev TSet := V → V → V → Hp → (Hp → Prop) → Prop
def PSet (X : Cx) (t : TSet) : Prop :=
  ∀ (pins : List (Addr × Obj)) (s : Shared) (σ : St) (H : Hp) (o i v : V) (ov iv u : Value) (Q : Hp → Prop), Inv X pins σ H s → RelV o ov → RelV i iv → RelV v u → t o i v H Q →
    wpAny (model X.prog X.w) X.A (setItem ov iv u) (fun _ s' => ∃ H', Inv X pins σ H' s' ∧ Q H') X.xe s
section
variable {X : Cx} {pos : Pos}
def gName (i : Nat) : TG := fun v σ H Q => Q (σ.set i (some v)) H
theorem pg_name {i : Nat} {x : Str} (hN : X.N.Nodup) (hi : X.N[i]? = some x) (hx : Loc X.env.scope x) (hf : X.fn x = true ∨ X.env.scope.names.lookup x = some .local := by first | exact .inl rfl | exact .inr rfl | assumption) : PG X (.Name x pos) (gName i) := by
  intro pins s σ H v u Q I r h
  exact wpAny_assign_Name (store_ok I hN hi hx r (fun s' I' => ⟨_, H, I', h⟩) hf)
def gNil : TGs := fun vs σ H Q => vs = [] ∧ Q σ H
def gCons (t : TG) (u : TGs) : TGs := fun vs σ H Q => ∃ v r, vs = v :: r ∧ t v σ H fun σ' H' => u r σ' H' Q
theorem pgs_nil : PGs X [] gNil := by
  intro pins s σ H vs us Q I r h
  obtain ⟨e, h⟩ := h
  subst e
  cases r
  exact assignInOrder_nil ⟨σ, H, I, h⟩
theorem pgs_cons {e : Expr} {es : List Expr} {t : TG} {u : TGs} (h1 : PG X e t) (h2 : PGs X es u)
    (hs : (assignEach (e :: es) X.env).map (·.2) = assign e X.env :: (assignEach es X.env).map (·.2) := by rfl) : PGs X (e :: es) (gCons t u) := by
  intro pins s σ H vs us Q I r h
  obtain ⟨v, vr, e1, h⟩ := h
  subst e1
  cases r with
  | cons r rr =>
    rw [hs]
    refine assignInOrder_cons (thn (h1 pins s σ H _ _ _ I r h) fun _ s1 ⟨σ1, H1, I1, q1⟩ => ?_)
    exact h2 pins s1 σ1 H1 _ _ Q I1 rr q1
def gTup (K : PySem.W.Frag) (n : Nat) (t : TGs) : TG := fun v σ H Q => ∃ a xs, v = .ref a ∧ SqT K H a xs ∧ xs.length = n ∧ t xs σ H Q
theorem pg_tup {es : List Expr} {k : Nat} {t : TGs} {n : Nat} (hc : X.calm = true) (h : PGs X es t)
    (hn : (assignEach es X.env).length = n := by rfl) (hst : (assignEach es X.env).findIdx? (·.1) = none := by rfl) : PG X (.Tuple es k pos) (gTup X.K n t) := by
  intro pins s σ H v u Q I r hw
  obtain ⟨a, xs, e1, hq, hl, hw⟩ := hw
  subst e1
  cases r
  obtain ⟨its, rv, ht, hz⟩ := I.tuple hq
  refine assign_Tuple_tuple (I.ok.hd hc) ht (by simp [hn, ← hl, rv.length]) hst fun h' hx => ?_
  have I1 : Inv X pins σ H { s with heap := h' } := I.kept (t' := s.toks) fun b o e => hx b o (Nat.ne_of_lt (Heap.lt_size e)) e
  exact h pins _ σ H xs _ Q I1 (by simpa using rv) hw
def gSub (to ti : TE) (t : TSet) : TG := fun v σ H Q => to σ H fun o H1 => ti σ H1 fun i H2 => t o i v H2 fun H3 => Q σ H3
theorem pg_sub {o i : Expr} {to ti : TE} {t : TSet} (ho : PE X o to) (hi : PE X i ti) (hs : PSet X t)
    (ha : ∀ v, assign (.Subscript o i pos) X.env v = (do
      let ov ← holding [v] (eval o X.env)
      let iv ← holding [v, ov] (eval i X.env)
      standAt pos
      holding [v, ov, iv] (setItem ov iv v)
      release [v, ov, iv] []) := by intro _; rfl) : PG X (.Subscript o i pos) (gSub to ti t) := by
  intro pins s σ H v u Q I r h
  rw [ha]
  refine wpAny_bind (wpAny_holding (thn (ho pins s σ H _ I h) fun ov s1 ⟨x, H1, I1, r1, q1⟩ => ?_))
  refine wpAny_bind (wpAny_holding (thn (hi pins s1 σ H1 _ I1 q1) fun iv s2 ⟨y, H2, I2, r2, q2⟩ => ?_))
  refine wpAny_bind (wpAny_standAt (wpAny_bind (wpAny_holding (thn (hs pins s2 σ H2 x y v ov iv u _ I2 r1 r2 r q2) fun _ s3 ⟨H3, I3, q3⟩ => ?_))))
  exact wpAny_release ⟨σ, H3, I3, q3⟩
def tAsg (te : TE) (g : TG) : TS := fun D σ H => te σ H fun x H1 => g x σ H1 D.nx
theorem ps_asg {tg e : Expr} {te : TE} {g : TG} (he : PE X e te) (hg : PG X tg g) (hs : swapsWithSole [tg] e pos.line X.env = pure false := by rfl) (hw : swappedStores [tg] e X.env = pure none := by rfl)
    (h1 : (assignEach [tg] X.env).map (·.2) = [assign tg X.env] := by rfl) : PS X (.Assign [tg] e pos) (tAsg te g) := by
  intro pins s σ H D I h
  refine wpAny_Assign_stores (thn (he pins s σ H _ I h) fun v s1 ⟨x, H1, I1, r1, q1⟩ => ?_) hs hw
  rw [h1]
  exact thn (hg pins s1 σ H1 x v _ I1 r1 q1) fun _ s2 q => q
theorem ps_set {i : Nat} {x : Str} {e : Expr} {te : TE} {pos' : Pos} (hN : X.N.Nodup) (hi : X.N[i]? = some x) (hx : Loc X.env.scope x) (he : PE X e te) (hs : swapsWith e (some (.Name x pos')) pos.line X.env = pure false := by rfl) (hf : X.fn x = true ∨ X.env.scope.names.lookup x = some .local := by first | exact .inl rfl | exact .inr rfl | assumption) :
    PS X (.Assign [.Name x pos'] e pos) (tAsg te (gName i)) := by
  intro pins s σ H D I h
  refine wpAny_Assign_Name (thn (he pins s σ H _ I h) fun v s1 ⟨y, H1, I1, r1, q1⟩ => ?_) hs
  exact store_ok I1 hN hi hx r1 (fun s2 I2 => ⟨_, H1, I2, q1⟩) hf
def tPar (i j : Nat) (ta : TA) : TS := fun D σ H => ta σ H fun vs H1 => ∃ v w, vs = [v, w] ∧ D.nx ((σ.set i (some v)).set j (some w)) H1
theorem ps_par {i j : Nat} {x y : Str} {a b : Expr} {ta : TA} {px py pt : Pos} {kt k2 pt2} (hc : X.calm = true) (hN : X.N.Nodup) (hi : X.N[i]? = some x) (hj : X.N[j]? = some y) (hij : i ≠ j)
    (hx : X.env.scope.names.lookup x = some .local) (hy : X.env.scope.names.lookup y = some .local) (ha : PA X [a, b] ta)
    (hw : swappedStores [.Tuple [.Name x px, .Name y py] kt pt] (.Tuple [a, b] k2 pt2) X.env = pure (some [x, y]))
    (hs : swapsWithSole [.Tuple [.Name x px, .Name y py] kt pt] (.Tuple [a, b] k2 pt2) pos.line X.env = pure false := by rfl) :
    PS X (.Assign [.Tuple [.Name x px, .Name y py] kt pt] (.Tuple [a, b] k2 pt2) pos) (tPar i j ta) := by
  intro pins s σ H D I h
  rw [exec_Assign_arm]
  refine wpAny_bind (wpAny_standAt ?_)
  rw [hs]
  refine wpAny_bind (wpAny_pure ?_)
  rw [if_neg (by decide)]
  refine wpAny_bind (Tuple_ (thn (ha _ pins s σ H _ I h) fun us s1 ⟨vs, H1, I1, r1, q1⟩ => ?_))
  obtain ⟨v, w, e1, q1⟩ := q1
  subst e1
  obtain ⟨u1, u2, rfl, rv, rw'⟩ : ∃ u1 u2, us = [u1, u2] ∧ RelV v u1 ∧ RelV w u2 := by
    cases r1 with
    | cons p q =>
      cases q with
      | cons p' q' =>
        cases q'
        exact ⟨_, _, rfl, p, p'⟩
  refine wpAny_newObj_type ?_ (by show 2 ≤ sizeLine; decide)
  have I2 : Inv X pins σ H1 { s1 with heap := s1.heap.push { cls := .type "tuple", data := .seq [u1, u2].toArray } } := I1.kept (t' := s1.toks) fun b o e => Heap.get?_push_of_some _ e
  rw [hw]
  refine wpAny_bind (wpAny_pure ?_)
  show wpAny (model X.prog X.w) X.A (do rule "assign.swapped-stores"; let items ← unpackItems (.ref s1.heap.objs.size) 2 none; assignInOrder [fun v => bindName X.env y v, fun v => bindName X.env x v] items.reverse; pure Flow.next) _ _ _
  refine wpAny_bind (wpAny_rule (wpAny_bind (unpackItems_tuple (items := #[u1, u2]) (I.ok.hd hc) (IsTup.new s1.heap _) fun h' hx' => ?_)))
  have I3 := I2.kept (h' := h') (t' := s1.toks) fun b o e => hx' b o (Nat.ne_of_lt (Heap.lt_size e)) e
  show wpAny _ _ (assignInOrder [fun v => bindName X.env y v, fun v => bindName X.env x v] [u2, u1] >>= fun _ => pure Flow.next) _ _ _
  refine wpAny_bind (assignInOrder_cons (wpAny_bindName (store_ok I3 hN hj (.inl hy) rw' (fun s2 I4 => ?_) (.inr hy))))
  refine assignInOrder_cons (wpAny_bindName (store_ok I4 hN hi (.inl hx) rv (fun s3 I5 => assignInOrder_nil (wpAny_pure ?_)) (.inr hx)))
  rw [List.set_comm _ _ (Ne.symm hij)] at I5
  exact ⟨_, H1, I5, q1⟩
end
section
variable {X : Cx} {pos : Pos}
def tWhile (c : TT) (tb : TS) : TS := fun D σ H => ∃ W : Nat → St → Hp → Prop, (∃ m, W m σ H) ∧ ∀ m σ H, W m σ H →
  c σ H fun b H1 => if b = true then ∃ N : St → Hp → Prop, (∀ σ' H', N σ' H' → ∃ m', m' < m ∧ W m' σ' H') ∧ tb { D with nx := N, ct := N, bk := D.nx } σ H1 else D.nx σ H1
theorem ps_while {c : Expr} {body : List Stmt} {tc : TT} {tb : TS} (hp : PassesOwn (model X.prog X.w) X.A X.env X.xe) (hc : PT X c tc) (hb : PSs X body tb) : PS X (.While c body [] pos) (tWhile tc tb) := by
  intro pins s σ H D I h
  obtain ⟨W, ⟨m0, w0⟩, turn⟩ := h
  refine wpAny_While (codeAny_whileLoop (fun n s' => ∃ σ' H', Inv X pins σ' H' s' ∧ W n σ' H') ?_ m0 ⟨σ, H, I, w0⟩)
  rintro n s1 ⟨σ1, H1, I1, w1⟩
  refine wpAny_passesOwn hp (thn (hc pins s1 σ1 H1 _ I1 (turn n σ1 H1 w1)) fun b s2 ⟨H2, I2, q2⟩ => ?_)
  cases b with
  | true =>
    obtain ⟨N, hN, q2⟩ := q2
    rw [if_pos rfl]
    refine wpAny_passesOwn hp (thn (hb pins s2 σ1 H2 _ I2 q2) fun f s3 q3 => ?_)
    cases f with
    | next =>
      obtain ⟨σ3, H3, I3, n3⟩ := q3
      obtain ⟨m', hm, w3⟩ := hN σ3 H3 n3
      exact ⟨m', hm, σ3, H3, I3, w3⟩
    | cont =>
      obtain ⟨σ3, H3, I3, n3⟩ := q3
      obtain ⟨m', hm, w3⟩ := hN σ3 H3 n3
      exact ⟨m', hm, σ3, H3, I3, w3⟩
    | brk => exact q3
    | ret v => exact q3
  | false =>
    rw [if_neg Bool.false_ne_true]
    exact wpAny_execs_nil ⟨σ1, H2, I2, q2⟩
end
structure It where
  go : Nat → Hp → Prop
  yld : Nat → Hp → V → Hp → Prop
  stop : Nat → Hp → Prop
def FpOk (X : Cx) (pins : List (Addr × Obj)) (H : Hp) (b : Addr) : Prop :=
  H b = none ∧ b ≠ X.env.locals ∧ b ∉ X.fs ∧ (b ∈ X.ex ∨ X.s₀.heap.objs.size ≤ b) ∧ (∀ x c, X.env.cells.lookup x = some c → c ≠ b) ∧ ∀ p ∈ X.pn ++ pins, p.1 ≠ b
theorem Inv.fpOk {X : Cx} {pins : List (Addr × Obj)} {σ : St} {H H' : Hp} {s : Shared} {b : Addr} (I : Inv X pins σ H s) (hb : s.heap.objs.size ≤ b) (hn : H' b = none) : FpOk X pins H' b := by
  refine ⟨hn, Nat.ne_of_gt (Nat.lt_of_lt_of_le I.lt hb), I.nofs hb, .inr (Nat.le_trans I.sz hb), fun x c e z => ?_, fun p hp z => ?_⟩
  · obtain ⟨v, q⟩ := I.cell x c e
    exact absurd (Nat.lt_of_lt_of_le q.lt (by rw [z]; exact hb)) (Nat.lt_irrefl _)
  · exact absurd (Nat.lt_of_lt_of_le (Heap.lt_size (I.pin p hp).1) (by rw [z]; exact hb)) (Nat.lt_irrefl _)
structure Turn (P : Program) (w : World) (K : PySem.W.Frag) (tg : Expr) (J : It) (fp : List Addr) (it : Addr) (tn : Nat → Heap → Prop) : Prop where
  mem : it ∈ fp
  obj : ∀ i h, tn i h → ∀ b ∈ fp, ∃ o, h.get? b = some o ∧ ∀ v, o.data ≠ .cell v
  keep : ∀ i h h', tn i h → (∀ b ∈ fp, ∀ o, h.get? b = some o → h'.get? b = some o) → tn i h'
  item : ∀ (X : Cx), X.prog = P → X.w = w → X.K = K → X.calm = true → ∀ (i : Nat) (pins : List (Addr × Obj)) (s : Shared) (σ : St) (H : Hp) (E : Value → Shared → Prop), Inv X pins σ H s → (∀ b ∈ fp, FpOk X pins H b) → tn i s.heap → J.go i H →
    wpAny (model P w) X.A (pyNext (.ref it)) (fun r s1 => ∃ u, r = some u ∧
      wpAny (model P w) X.A (letOwnedTupleGo tg (.ref it) u) (fun _ s2 => ∃ x H', Inv X pins σ H' s2 ∧ RelV x u ∧ J.yld i H x H' ∧ tn (i + 1) s2.heap ∧ ∀ b ∈ fp, H' b = none) E s1) E s
  done : ∀ (X : Cx), X.prog = P → X.w = w → X.K = K → X.calm = true → ∀ (i : Nat) (pins : List (Addr × Obj)) (s : Shared) (σ : St) (H : Hp) (E : Value → Shared → Prop), Inv X pins σ H s → (∀ b ∈ fp, FpOk X pins H b) → tn i s.heap → J.stop i H →
    wpAny (model P w) X.A (pyNext (.ref it)) (fun r s1 => r = none ∧ Inv X pins σ H s1) E s
  self : ∀ (A : Around) (i : Nat) (s : Shared) (Q : Value → Shared → Prop) (E : Value → Shared → Prop), tn i s.heap → Q (.ref it) s → wpAny (model P w) A (pyIter (.ref it)) Q E s
abbrev TI := St → Hp → (It → Hp → Prop) → Prop
def PIE (X : Cx) (pins : List (Addr × Obj)) (σ : St) (tg : Expr) (R : It → Hp → Prop) (itv : Value) (s2 : Shared) : Prop :=
  ∃ (it : Addr) (fp : List Addr) (tn : Nat → Heap → Prop) (J : It) (H' : Hp), itv = .ref it ∧ Inv X pins σ H' s2 ∧ Turn X.prog X.w X.K tg J fp it tn ∧ tn 0 s2.heap ∧ (∀ b ∈ fp, FpOk X pins H' b) ∧ R J H'
def PI (X : Cx) (tg iter : Expr) (wi : TI) : Prop :=
  ∀ (pins : List (Addr × Obj)) (s : Shared) (σ : St) (H : Hp) (R : It → Hp → Prop), Inv X pins σ H s → wi σ H R →
    wpAny (model X.prog X.w) X.A (eval iter X.env) (fun v s1 => wpAny (model X.prog X.w) X.A (pyIter v) (PIE X pins σ tg R) X.xe s1) X.xe s
theorem go_of {M : Model} {A : Around} {E : Value → Shared → Prop} {s : Shared} {tg : Expr} {it : Addr} {u : Value} {o : Obj} {n : String} {vs : Array Value} {Q : Unit → Shared → Prop} (ho : s.heap.get? it = some o) (hc : o.cls = .type n) (hd : o.data = .fields vs)
    (hn : ["enumerate", "zip", "dict_itemiterator", "dict_reverseitemiterator", "odict_iterator", "itertools.zip_longest", "itertools.pairwise"].contains n = false) (hQ : Q () s) : wpAny M A (letOwnedTupleGo tg (.ref it) u) Q E s := by
  unfold letOwnedTupleGo
  cases tg <;> first
    | exact wpAny_pure hQ
    | (cases u <;> first
        | exact wpAny_pure hQ
        | (refine wpAny_bind (wpAny_load ho ?_)
           rw [hc, hd]
           show wpAny M A (if (["enumerate", "zip", "dict_itemiterator", "dict_reverseitemiterator", "odict_iterator", "itertools.zip_longest", "itertools.pairwise"].contains n && vs[0]? == some (rawInt _)) = true then _ else _) Q E s
           rw [if_neg (by intro h; rw [hn, Bool.false_and] at h; cases h)]
           exact wpAny_pure hQ))
def Itl (K : PySem.W.Frag) (a : Addr) : It :=
  ⟨fun i H => ∃ xs x, SqL K H a xs ∧ xs[i]? = some x, fun i H x H' => H' = H ∧ ∀ xs, SqL K H a xs → xs[i]? = some x, fun i H => ∃ xs, SqL K H a xs ∧ xs.length ≤ i⟩
def Itt (K : PySem.W.Frag) (a : Addr) : It :=
  ⟨fun i H => ∃ xs x, SqT K H a xs ∧ xs[i]? = some x, fun i H x H' => H' = H ∧ ∀ xs, SqT K H a xs → xs[i]? = some x, fun i H => ∃ xs, SqT K H a xs ∧ xs.length ≤ i⟩
def Itr (lo : Int) (n : Nat) : It := ⟨fun i _ => i < n, fun i H x H' => H' = H ∧ x = .int (lo + i), fun i _ => n ≤ i⟩
theorem turn_list {P : Program} {w : World} {K : PySem.W.Frag} {tg : Expr} (a it : Addr) : Turn P w K tg (Itl K a) [it] it (fun i h => h.IsListIter it a i) where
  mem := by simp
  obj := fun i h st b hb => by
    have e : b = it := by simpa using hb
    subst e
    obtain ⟨o, e, c, d⟩ := st
    exact ⟨o, e, fun v z => by rw [d] at z; cases z⟩
  keep := fun i h h' st k => st.at fun o e => k it (by simp) o e
  item := by
    intro X hP hw hK hc i pins s σ H E I hf st hg
    subst hP hw hK
    obtain ⟨xs, x, hq, hx⟩ := hg
    obtain ⟨its, rv, p, hz⟩ := I.list hq
    obtain ⟨u, hu, ru⟩ := rv.get hx
    obtain ⟨f0, f1, f2, f3, f4, f5⟩ := hf it (by simp)
    refine wpAny_pyNext_list_item st p.isList (x := u) (by simpa using hu) fun h' st' sb => ?_
    have I1 : Inv X pins σ H { s with heap := h' } := I.turned (t' := s.toks) (fun b o hb e => (sb.2 b hb).trans e) f0 f1 f3 f4 f5
    obtain ⟨o, e, c, d⟩ := id st'
    exact ⟨u, rfl, go_of (s := { s with heap := h' }) e c d (by decide) ⟨x, H, I1, ru, ⟨rfl, fun ys hy => by rw [I.list_inj hy hq]; exact hx⟩, st', fun b hb => (hf b hb).1⟩⟩
  done := by
    intro X hP hw hK hc i pins s σ H E I hf st hg
    subst hP hw hK
    obtain ⟨xs, hq, hx⟩ := hg
    obtain ⟨its, rv, p, hz⟩ := I.list hq
    obtain ⟨f0, f1, f2, f3, f4, f5⟩ := hf it (by simp)
    have hl := rv.length
    exact wpAny_pyNext_list_end (I.ok.hd hc) st p.isList (by simp; omega) fun h' eb => ⟨rfl, I.turned (t' := s.toks) (fun b o hb e => eb b o hb e) f0 f1 f3 f4 f5⟩
  self := fun _ _ _ _ _ st h => wpAny_pyIter_listiter st h
theorem turn_tuple {P : Program} {w : World} {K : PySem.W.Frag} {tg : Expr} (a it : Addr) : Turn P w K tg (Itt K a) [it] it (fun i h => h.IsTupleIter it a i) where
  mem := by simp
  obj := fun i h st b hb => by
    have e : b = it := by simpa using hb
    subst e
    obtain ⟨o, e, c, d⟩ := st
    exact ⟨o, e, fun v z => by rw [d] at z; cases z⟩
  keep := fun i h h' st k => st.at fun o e => k it (by simp) o e
  item := by
    intro X hP hw hK hc i pins s σ H E I hf st hg
    subst hP hw hK
    obtain ⟨xs, x, hq, hx⟩ := hg
    obtain ⟨its, rv, p, hz⟩ := I.tuple hq
    obtain ⟨u, hu, ru⟩ := rv.get hx
    obtain ⟨f0, f1, f2, f3, f4, f5⟩ := hf it (by simp)
    refine wpAny_pyNext_tuple_item st (show s.heap.IsTuple a its.toArray from p) (x := u) (by simpa using hu) fun h' st' sb => ?_
    have I1 : Inv X pins σ H { s with heap := h' } := I.turned (t' := s.toks) (fun b o hb e => (sb.2 b hb).trans e) f0 f1 f3 f4 f5
    obtain ⟨o, e, c, d⟩ := id st'
    exact ⟨u, rfl, go_of (s := { s with heap := h' }) e c d (by decide) ⟨x, H, I1, ru, ⟨rfl, fun ys hy => by rw [I.tuple_inj hy hq]; exact hx⟩, st', fun b hb => (hf b hb).1⟩⟩
  done := by
    intro X hP hw hK hc i pins s σ H E I hf st hg
    subst hP hw hK
    obtain ⟨xs, hq, hx⟩ := hg
    obtain ⟨its, rv, p, hz⟩ := I.tuple hq
    obtain ⟨f0, f1, f2, f3, f4, f5⟩ := hf it (by simp)
    have hl := rv.length
    exact wpAny_pyNext_tuple_end (I.ok.hd hc) st (show s.heap.IsTuple a its.toArray from p) (by simp; omega) fun h' eb => ⟨rfl, I.turned (t' := s.toks) (fun b o hb e => eb b o hb e) f0 f1 f3 f4 f5⟩
  self := fun _ _ _ _ _ st h => wpAny_pyIter_tupleiter st h
theorem turn_range {P : Program} {w : World} {K : PySem.W.Frag} {tg : Expr} (it : Addr) (lo : Int) (n : Nat) : Turn P w K tg (Itr lo n) [it] it (fun i h => IsRangeIter h it (lo + (i : Nat) * 1) ((n : Int) - (i : Nat)) 1) where
  mem := by simp
  obj := fun i h st b hb => by
    have e : b = it := by simpa using hb
    subst e
    exact ⟨_, st, fun v z => by
      have z' : Data.fields _ = Data.cell v := z
      cases z'⟩
  keep := fun i h h' st k => k it (by simp) _ st
  item := by
    intro X hP hw hK hc i pins s σ H E I hf st hg
    subst hP hw hK
    obtain ⟨f0, f1, f2, f3, f4, f5⟩ := hf it (by simp)
    have W := Walks.range (prog := X.prog) (w := X.w) (I.ok.hd hc) it lo 1 n
    refine W.item i s _ _ hg st fun v h' tk hv st' kk => ?_
    obtain ⟨t, rfl⟩ := hv
    have I1 : Inv X pins σ H { s with heap := h', toks := tk } := I.turned (fun b o hb e => kk b o (by simpa using hb) e) f0 f1 f3 f4 f5
    refine ⟨_, rfl, go_of (s := { s with heap := h', toks := tk }) (n := "range_iterator") st' rfl rfl (by decide) ⟨.int (lo + i), H, I1, ⟨t, ?_⟩, ⟨rfl, rfl⟩, st', fun b hb => (hf b hb).1⟩⟩
    rw [Int.mul_one]
  done := by
    intro X hP hw hK hc i pins s σ H E I hf st hg
    subst hP hw hK
    obtain ⟨f0, f1, f2, f3, f4, f5⟩ := hf it (by simp)
    exact wpAny_pyNext_range_end (I.ok.hd hc) st (by have : n ≤ i := hg; omega) fun h' eb => ⟨rfl, I.turned (t' := s.toks) (fun b o hb e => eb b o hb e) f0 f1 f3 f4 f5⟩
  self := fun _ _ _ _ _ st h => wpAny_pyIter_rangeiter st h
end L2
namespace L2
open PySem PySem.Spec PyProof.Rows
section
variable {X : Cx} {tg : Expr}
def iList (K : PySem.W.Frag) (tl : TE) : TI := fun σ H R => tl σ H fun x H1 => ∃ a, x = .ref a ∧ (∃ xs, SqL K H1 a xs) ∧ R (Itl K a) H1
def iTup (K : PySem.W.Frag) (tl : TE) : TI := fun σ H R => tl σ H fun x H1 => ∃ a, x = .ref a ∧ (∃ xs, SqT K H1 a xs) ∧ R (Itt K a) H1
theorem pi_list {l : Expr} {tl : TE} (hl : PE X l tl) : PI X tg l (iList X.K tl) := by
  intro pins s σ H R I h
  refine thn (hl pins s σ H _ I h) fun v s1 ⟨x, H1, I1, r1, q1⟩ => ?_
  obtain ⟨a, e, ⟨xs, hq⟩, q⟩ := q1
  subst e
  cases r1
  obtain ⟨its, rv, p, hz⟩ := I1.list hq
  refine wpAny_pyIter_list p.isList ?_
  refine ⟨s1.heap.objs.size, [s1.heap.objs.size], _, _, H1, rfl, I1.kept (t' := s1.toks) fun b o e => Heap.get?_push_of_some _ e, turn_list a _, ⟨_, Heap.get?_push_size _ rfl, rfl, rfl⟩, fun b hb => ?_, q⟩
  have e : b = s1.heap.objs.size := by simpa using hb
  subst e
  exact I1.fpOk (Nat.le_refl _) (I1.hok.fresh (Nat.le_refl _))
theorem pi_tup {l : Expr} {tl : TE} (hl : PE X l tl) : PI X tg l (iTup X.K tl) := by
  intro pins s σ H R I h
  refine thn (hl pins s σ H _ I h) fun v s1 ⟨x, H1, I1, r1, q1⟩ => ?_
  obtain ⟨a, e, ⟨xs, hq⟩, q⟩ := q1
  subst e
  cases r1
  obtain ⟨its, rv, p, hz⟩ := I1.tuple hq
  refine wpAny_pyIter_tuple (show s1.heap.IsTuple a its.toArray from p) ?_
  refine ⟨s1.heap.objs.size, [s1.heap.objs.size], _, _, H1, rfl, I1.kept (t' := s1.toks) fun b o e => Heap.get?_push_of_some _ e, turn_tuple a _, ⟨_, Heap.get?_push_size _ rfl, rfl, rfl⟩, fun b hb => ?_, q⟩
  have e : b = s1.heap.objs.size := by simpa using hb
  subst e
  exact I1.fpOk (Nat.le_refl _) (I1.hok.fresh (Nat.le_refl _))
theorem range_it {pins : List (Addr × Obj)} {σ : St} {H : Hp} {s : Shared} {R : It → Hp → Prop} {E : Value → Shared → Prop} {lo hi : Int} {t u v : Tok} {tk : Nat} (I : Inv X pins σ H s) (h1 : -(2 ^ 62) ≤ lo) (h2 : lo < 2 ^ 62) (h3 : -(2 ^ 62) ≤ hi) (h4 : hi < 2 ^ 62)
    (q : R (Itr lo (hi - lo).toNat) H) : wpAny (model X.prog X.w) X.A (pyIter (.ref s.heap.objs.size)) (PIE X pins σ tg R) E { s with heap := s.heap.push { cls := .type "range", data := .fields #[.int lo t, .int hi u, .int 1 v] }, toks := tk } := by
  refine wpAny_pyIter_range (IsRange.new ..) (small_one h1 h2 h3 h4) ?_
  have I1 : Inv X pins σ H { s with heap := s.heap.push { cls := .type "range", data := .fields #[.int lo t, .int hi u, .int 1 v] }, toks := tk } := I.kept fun b o e => Heap.get?_push_of_some _ e
  refine ⟨(s.heap.push { cls := .type "range", data := .fields #[.int lo t, .int hi u, .int 1 v] }).objs.size, [(s.heap.push { cls := .type "range", data := .fields #[.int lo t, .int hi u, .int 1 v] }).objs.size], _, _, H, rfl,
    I1.kept (t' := tk) fun b o e => Heap.get?_push_of_some _ e, turn_range _ lo (hi - lo).toNat, ?_, fun b hb => ?_, q⟩
  · have e1 : lo + ((0 : Nat) : Int) * 1 = lo := by simp
    have e2 : (((hi - lo).toNat : Nat) : Int) - ((0 : Nat) : Int) = Builtin.Range.rangeSize lo hi 1 := by rw [rangeSize_one]; split <;> omega
    show IsRangeIter _ _ (lo + ((0 : Nat) : Int) * 1) ((((hi - lo).toNat : Nat) : Int) - ((0 : Nat) : Int)) 1
    rw [e1, e2]
    exact Heap.get?_push_size _ rfl
  · have e : b = (s.heap.push { cls := .type "range", data := .fields #[.int lo t, .int hi u, .int 1 v] }).objs.size := by simpa using hb
    subst e
    exact I1.fpOk (Nat.le_refl _) (I1.hok.fresh (Nat.le_refl _))
def iRng1 (ta : TA) : TI := fun σ H R => ta σ H fun vs H1 => ∃ j : Int, vs = [.int j] ∧ -(2 ^ 62) ≤ j ∧ j < 2 ^ 62 ∧ R (Itr 0 j.toNat) H1
def iRng2 (ta : TA) : TI := fun σ H R => ta σ H fun vs H1 => ∃ i j : Int, vs = [.int i, .int j] ∧ (-(2 ^ 62) ≤ i ∧ i < 2 ^ 62 ∧ -(2 ^ 62) ≤ j ∧ j < 2 ^ 62) ∧ R (Itr i (j - i).toNat) H1
theorem pi_range1 {a : Expr} {ta : TA} {p pos : Pos} (hg : Gl X "range") (hm : X.mg "range" = none) (ha : PA X [a] ta) (hs : starEach [a] X.env = [(false, eval a X.env)] := by rfl) : PI X tg (.Call (.Name "range" p) [a] [] pos) (iRng1 ta) := by
  intro pins s σ H R I h
  refine Call_ (ld_blt I hg hm boot_range (PyProof.Rows.callWith_type1 (thn (ha pos pins s σ H _ I h) fun us s1 ⟨vs, H1, I1, r1, q1⟩ => ?_) hs rfl))
  obtain ⟨j, e, q1, q2, q⟩ := q1
  subst e
  cases r1 with
  | cons r rr =>
    cases rr
    obtain ⟨t, rfl⟩ := r
    exact call_range_1 (range_it I1 (by omega) (by omega) q1 q2 (by simpa using q))
theorem pi_range2 {a b : Expr} {ta : TA} {p pos : Pos} (hg : Gl X "range") (hm : X.mg "range" = none) (ha : PA X [a, b] ta) (hs : starEach [a, b] X.env = [(false, eval a X.env), (false, eval b X.env)] := by rfl) (hs2 : starEach [b] X.env = [(false, eval b X.env)] := by rfl) :
    PI X tg (.Call (.Name "range" p) [a, b] [] pos) (iRng2 ta) := by
  intro pins s σ H R I h
  refine Call_ (ld_blt I hg hm boot_range (PyProof.Rows.callWith_type1 (thn (ha pos pins s σ H _ I h) fun us s1 ⟨vs, H1, I1, r1, q1⟩ => ?_) (by rw [hs, hs2]) (by rw [hs2]; rfl)))
  obtain ⟨i, j, e, ⟨q1, q2, q3, q4⟩, q⟩ := q1
  subst e
  cases r1 with
  | cons r rr =>
    cases rr with
    | cons r' rr =>
      cases rr
      obtain ⟨t, rfl⟩ := r
      obtain ⟨t', rfl⟩ := r'
      exact call_range_2 (range_it I1 q1 q2 q3 q4 q)
def tFor (wi : TI) (g : TG) (tb : TS) : TS := fun D σ H => wi σ H fun J H1 => ∃ W : Nat → Nat → St → Hp → Prop, (∃ m, W 0 m σ H1) ∧ ∀ i m σ H, W i m σ H →
  (J.stop i H ∧ D.nx σ H) ∨ (J.go i H ∧ ∃ N : St → Hp → Prop, (∀ σ' H', N σ' H' → ∃ m', m' < m ∧ W (i + 1) m' σ' H') ∧ ∀ x H', J.yld i H x H' → g x σ H' fun σ2 H2 => tb { D with nx := N, ct := N, bk := D.nx } σ2 H2)
def pinsAt (fp : List Addr) (h : Heap) : List (Addr × Obj) := fp.filterMap fun b => (h.get? b).map fun o => (b, o)
theorem mem_pinsAt {fp : List Addr} {h : Heap} {b : Addr} {o : Obj} (hb : b ∈ fp) (e : h.get? b = some o) : (b, o) ∈ pinsAt fp h := List.mem_filterMap.mpr ⟨b, hb, by rw [e]; rfl⟩
theorem of_pinsAt {fp : List Addr} {h : Heap} {p : Addr × Obj} (hp : p ∈ pinsAt fp h) : p.1 ∈ fp ∧ h.get? p.1 = some p.2 := by
  obtain ⟨b, hb, e⟩ := List.mem_filterMap.mp hp
  cases q : h.get? b with
  | none => rw [q] at e; cases e
  | some o =>
    rw [q] at e
    have e' : (b, o) = p := Option.some.inj e
    subst e'
    exact ⟨hb, q⟩
theorem Inv.pinned {pins : List (Addr × Obj)} {σ : St} {H : Hp} {s : Shared} {fp : List Addr} (I : Inv X pins σ H s) (hf : ∀ b ∈ fp, FpOk X pins H b) (ho : ∀ b ∈ fp, ∃ o, s.heap.get? b = some o ∧ ∀ v, o.data ≠ .cell v) : Inv X (pins ++ pinsAt fp s.heap) σ H s :=
  I.pins_of fun p hp => (List.mem_append.mp hp).elim (fun z => I.pin p (List.mem_append_right _ z)) fun z => by
    obtain ⟨hb, e⟩ := of_pinsAt z
    obtain ⟨f0, f1, f2, _⟩ := hf p.1 hb
    obtain ⟨o, e', d⟩ := ho p.1 hb
    rw [e] at e'; cases e'
    exact ⟨e, f0, f1, f2, d⟩
theorem Inv.unpinned {pins pl : List (Addr × Obj)} {σ : St} {H : Hp} {s : Shared} (I : Inv X (pins ++ pl) σ H s) : Inv X pins σ H s := I.pins_of fun p hp => I.pin p (List.mem_append_right _ (List.mem_append_left _ hp))
theorem ps_for {iter : Expr} {body : List Stmt} {wi : TI} {g : TG} {tb : TS} {pos : Pos} (hp : PassesOwn (model X.prog X.w) X.A X.env X.xe) (hc : X.calm = true) (hi : PI X tg iter wi) (hg : PG X tg g) (hb : PSs X body tb)
    (hs : ∀ x, foldedSetIterable iter X.env x = pure x := by intro _; rfl) : PS X (.For tg iter body [] pos) (tFor wi g tb) := by
  intro pins s σ H D I h
  refine wpAny_For (thn (hi pins s σ H _ I h) fun v s1 h1 => thn h1 fun itv s2 h2 => ?_) hs
  obtain ⟨it, fp, tn, J, H2, e, I2, T, st2, f2, W, ⟨m0, w0⟩, turn⟩ := h2
  subst e
  -- what stays true of the iterator's objects through the loop
  have stat : ∀ {H' : Hp}, (∀ b ∈ fp, H' b = none) → ∀ b ∈ fp, FpOk X pins H' b := fun hn b hb => ⟨hn b hb, (f2 b hb).2⟩
  refine codeAny_forLoop_any (fun n s' => ∃ i σ' H', Inv X pins σ' H' s' ∧ tn i s'.heap ∧ (∀ b ∈ fp, H' b = none) ∧ W i n σ' H') ?_ m0 ⟨0, σ, H2, I2, st2, fun b hb => (f2 b hb).1, w0⟩
  rintro n s3 ⟨i, σ3, H3, I3, st3, fr3, w3⟩
  rcases turn i n σ3 H3 w3 with ⟨stop, qn⟩ | ⟨go, N, hN, step⟩
  · refine wpAny_passesOwn hp (thn (T.done X rfl rfl rfl hc i pins s3 σ3 H3 X.xe I3 (stat fr3) st3 stop) fun r s4 ⟨hr, I4⟩ => ?_)
    subst hr
    exact wpAny_execs_nil ⟨σ3, H3, I4, qn⟩
  · refine wpAny_passesOwn hp (thn (T.item X rfl rfl rfl hc i pins s3 σ3 H3 X.xe I3 (stat fr3) st3 go) fun r s4 ⟨u, hr, h4⟩ => ?_)
    subst hr
    refine wpAny_passesOwn hp (thn h4 fun _ s5 ⟨x, H5, I5, r5, y5, st5, fr5⟩ => ?_)
    have I5' := I5.pinned (stat fr5) (T.obj _ _ st5)
    refine wpAny_passesOwn hp (thn (hg _ s5 σ3 H5 x u _ I5' r5 (step x H5 y5)) fun _ s6 ⟨σ6, H6, I6, q6⟩ => ?_)
    refine wpAny_passesOwn hp (thn (hb _ s6 σ6 H6 _ I6 q6) fun f s7 q7 => ?_)
    have again : ∀ {σ7 : St} {H7 : Hp}, Inv X (pins ++ pinsAt fp s5.heap) σ7 H7 s7 → N σ7 H7 → ∃ m, m < n ∧ ∃ i σ' H', Inv X pins σ' H' s7 ∧ tn i s7.heap ∧ (∀ b ∈ fp, H' b = none) ∧ W i m σ' H' := fun {σ7 H7} I7 n7 => by
      obtain ⟨m', hm, w7⟩ := hN σ7 H7 n7
      refine ⟨m', hm, i + 1, σ7, H7, I7.unpinned, T.keep _ _ _ st5 fun b hb o e => (I7.pin (b, o) (List.mem_append_right _ (List.mem_append_right _ (mem_pinsAt hb e)))).1, fun b hb => ?_, w7⟩
      obtain ⟨o, e, d⟩ := T.obj _ _ st5 b hb
      exact (I7.pin (b, o) (List.mem_append_right _ (List.mem_append_right _ (mem_pinsAt hb e)))).2.1
    cases f with
    | next => obtain ⟨σ7, H7, I7, n7⟩ := q7; exact again I7 n7
    | cont => obtain ⟨σ7, H7, I7, n7⟩ := q7; exact again I7 n7
    | brk => obtain ⟨σ7, H7, I7, q7⟩ := q7; exact ⟨σ7, H7, I7.unpinned, q7⟩
    | ret v => obtain ⟨x7, σ7, H7, I7, r7, q7⟩ := q7; exact ⟨x7, σ7, H7, I7.unpinned, r7, q7⟩
end
theorem for_list {K : PySem.W.Frag} {a : Addr} {xs : List V} {g : TG} {tb : TS} {D : Ends} {σ : St} {H : Hp} (Pv : Nat → St → Hp → Prop) (h0 : Pv 0 σ H) (hl : ∀ i σ H, i ≤ xs.length → Pv i σ H → SqL K H a xs)
    (hs : ∀ i x σ H, xs[i]? = some x → Pv i σ H → g x σ H fun σ2 H2 => tb { D with nx := Pv (i + 1), ct := Pv (i + 1), bk := D.nx } σ2 H2) (hd : ∀ σ H, Pv xs.length σ H → D.nx σ H) :
    ∃ W : Nat → Nat → St → Hp → Prop, (∃ m, W 0 m σ H) ∧ ∀ i m σ H, W i m σ H →
      ((Itl K a).stop i H ∧ D.nx σ H) ∨ ((Itl K a).go i H ∧ ∃ N : St → Hp → Prop, (∀ σ' H', N σ' H' → ∃ m', m' < m ∧ W (i + 1) m' σ' H') ∧ ∀ x H', (Itl K a).yld i H x H' → g x σ H' fun σ2 H2 => tb { D with nx := N, ct := N, bk := D.nx } σ2 H2) := by
  refine ⟨fun i m σ H => m = xs.length - i ∧ i ≤ xs.length ∧ Pv i σ H, ⟨xs.length, by simp, Nat.zero_le _, h0⟩, ?_⟩
  rintro i m σ H ⟨rfl, hi, p⟩
  have q := hl i σ H hi p
  by_cases hlt : i < xs.length
  · refine .inr ⟨⟨xs, xs[i], q, by simp [hlt]⟩, Pv (i + 1), fun σ' H' p' => ⟨xs.length - (i + 1), by omega, rfl, hlt, p'⟩, fun x H' y => ?_⟩
    obtain ⟨e, y⟩ := y
    subst e
    exact hs i x σ _ (y xs q) p
  · have e : i = xs.length := by omega
    subst e
    exact .inl ⟨⟨xs, q, Nat.le_refl _⟩, hd σ H p⟩
theorem for_range {lo : Int} {n : Nat} {g : TG} {tb : TS} {D : Ends} {σ : St} {H : Hp} (Pv : Nat → St → Hp → Prop) (h0 : Pv 0 σ H)
    (hs : ∀ i σ H, i < n → Pv i σ H → g (.int (lo + i)) σ H fun σ2 H2 => tb { D with nx := Pv (i + 1), ct := Pv (i + 1), bk := D.nx } σ2 H2) (hd : ∀ σ H, Pv n σ H → D.nx σ H) :
    ∃ W : Nat → Nat → St → Hp → Prop, (∃ m, W 0 m σ H) ∧ ∀ i m σ H, W i m σ H →
      ((Itr lo n).stop i H ∧ D.nx σ H) ∨ ((Itr lo n).go i H ∧ ∃ N : St → Hp → Prop, (∀ σ' H', N σ' H' → ∃ m', m' < m ∧ W (i + 1) m' σ' H') ∧ ∀ x H', (Itr lo n).yld i H x H' → g x σ H' fun σ2 H2 => tb { D with nx := N, ct := N, bk := D.nx } σ2 H2) := by
  refine ⟨fun i m σ H => m = n - i ∧ i ≤ n ∧ Pv i σ H, ⟨n, by simp, Nat.zero_le _, h0⟩, ?_⟩
  rintro i m σ H ⟨rfl, hi, p⟩
  by_cases hlt : i < n
  · refine .inr ⟨hlt, Pv (i + 1), fun σ' H' p' => ⟨n - (i + 1), by omega, rfl, hlt, p'⟩, fun x H' y => ?_⟩
    obtain ⟨e, y⟩ := y
    subst e y
    exact hs i σ _ hlt p
  · have e : i = n := by omega
    subst e
    exact .inl ⟨Nat.le_refl _, hd σ H p⟩
theorem while_by {c : TT} {tb : TS} {D : Ends} {σ : St} {H : Hp} (Pv : St → Hp → Prop) (μ : St → Hp → Nat) (h0 : Pv σ H)
    (hs : ∀ σ H, Pv σ H → c σ H fun b H1 => if b = true then tb { D with nx := fun σ' H' => Pv σ' H' ∧ μ σ' H' < μ σ H, ct := fun σ' H' => Pv σ' H' ∧ μ σ' H' < μ σ H, bk := D.nx } σ H1 else D.nx σ H1)
    (mono : ∀ σ H Q Q', (∀ b H1, Q b H1 → Q' b H1) → c σ H Q → c σ H Q') : tWhile c tb D σ H := by
  refine ⟨fun m σ H => m = μ σ H ∧ Pv σ H, ⟨_, rfl, h0⟩, ?_⟩
  rintro m σ H ⟨rfl, p⟩
  refine mono σ H _ _ (fun b H1 q => ?_) (hs σ H p)
  cases b with
  | true => exact ⟨_, fun σ' H' ⟨p', l⟩ => ⟨_, l, rfl, p'⟩, q⟩
  | false => exact q
end L2
namespace L2
open PySem PySem.Spec PyProof.Rows
abbrev R2 := V → V → Hp → VK → Prop
def OpR (X : Cx) (f : Value → Value → Sem Value) (r : R2) : Prop :=
  ∀ (pins : List (Addr × Obj)) (s : Shared) (σ : St) (H : Hp) (x y : V) (v u : Value) (Q : VK), Inv X pins σ H s → RelV x v → RelV y u → r x y H Q →
    wpAny (model X.prog X.w) X.A (f v u) (EP X pins σ Q) X.xe s
def UnR (X : Cx) (f : Value → Sem Value) (r : V → Hp → VK → Prop) : Prop :=
  ∀ (pins : List (Addr × Obj)) (s : Shared) (σ : St) (H : Hp) (x : V) (v : Value) (Q : VK), Inv X pins σ H s → RelV x v → r x H Q →
    wpAny (model X.prog X.w) X.A (f v) (EP X pins σ Q) X.xe s
def CallR (X : Cx) (f : Value) (r : List V → Hp → VK → Prop) : Prop :=
  ∀ (pins : List (Addr × Obj)) (s : Shared) (σ : St) (H : Hp) (xs : List V) (us : List Value) (Q : VK), Inv X pins σ H s → Vals xs us → r xs H Q →
    wpAny (model X.prog X.w) X.A (call f us) (EP X pins σ Q) X.xe s
def tOp (r : R2) (ta tb : TE) : TE := fun σ H Q => ta σ H fun x H1 => tb σ H1 fun y H2 => r x y H2 Q
def tUn (r : V → Hp → VK → Prop) (ta : TE) : TE := fun σ H Q => ta σ H fun x H1 => r x H1 Q
def rI (C : Int → Int → Prop) (g : Int → Int → V) : R2 := fun x y H Q => ∃ i j, x = .int i ∧ y = .int j ∧ C i j ∧ Q (g i j) H
def rI0 (g : Int → Int → V) : R2 := fun x y H Q => ∃ i j, x = .int i ∧ y = .int j ∧ Q (g i j) H
def rU (g : Int → V) : V → Hp → VK → Prop := fun x H Q => ∃ i, x = .int i ∧ Q (g i) H
section
variable {X : Cx} {a b c : Expr} {ta tb tc : TE} {pos : Pos}
theorem binT (ha : PE X a ta) (hb : PE X b tb) {pins : List (Addr × Obj)} {s : Shared} {σ : St} {H : Hp} {R : V → V → Hp → Prop} (I : Inv X pins σ H s)
    (h : ta σ H fun x H1 => tb σ H1 fun y H2 => R x y H2) {Q : Value → Shared → Prop} {f : Value → Value → Sem Value}
    (hf : ∀ v u s2 x y H2, Inv X pins σ H2 s2 → RelV x v → RelV y u → R x y H2 → wpAny (model X.prog X.w) X.A (f v u) Q X.xe s2) :
    wpAny (model X.prog X.w) X.A (eval a X.env) (fun v s₁ => wpAny (model X.prog X.w) X.A (eval b X.env) (fun u s₂ => wpAny (model X.prog X.w) X.A (f v u) Q X.xe s₂) X.xe s₁) X.xe s := by
  refine thn (ha pins s σ H _ I h) fun v s1 ⟨x, H1, I1, r1, q1⟩ => ?_
  refine thn (hb pins s1 σ H1 _ I1 q1) fun u s2 ⟨y, H2, I2, r2, q2⟩ => ?_
  exact hf v u s2 x y H2 I2 r1 r2 q2
theorem pe_op {op : Operator} {r : R2} (ho : OpR X (binaryOp op) r) (ha : PE X a ta) (hb : PE X b tb) : PE X (.BinOp a op b pos) (tOp r ta tb) := by
  intro pins s σ H Q I h
  exact wpAny_BinOp (binT ha hb I h fun v u s2 x y H2 I2 rx ry q => ho pins s2 σ H2 x y v u Q I2 rx ry q)
theorem pe_un {op : UnaryOp} {r : V → Hp → VK → Prop} (ho : UnR X (unaryOp op) r) (ha : PE X a ta) : PE X (.UnaryOp op a pos) (tUn r ta) := by
  intro pins s σ H Q I h
  exact UnaryOp_ (thn (ha pins s σ H _ I h) fun v s1 ⟨x, H1, I1, r1, q1⟩ => ho pins s1 σ H1 x v Q I1 r1 q1)
theorem opI {f : Value → Value → Sem Value} {C : Int → Int → Prop} {g : Int → Int → Int}
    (rule : ∀ (i j : Int) (t u : Tok) (s : Shared) (Q : Value → Shared → Prop) (E : Value → Shared → Prop), C i j → Q (.int (g i j) s.toks) { s with toks := s.toks + 1 } → wpAny (model X.prog X.w) X.A (f (.int i t) (.int j u)) Q E s) :
    OpR X f (rI C fun i j => .int (g i j)) := by
  intro pins s σ H x y v u Q I rx ry h
  obtain ⟨i, j, rfl, rfl, hc, q⟩ := h
  obtain ⟨t, rfl⟩ := rx
  obtain ⟨t', rfl⟩ := ry
  exact rule i j t t' s _ _ hc ⟨.int (g i j), H, I.tok _, ⟨_, rfl⟩, q⟩
theorem opI0 {f : Value → Value → Sem Value} {g : Int → Int → Int}
    (rule : ∀ (i j : Int) (t u : Tok) (s : Shared) (Q : Value → Shared → Prop) (E : Value → Shared → Prop), Q (.int (g i j) s.toks) { s with toks := s.toks + 1 } → wpAny (model X.prog X.w) X.A (f (.int i t) (.int j u)) Q E s) :
    OpR X f (rI0 fun i j => .int (g i j)) := by
  intro pins s σ H x y v u Q I rx ry h
  obtain ⟨i, j, rfl, rfl, q⟩ := h
  obtain ⟨t, rfl⟩ := rx
  obtain ⟨t', rfl⟩ := ry
  exact rule i j t t' s _ _ ⟨.int (g i j), H, I.tok _, ⟨_, rfl⟩, q⟩
theorem opB0 {f : Value → Value → Sem Value} {g : Int → Int → Bool}
    (rule : ∀ (i j : Int) (t u : Tok) (s : Shared) (Q : Value → Shared → Prop) (E : Value → Shared → Prop), Q (.bool (g i j)) s → wpAny (model X.prog X.w) X.A (f (.int i t) (.int j u)) Q E s) :
    OpR X f (rI0 fun i j => .bl (g i j)) := by
  intro pins s σ H x y v u Q I rx ry h
  obtain ⟨i, j, rfl, rfl, q⟩ := h
  obtain ⟨t, rfl⟩ := rx
  obtain ⟨t', rfl⟩ := ry
  exact rule i j t t' s _ _ ⟨.bl (g i j), H, I, rfl, q⟩
def CPow (i j : Int) : Prop := 0 ≤ j ∧ j ≤ 1000000 ∧ i.natAbs < 2 ^ 64
def CMul (i j : Int) : Prop := (-(2 ^ 64) < i ∧ i < 2 ^ 64) ∨ (-(2 ^ 64) < j ∧ j < 2 ^ 64)
theorem CMul.ok {i j : Int} (h : CMul i j) : IntMulOk i j := by
  rcases h with ⟨h1, h2⟩ | ⟨h1, h2⟩
  · exact .of_left (intBits_le_64 h1 h2)
  · exact .of_right (intBits_le_64 h1 h2)
theorem op_add : OpR X (binaryOp .Add) (rI0 fun i j => .int (i + j)) := opI0 fun _ _ _ _ _ _ _ q => add_int q
theorem op_sub : OpR X (binaryOp .Sub) (rI0 fun i j => .int (i - j)) := opI0 fun _ _ _ _ _ _ _ q => sub_int q
theorem op_mul : OpR X (binaryOp .Mult) (rI CMul fun i j => .int (i * j)) := opI fun _ _ _ _ _ _ _ hc q => mul_int q hc.ok
theorem op_mod : OpR X (binaryOp .Mod) (rI (fun _ j => 0 < j) fun i j => .int (i % j)) := opI fun i j _ _ _ _ _ hc q => by
  have h1 : (0 : Int) < j := hc
  exact mod_int' (by omega) (by rw [Int.fmod_eq_emod_of_nonneg i (by omega)]; exact q)
theorem op_pow : OpR X (binaryOp .Pow) (rI CPow fun i j => .int (i ^ j.toNat)) := opI fun _ _ _ _ _ _ _ hc q => pow_int_small hc.1 hc.2.1 hc.2.2 q
theorem unI {f : Value → Sem Value} {g : Int → Int}
    (rule : ∀ (i : Int) (t : Tok) (s : Shared) (Q : Value → Shared → Prop) (E : Value → Shared → Prop), Q (.int (g i) s.toks) { s with toks := s.toks + 1 } → wpAny (model X.prog X.w) X.A (f (.int i t)) Q E s) :
    UnR X f (rU fun i => .int (g i)) := by
  intro pins s σ H x v Q I rx h
  obtain ⟨i, rfl, q⟩ := h
  obtain ⟨t, rfl⟩ := rx
  exact rule i t s _ _ ⟨.int (g i), H, I.tok _, ⟨_, rfl⟩, q⟩
theorem un_neg : UnR X (unaryOp .USub) (rU fun i => .int (-i)) := unI fun _ _ _ _ _ q => neg_int q
end
def scal : V → V → Bool
  | .non, .non => true | .non, .int _ => true | .int _, .non => true | .non, .bl _ => true | .bl _, .non => true | .non, .str _ => true | .str _, .non => true
  | .int _, .int _ => true | .bl _, .bl _ => true | .str _, .str _ => true | .byt _, .byt _ => true
  | .int _, .str _ => true | .str _, .int _ => true | .bl _, .str _ => true | .str _, .bl _ => true
  | _, _ => false
def rEq : R2 := fun x y H Q => scal x y = true ∧ Q (.bl (decide (x = y))) H
def rNe : R2 := fun x y H Q => scal x y = true ∧ Q (.bl (!decide (x = y))) H
theorem dec_int {i j : Int} : decide (V.int i = V.int j) = (i == j) := by
  rw [Bool.eq_iff_iff]
  simp
theorem dec_bl {i j : Bool} : decide (V.bl i = V.bl j) = (i == j) := by
  rw [Bool.eq_iff_iff]
  simp
theorem dec_str {i j : Str} : decide (V.str i = V.str j) = (i == j) := by
  rw [Bool.eq_iff_iff]
  simp
theorem dec_byt {i j : Array UInt8} : decide (V.byt i = V.byt j) = (i.toList == j.toList) := by
  rw [Bool.eq_iff_iff]
  cases i
  cases j
  simp
section
variable {X : Cx} {a b c : Expr} {ta tb tc : TE} {pos : Pos}
theorem fin_bl {pins : List (Addr × Obj)} {σ : St} {H : Hp} {s : Shared} {Q : VK} {k k' : Bool} (I : Inv X pins σ H s) (q : Q (.bl k) H) (e : k = k') : EP X pins σ Q (.bool k') s := by
  subst e
  exact ⟨.bl k, H, I, rfl, q⟩
theorem op_eq : OpR X (compareOp .Eq) rEq := by
  intro pins s σ H x y v u Q I rx ry h
  obtain ⟨hs, q⟩ := h
  cases x with
  | non =>
    cases rx
    cases y with
    | non => cases ry; exact PySem.EqNone.eq_none_none (fin_bl I q (by simp))
    | bl j => cases ry; exact PySem.EqNone.eq_none_bool (fin_bl I q (by simp))
    | int j => obtain ⟨t', rfl⟩ := ry; exact PySem.EqNone.eq_none_int (fin_bl I q (by simp))
    | str j => obtain ⟨t', rfl⟩ := ry; exact PySem.EqNone.eq_none_str (fin_bl I q (by simp))
    | _ => exact absurd (show false = true from hs) Bool.false_ne_true
  | bl i =>
    cases rx
    cases y with
    | non => cases ry; exact PySem.EqNone.eq_bool_none (fin_bl I q (by simp))
    | bl j => cases ry; exact eq_bool (fin_bl I q dec_bl)
    | str j => obtain ⟨t', rfl⟩ := ry; exact PySem.EqMixed.eq_bool_str (fin_bl I q (by simp))
    | _ => exact absurd (show false = true from hs) Bool.false_ne_true
  | int i =>
    obtain ⟨t, rfl⟩ := rx
    cases y with
    | non => cases ry; exact PySem.EqNone.eq_int_none (fin_bl I q (by simp))
    | int j => obtain ⟨t', rfl⟩ := ry; exact eq_int (fin_bl I q dec_int)
    | str j => obtain ⟨t', rfl⟩ := ry; exact PySem.EqMixed.eq_int_str (fin_bl I q (by simp))
    | _ => exact absurd (show false = true from hs) Bool.false_ne_true
  | str i =>
    obtain ⟨t, rfl⟩ := rx
    cases y with
    | non => cases ry; exact PySem.EqNone.eq_str_none (fin_bl I q (by simp))
    | bl j => cases ry; exact PySem.EqMixed.eq_str_bool (fin_bl I q (by simp))
    | int j => obtain ⟨t', rfl⟩ := ry; exact PySem.EqMixed.eq_str_int (fin_bl I q (by simp))
    | str j => obtain ⟨t', rfl⟩ := ry; exact eq_str (fin_bl I q dec_str)
    | _ => exact absurd (show false = true from hs) Bool.false_ne_true
  | byt i =>
    obtain ⟨t, rfl⟩ := rx
    cases y with
    | byt j => obtain ⟨t', rfl⟩ := ry; exact PySem.W.eq_bytes (fin_bl I q dec_byt)
    | _ => exact absurd (show false = true from hs) Bool.false_ne_true
  | _ => cases y <;> exact absurd (show false = true from hs) Bool.false_ne_true
theorem op_ne : OpR X (compareOp .NotEq) rNe := by
  intro pins s σ H x y v u Q I rx ry h
  obtain ⟨hs, q⟩ := h
  cases x with
  | non =>
    cases rx
    cases y with
    | non => cases ry; exact PySem.EqNone.ne_none_none (fin_bl I q (by simp))
    | bl j => cases ry; exact PySem.EqNone.ne_none_bool (fin_bl I q (by simp))
    | int j => obtain ⟨t', rfl⟩ := ry; exact PySem.EqNone.ne_none_int (fin_bl I q (by simp))
    | str j => obtain ⟨t', rfl⟩ := ry; exact PySem.EqNone.ne_none_str (fin_bl I q (by simp))
    | _ => exact absurd (show false = true from hs) Bool.false_ne_true
  | bl i =>
    cases rx
    cases y with
    | non => cases ry; exact PySem.EqNone.ne_bool_none (fin_bl I q (by simp))
    | bl j => cases ry; exact ne_bool (fin_bl I q (congrArg not dec_bl))
    | str j => obtain ⟨t', rfl⟩ := ry; exact PySem.EqMixed.ne_bool_str (fin_bl I q (by simp))
    | _ => exact absurd (show false = true from hs) Bool.false_ne_true
  | int i =>
    obtain ⟨t, rfl⟩ := rx
    cases y with
    | non => cases ry; exact PySem.EqNone.ne_int_none (fin_bl I q (by simp))
    | int j => obtain ⟨t', rfl⟩ := ry; exact ne_int (fin_bl I q (congrArg not dec_int))
    | str j => obtain ⟨t', rfl⟩ := ry; exact PySem.EqMixed.ne_int_str (fin_bl I q (by simp))
    | _ => exact absurd (show false = true from hs) Bool.false_ne_true
  | str i =>
    obtain ⟨t, rfl⟩ := rx
    cases y with
    | non => cases ry; exact PySem.EqNone.ne_str_none (fin_bl I q (by simp))
    | bl j => cases ry; exact PySem.EqMixed.ne_str_bool (fin_bl I q (by simp))
    | int j => obtain ⟨t', rfl⟩ := ry; exact PySem.EqMixed.ne_str_int (fin_bl I q (by simp))
    | str j => obtain ⟨t', rfl⟩ := ry; exact ne_str (fin_bl I q (congrArg not dec_str))
    | _ => exact absurd (show false = true from hs) Bool.false_ne_true
  | byt i =>
    obtain ⟨t, rfl⟩ := rx
    cases y with
    | byt j => obtain ⟨t', rfl⟩ := ry; exact PySem.W.ne_bytes (fin_bl I q (congrArg not dec_byt))
    | _ => exact absurd (show false = true from hs) Bool.false_ne_true
  | _ => cases y <;> exact absurd (show false = true from hs) Bool.false_ne_true
theorem op_lt : OpR X (compareOp .Lt) (rI0 fun i j => .bl (decide (i < j))) := opB0 fun _ _ _ _ _ _ _ q => lt_int q
theorem op_le : OpR X (compareOp .LtE) (rI0 fun i j => .bl (decide (i ≤ j))) := opB0 fun _ _ _ _ _ _ _ q => le_int q
theorem op_gt : OpR X (compareOp .Gt) (rI0 fun i j => .bl (decide (j < i))) := opB0 fun _ _ _ _ _ _ _ q => gt_int q
theorem op_ge : OpR X (compareOp .GtE) (rI0 fun i j => .bl (decide (j ≤ i))) := opB0 fun _ _ _ _ _ _ _ q => ge_int q
theorem op_isN : OpR X (compareOp .Is) (fun x y H Q => y = .non ∧ Q (.bl (decide (x = .non))) H) := by
  intro pins s σ H x y v u Q I rx ry h
  obtain ⟨rfl, q⟩ := h
  cases ry
  refine is_none_gen (fin_bl I q ?_)
  cases x <;> first
    | (cases rx; rfl)
    | (obtain ⟨t, rfl⟩ := rx; rfl)
theorem op_notN : OpR X (compareOp .IsNot) (fun x y H Q => y = .non ∧ Q (.bl (!decide (x = .non))) H) := by
  intro pins s σ H x y v u Q I rx ry h
  obtain ⟨rfl, q⟩ := h
  cases ry
  refine isnot_none_gen (fin_bl I q ?_)
  cases x <;> first
    | (cases rx; rfl)
    | (obtain ⟨t, rfl⟩ := rx; rfl)
theorem nomark (b : Expr) {op : CmpOp} (h : op ≠ .In := by decide) (h2 : op ≠ .NotIn := by decide) : behindInMarks op b = false := by
  have e1 : (op == CmpOp.In) = false := by cases op <;> first | rfl | exact absurd rfl h
  have e2 : (op == CmpOp.NotIn) = false := by cases op <;> first | rfl | exact absurd rfl h2
  cases b <;> simp [behindInMarks, e1, e2]
theorem pe_cmpR {op : CmpOp} {r : R2} (ho : OpR X (compareOp op) r) (ha : PE X a ta) (hb : PE X b tb) (hm : behindInMarks op b = false) : PE X (.Compare a [op] [b] pos) (tOp r ta tb) := by
  intro pins s σ H Q I h
  exact wpAny_Compare1 (binT ha hb I h fun v u s2 x y H2 I2 rx ry q => ho pins s2 σ H2 x y v u Q I2 rx ry q) hm
def tTest (t : TE) : TT := fun σ H Q => t σ H fun x H' => ∃ k, x = .bl k ∧ Q k H'
theorem pt_cmpR {op : CmpOp} {r : R2} (ho : OpR X (compareOp op) r) (ha : PE X a ta) (hb : PE X b tb) (hm : behindInMarks op b = false) : PT X (.Compare a [op] [b] pos) (tTest (tOp r ta tb)) := by
  intro pins s σ H Q I h
  refine wpAny_isTrue_Compare1 (thn (ha pins s σ H _ I h) fun v s1 ⟨x, H1, I1, r1, q1⟩ => thn (hb pins s1 σ H1 _ I1 q1) fun u s2 ⟨y, H2, I2, r2, q2⟩ =>
    thn (ho pins s2 σ H2 x y v u _ I2 r1 r2 q2) fun c s3 ⟨z, H3, I3, r3, k, e, q3⟩ => ?_) hm
  subst e
  cases r3
  exact wpAny_truthy_bool ⟨H3, I3, q3⟩
def tChain (r r' : R2) (ta tb tc : TE) : TE := fun σ H Q => ta σ H fun x H1 => tb σ H1 fun y H2 => r x y H2 fun z H3 => ∃ k, z = .bl k ∧
  (if k = true then tc σ H3 fun w' H4 => r' y w' H4 Q else Q (.bl false) H3)
theorem pe_chain {op op' : CmpOp} {r r' : R2} (ho : OpR X (compareOp op) r) (ho' : OpR X (compareOp op') r') (ha : PE X a ta) (hb : PE X b tb) (hc : PE X c tc)
    (hm : lastMarks [op, op'] [b, c] = false := by with_unfolding_all rfl) : PE X (.Compare a [op, op'] [b, c] pos) (tChain r r' ta tb tc) := by
  intro pins s σ H Q I h
  refine Compare_chain (thn (ha pins s σ H _ I h) fun v s1 ⟨x, H1, I1, r1, q1⟩ => chain_link (thn (hb pins s1 σ H1 _ I1 q1) fun u s2 ⟨y, H2, I2, r2, q2⟩ =>
    thn (ho pins s2 σ H2 x y v u _ I2 r1 r2 q2) fun d s3 ⟨z, H3, I3, r3, k, e, q3⟩ => ?_)) hm
  subst e
  cases r3
  refine wpAny_truthy_bool ?_
  cases k with
  | false => exact ite_ff ⟨.bl false, H3, I3, rfl, q3⟩
  | true => exact ite_tt (chain_last (thn (hc pins s3 σ H3 _ I3 q3) fun w' s4 ⟨z', H4, I4, r4, q4⟩ => ho' pins s4 σ H4 y z' u w' Q I4 r2 r4 q4))
theorem pt_chain {op op' : CmpOp} {r r' : R2} (ho : OpR X (compareOp op) r) (ho' : OpR X (compareOp op') r') (ha : PE X a ta) (hb : PE X b tb) (hc : PE X c tc)
    (hm : lastMarks [op, op'] [b, c] = false := by with_unfolding_all rfl) : PT X (.Compare a [op, op'] [b, c] pos) (tTest (tChain r r' ta tb tc)) := by
  intro pins s σ H Q I h
  refine isTrue_chain (thn (ha pins s σ H _ I h) fun v s1 ⟨x, H1, I1, r1, q1⟩ => test_link (thn (hb pins s1 σ H1 _ I1 q1) fun u s2 ⟨y, H2, I2, r2, q2⟩ =>
    thn (ho pins s2 σ H2 x y v u _ I2 r1 r2 q2) fun d s3 ⟨z, H3, I3, r3, k, e, q3⟩ => ?_)) hm
  subst e
  cases r3
  refine wpAny_truthy_bool ?_
  cases k with
  | false =>
    obtain ⟨k', e', q'⟩ := q3
    cases e'
    exact ite_ff ⟨H3, I3, q'⟩
  | true =>
    refine ite_tt (test_last (thn (hc pins s3 σ H3 _ I3 q3) fun w' s4 ⟨z', H4, I4, r4, q4⟩ => thn (ho' pins s4 σ H4 y z' u w' _ I4 r2 r4 q4) fun d' s5 ⟨z2, H5, I5, r5, k2, e2, q5⟩ => ?_))
    subst e2
    cases r5
    exact wpAny_truthy_bool ⟨H5, I5, q5⟩
theorem line63 : (sizeLine : Nat) < 2 ^ 63 := by rw [sizeLine_eq]; decide
theorem vals1 {x : V} {us : List Value} (r : Vals [x] us) : ∃ u, us = [u] ∧ RelV x u := by
  cases r with
  | cons r1 r2 => cases r2; exact ⟨_, rfl, r1⟩
theorem vals2 {x y : V} {us : List Value} (r : Vals [x, y] us) : ∃ u w', us = [u, w'] ∧ RelV x u ∧ RelV y w' := by
  cases r with
  | cons r1 r2 =>
    cases r2 with
    | cons r3 r4 => cases r4; exact ⟨_, _, rfl, r1, r3⟩
theorem call_max2 (hc : X.calm = true) : CallR X (.builtin "max") (fun xs H Q => ∃ i j, xs = [.int i, .int j] ∧ Q (.int (if j > i then j else i)) H) := by
  intro pins s σ H xs us Q I r h
  obtain ⟨i, j, rfl, q⟩ := h
  obtain ⟨u, w', rfl, ⟨t, rfl⟩, ⟨t', rfl⟩⟩ := vals2 r
  refine max_two_ints (I.ok.hd hc) fun h' tk k => ⟨_, H, I.kept k, ?_, q⟩
  by_cases hj : j > i
  · rw [if_pos hj, if_pos hj]; exact ⟨_, rfl⟩
  · rw [if_neg hj, if_neg hj]; exact ⟨_, rfl⟩
theorem call_min2 (hc : X.calm = true) : CallR X (.builtin "min") (fun xs H Q => ∃ i j, xs = [.int i, .int j] ∧ Q (.int (if j < i then j else i)) H) := by
  intro pins s σ H xs us Q I r h
  obtain ⟨i, j, rfl, q⟩ := h
  obtain ⟨u, w', rfl, ⟨t, rfl⟩, ⟨t', rfl⟩⟩ := vals2 r
  refine min_two_ints (I.ok.hd hc) fun h' tk k => ⟨_, H, I.kept k, ?_, q⟩
  by_cases hj : j < i
  · rw [if_pos hj, if_pos hj]; exact ⟨_, rfl⟩
  · rw [if_neg hj, if_neg hj]; exact ⟨_, rfl⟩
theorem call_int1 : CallR X (.type "int") (fun xs H Q => (∃ i, xs = [.int i] ∧ Q (.int i) H) ∨ ∃ k, xs = [.bl k] ∧ Q (.int (if k then 1 else 0)) H) := by
  intro pins s σ H xs us Q I r h
  rcases h with ⟨i, rfl, q⟩ | ⟨k, rfl, q⟩
  · obtain ⟨u, rfl, t, rfl⟩ := vals1 r
    exact call_int_int ⟨.int i, H, I, ⟨_, rfl⟩, q⟩
  · obtain ⟨u, rfl, r1⟩ := vals1 r
    cases r1
    exact call_int_bool ⟨.int (if k then 1 else 0), H, I.tok _, ⟨_, rfl⟩, q⟩
end
end L2
namespace L2
open PySem PySem.Spec PyProof.Rows
structure ObjM (h : Heap) (x dx C : Addr) (mA : Str → Option Value) : Prop where
  obj : h.get? x = some (PySem.W.instObj C dx)
  ns : h.Ns1 dx mA
  ne : dx ≠ x
theorem lookIn_ns {h : Heap} {dx : Addr} {mA : Str → Option Value} (n : h.Ns1 dx mA) : ∃ od, h.get? dx = some od ∧ ∀ name, PySem.W.lookIn name od = some (mA name) := by
  obtain ⟨o, es, ep, ho, hd, hk, _, hm⟩ := n
  refine ⟨o, ho, fun name => ?_⟩
  have e := hm name
  unfold nsFind findBy at e
  rw [← Array.find?_toList] at e
  unfold PySem.W.lookIn
  rw [hd]
  dsimp only
  split
  · rename_i y q
    rw [q] at e
    exact congrArg some e
  · rename_i q
    rw [q] at e
    have a : es.toList.any (·.refKey) = false := by
      rw [List.any_eq_false]
      intro y hy
      obtain ⟨z, t, hkey⟩ := hk y (Array.mem_toList_iff.mp hy)
      simp [DictEntry.refKey, hkey]
    have a' : ¬ es.toList.any (·.refKey) = true := by rw [a]; exact Bool.false_ne_true
    rw [if_neg a']
    exact congrArg some e
theorem ObjM.look {h : Heap} {x dx C : Addr} {mA : Str → Option Value} (I : ObjM h x dx C mA) : ∃ od, PySem.W.InstAt h x (PySem.W.instObj C dx) C (some od) ∧ ∀ name, PySem.W.lookIn name od = some (mA name) :=
  let ⟨od, ho, hl⟩ := lookIn_ns I.ns
  ⟨od, ⟨I.obj, rfl, rfl, ho⟩, hl⟩
section
variable {prog : Program} {w : World} {A : Around} {E : Value → Shared → Prop} {s : Shared} {K : PySem.W.Frag} {x dx C f : Addr} {mA : Str → Option Value} {name : Str} {v : Value}
theorem get_map {expr : Bool} {Q : Value → Shared → Prop} (X : K.In s.heap) (I : ObjM s.heap x dx C mA) (hg : PySem.W.plainGet K C name = true) (hh : PySem.W.hasDictIn K C = true)
    (ha : PySem.W.findIn K (.ref C) name = some none) (hv : mA name = some v) (hv' : PySem.W.handedIn v = true) (h : Q v { s with toks := s.toks + 1 }) :
    wpAny (model prog w) A (getAttr (.ref x) name expr) Q E s := by
  obtain ⟨od, J, hl⟩ := I.look
  exact PySem.W.get_value X J (PySem.W.plainGet_of hg).1 (PySem.W.findObj_own hh ha rfl (by rw [hl, hv])) hv' h
theorem get_meth {pl : Sem Bool} {Q : Value × List Value → Shared → Prop} (X : K.In s.heap) (I : ObjM s.heap x dx C mA) (hg : PySem.W.plainGet K C name = true)
    (hf : PySem.W.findIn K (.ref C) name = some (some (.ref f))) (ht : PySem.W.isFn K (.ref f) = true) (hv : mA name = none) (h : Q (.ref f, [.ref x]) s) :
    wpAny (model prog w) A (getMethod (.ref x) name pl) Q E s := by
  obtain ⟨od, J, hl⟩ := I.look
  exact PySem.W.method_fn X J (PySem.W.plainGet_of hg).1 (PySem.W.plainGet_of hg).2 hf (beq_iff_eq.mp ht) (by show (PySem.W.lookIn name od).map (·.isSome) = some false; rw [hl, hv]; rfl) h
theorem set_map {ns : List Str} {Q : Unit → Shared → Prop} (X : K.In s.heap) (I : ObjM s.heap x dx C mA)
    (hs : PySem.W.findIn K (.ref C) "__setattr__" = some (some (.builtin "object.__setattr__"))) (hp : PySem.W.plainOver K C = true) (ht : PySem.W.takerIn K C name = some none) (hh : PySem.W.hasDictIn K C = true)
    (hw : PySem.Within mA ns) (hsz : ns.length ≤ sizeLine)
    (h : ∀ h', ObjM h' x dx C (fun y => if y = name then some v else mA y) → Heap.SameBut dx s.heap h' → Q () { s with heap := h', toks := s.toks + 2 }) :
    wpAny (model prog w) A (setAttr (.ref x) name v) Q E s := by
  obtain ⟨od, J, hl⟩ := I.look
  refine PySem.W.set_plain X J hs (PySem.W.osa_open (s := { s with toks := s.toks + 1 }) (r := none) X J hp ht fun b => ?_)
  obtain ⟨cd, hc, hd'⟩ := PySem.W.any_some hh
  have hx : s.heap.get? x = some ⟨.ref C, some dx, .plain, #[]⟩ := I.obj
  refine wpAny_bind (wpAny_pure (wpAny_bind (wpAny_bind (wpAny_loadPart hx (wpAny_bind (PySem.W.Looks.here (s := { s with toks := s.toks + 1 }) (PySem.W.looks_clsIn X hc) ?_))))))
  rw [hd']
  refine wpAny_pure (a := some dx) (wpAny_bind (wpAny_pure (wpAny_bind ?_)))
  refine wpAny_nsSet1 (s := { s with toks := s.toks + 1 }) I.ns fun h' hn2 hs2 => ?_
  obtain ⟨oD, esD, epD, hoD, hdD, hcD⟩ := hn2.count (PySem.Within.cons name v hw)
  refine wpAny_bind (wpAny_lookBehind hoD (by rw [hdD]; exact pastItsLine_dict (Nat.le_trans hcD (by rw [List.length_cons]; omega))) ?_)
  exact wpAny_pure (h _ ⟨(hs2.2 _ (Ne.symm I.ne)).trans I.obj, hn2, I.ne⟩ hs2)
theorem make_map {R : Result → Shared → Prop} {vs : List Value} {kw : List (Str × Value)} (X : K.In s.heap) (hm : PySem.W.makesIn K C = true)
    (hi : PySem.W.findIn K (.ref C) "__init__" = some (some (.ref f))) (hf : PySem.W.typeIn K (.ref f) = some (.type "function"))
    (h : codeAny (model prog w) (A.under (.builtin "type.__call__" ⟨.ref C :: vs, kw⟩)) (.call (.ref f) ⟨.ref (s.heap.objs.size + 1) :: vs, kw⟩) (PySem.W.InitBack (s.heap.objs.size + 1) R)
      { s with heap := (s.heap.push PySem.W.emptyDict).push (PySem.W.instObj C s.heap.objs.size) }) :
    codeAny (model prog w) A (.call (.ref C) ⟨vs, kw⟩) R s := by
  obtain ⟨hh, g, d, t, os⟩ := s
  exact PySem.W.make_core (PySem.W.makes_of X hm) (PySem.W.looks_findIn X hi) (fun self => PySem.W.bind_fn X self hf) (.inl rfl) h
end
def putF (f : Str) (v : V) : List (Str × V) → List (Str × V)
  | [] => [(f, v)]
  | (g, x) :: r => if g = f then (g, v) :: r else (g, x) :: putF f v r
theorem lookup_putF (f g : Str) (v : V) : ∀ fs : List (Str × V), (putF f v fs).lookup g = if g = f then some v else fs.lookup g
  | [] => by
    show List.lookup g [(f, v)] = _
    by_cases h : g = f
    · have hb : (g == f) = true := beq_iff_eq.mpr h
      simp only [List.lookup, hb, if_pos h]
    · have hb : (g == f) = false := beq_eq_false_iff_ne.mpr h
      simp only [List.lookup, hb, if_neg h]
  | (k, x) :: r => by
    have ih := lookup_putF f g v r
    rw [show putF f v ((k, x) :: r) = (if k = f then (k, v) :: r else (k, x) :: putF f v r) from rfl]
    by_cases hk : k = f
    · rw [if_pos hk]
      by_cases h : g = k
      · have hb : (g == k) = true := beq_iff_eq.mpr h
        simp only [List.lookup, hb, if_pos (h.trans hk)]
      · have hb : (g == k) = false := beq_eq_false_iff_ne.mpr h
        simp only [List.lookup, hb, if_neg (fun e : g = f => h (e.trans hk.symm))]
    · rw [if_neg hk]
      by_cases h : g = k
      · have hb : (g == k) = true := beq_iff_eq.mpr h
        simp only [List.lookup, hb, if_neg (fun e : g = f => hk (h.symm.trans e))]
      · have hb : (g == k) = false := beq_eq_false_iff_ne.mpr h
        simp only [List.lookup, hb]
        exact ih
theorem keys_putF (f : Str) (v : V) : ∀ fs : List (Str × V), f ∈ (putF f v fs).map (·.1) ∧ ∀ g, g ∈ fs.map (·.1) → g ∈ (putF f v fs).map (·.1)
  | [] => ⟨by simp [putF], fun g h => by simp at h⟩
  | (k, x) :: r => by
    obtain ⟨i1, i2⟩ := keys_putF f v r
    rw [show putF f v ((k, x) :: r) = (if k = f then (k, v) :: r else (k, x) :: putF f v r) from rfl]
    by_cases hk : k = f
    · rw [if_pos hk]
      subst hk
      exact ⟨by simp, fun g h => by simpa using h⟩
    · rw [if_neg hk]
      refine ⟨?_, fun g h => ?_⟩
      · rw [List.map_cons]
        exact List.mem_cons_of_mem _ i1
      · rw [List.map_cons] at h ⊢
        rcases List.mem_cons.mp h with e | e
        · exact List.mem_cons.mpr (.inl e)
        · exact List.mem_cons_of_mem _ (i2 g e)
theorem length_putF (f : Str) (v : V) : ∀ fs : List (Str × V), (putF f v fs).length ≤ fs.length + 1
  | [] => by simp [putF]
  | (k, x) :: r => by
    have ih := length_putF f v r
    rw [show putF f v ((k, x) :: r) = (if k = f then (k, v) :: r else (k, x) :: putF f v r) from rfl]
    by_cases hk : k = f
    · rw [if_pos hk, List.length_cons, List.length_cons]; omega
    · rw [if_neg hk, List.length_cons, List.length_cons]; omega
theorem RelO.some_of {v : V} {o : Option Value} (r : RelO (some v) o) : ∃ u, o = some u ∧ RelV v u := by
  cases o with
  | none => exact (show False from r).elim
  | some u => exact ⟨u, rfl, r⟩
theorem RelO.none_of {o : Option Value} (r : RelO none o) : o = none := by
  cases o with
  | none => rfl
  | some u => exact (show False from r).elim
theorem handed_of {v : V} {u : Value} (r : RelV v u) : PySem.W.handedIn u = true := by
  cases v with
  | non => cases (show u = Value.none from r); rfl
  | bl b => cases (show u = Value.bool b from r); rfl
  | int i => obtain ⟨t, e⟩ := (show ∃ t, u = Value.int i t from r); cases e; rfl
  | str x => obtain ⟨t, e⟩ := (show ∃ t, u = Value.str x t from r); cases e; rfl
  | byt b => obtain ⟨t, e⟩ := (show ∃ t, u = Value.bytes b t from r); cases e; rfl
  | flt b => obtain ⟨t, e⟩ := (show ∃ t, u = Value.float b t from r); cases e; rfl
  | ref a => cases (show u = Value.ref a from r); rfl
  | ty n => cases (show u = Value.type n from r); rfl
section
variable {P : Program} {w : World} {H H' : Hp} {h h' : Heap} {a C dx : Addr} {fs fs' : List (Str × V)}
theorem ins_get (hok : HOk P w H h) (e : H a = some (.ins C dx fs)) : ∃ mA, ObjM h a dx C mA ∧ (∀ f, RelO (fs.lookup f) (mA f)) ∧ PySem.Within mA (fs.map (·.1)) ∧ fs.length ≤ 1000 ∧ H dx = some (.own a) := by
  obtain ⟨d, z, ne, ob, mA, n, r, q⟩ := (show ObjOk P w H h a (.ins C dx fs) from hok a _ e)
  exact ⟨mA, ⟨ob, n, ne⟩, r, q, z, d⟩
end
structure Cls (K : PySem.W.Frag) (C : Addr) : Prop where
  pg : PySem.W.plainGet K C Str.empty = true
  hd : PySem.W.hasDictIn K C = true
  po : PySem.W.plainOver K C = true
  sa : PySem.W.findIn K (.ref C) "__setattr__" = some (some (.builtin "object.__setattr__"))
theorem Cls.get {K : PySem.W.Frag} {C : Addr} (c : Cls K C) (f : Str) : PySem.W.plainGet K C f = true := c.pg
def NoAttr (K : PySem.W.Frag) (C : Addr) (f : Str) : Prop := PySem.W.findIn K (.ref C) f = some none
theorem NoAttr.taker {K : PySem.W.Frag} {C : Addr} {f : Str} (n : NoAttr K C f) : PySem.W.takerIn K C f = some none := by
  unfold PySem.W.takerIn
  rw [show PySem.W.findIn K (.ref C) f = some none from n]
  rfl
structure Meth (K : PySem.W.Frag) (C : Addr) (m : Str) (f : Addr) : Prop where
  at_ : PySem.W.findIn K (.ref C) m = some (some (.ref f))
  fn : PySem.W.isFn K (.ref f) = true
  kp : PySem.W.keepIn K (.ref f) = true
section
variable {X : Cx} {pins : List (Addr × Obj)} {σ : St} {H : Hp} {s : Shared} {a C dx : Addr} {fs : List (Str × V)} {f : Str} {v : V} {A : Around} {E : Value → Shared → Prop}
theorem getattr_ok {b : Bool} {Q : Value → Shared → Prop} (I : Inv X pins σ H s) (e : H a = some (.ins C dx fs)) (c : Cls X.K C) (n : NoAttr X.K C f) (l : fs.lookup f = some v)
    (h : ∀ u s', Inv X pins σ H s' → RelV v u → Q u s') : wpAny (model X.prog X.w) A (getAttr (.ref a) f b) Q E s := by
  obtain ⟨mA, O, r, _, _, _⟩ := ins_get I.hok e
  obtain ⟨u, hu, ru⟩ := RelO.some_of (v := v) (o := mA f) (by rw [← l]; exact r f)
  exact get_map I.kIn O (c.get f) c.hd n hu (handed_of ru) (h u _ (I.tok _) ru)
theorem getmeth_ok {m : Str} {g : Addr} {pl : Sem Bool} {Q : Value × List Value → Shared → Prop} (I : Inv X pins σ H s) (e : H a = some (.ins C dx fs)) (c : Cls X.K C) (k : Meth X.K C m g) (l : fs.lookup m = none)
    (h : Q (.ref g, [.ref a]) s) : wpAny (model X.prog X.w) A (getMethod (.ref a) m pl) Q E s := by
  obtain ⟨mA, O, r, _, _, _⟩ := ins_get I.hok e
  have hn : mA m = none := RelO.none_of (by rw [← l]; exact r m)
  exact get_meth I.kIn O (c.get m) k.at_ k.fn hn h
theorem setattr_ok {y : V} {u : Value} {Q : Unit → Shared → Prop} (I : Inv X pins σ H s) (e : H a = some (.ins C dx fs)) (c : Cls X.K C) (n : NoAttr X.K C f) (hl : fs.length < 1000) (ry : RelV y u)
    (h : ∀ s', Inv X pins σ (upd H a (.ins C dx (putF f y fs))) s' → Q () s') : wpAny (model X.prog X.w) A (setAttr (.ref a) f u) Q E s := by
  obtain ⟨mA, O, r, wi, _, ho⟩ := ins_get I.hok e
  have hz : (fs.map (·.1)).length ≤ sizeLine := by rw [List.length_map, sizeLine_eq]; omega
  refine set_map I.kIn O c.sa c.po n.taker c.hd wi hz fun h' O' sb => h _ ?_
  have hd : ∃ o, h'.get? dx = some o := let ⟨o, _, _, e', _⟩ := O'.ns; ⟨o, e'⟩
  refine I.write (x := a) (e := dx) (by rw [e]; exact True.intro) (.inr ho) (fun b q hb z => (sb.2 b hb).trans z) hd ?_
  refine ⟨by rw [upd_ne O.ne]; exact ho, ?_, O.ne, O'.obj, _, O'.ns, fun g => ?_, fun g hg => ?_⟩
  · have := length_putF f y fs; omega
  · show RelO ((putF f y fs).lookup g) (if g = f then some u else mA g)
    rw [lookup_putF]
    by_cases q : g = f
    · rw [if_pos q, if_pos q]; exact ry
    · rw [if_neg q, if_neg q]; exact r g
  · by_cases q : g = f
    · rw [q]; exact (keys_putF f y fs).1
    · refine (keys_putF f y fs).2 g (wi g fun z => hg ?_)
      show (if g = f then some u else mA g) = none
      rw [if_neg q]; exact z
theorem Inv.made (I : Inv X pins σ H s) : Inv X pins σ (upd (upd H s.heap.objs.size (.own (s.heap.objs.size + 1))) (s.heap.objs.size + 1) (.ins C s.heap.objs.size []))
    { s with heap := (s.heap.push PySem.W.emptyDict).push (PySem.W.instObj C s.heap.objs.size) } := by
  have e1 : (s.heap.push PySem.W.emptyDict).get? s.heap.objs.size = some PySem.W.emptyDict := Heap.get?_push_size s.heap rfl
  have e2 : ((s.heap.push PySem.W.emptyDict).push (PySem.W.instObj C s.heap.objs.size)).get? (s.heap.objs.size + 1) = some (PySem.W.instObj C s.heap.objs.size) := by
    have := Heap.get?_push_size (s.heap.push PySem.W.emptyDict) (o := PySem.W.instObj C s.heap.objs.size) rfl
    rwa [Heap.size_push] at this
  have e3 : (s.heap.push PySem.W.emptyDict).Ns s.heap.objs.size (fun _ => none) := ⟨PySem.W.emptyDict, #[], _, e1, rfl, (fun e he => absurd he (by simp)), fun _ => rfl⟩
  have I1 := I.laid (a := s.heap.objs.size) (o := .own (s.heap.objs.size + 1)) (h' := s.heap.push PySem.W.emptyDict) (t' := s.toks) (fun b u q => Heap.get?_push_of_some _ q) (Nat.le_refl _) ⟨_, e1⟩
  refine I1.laid (a := s.heap.objs.size + 1) (o := .ins C s.heap.objs.size []) (t' := s.toks) (fun b u q => Heap.get?_push_of_some _ q) (Nat.le_of_eq (Heap.size_push _ _)) ?_
  have ne : s.heap.objs.size ≠ s.heap.objs.size + 1 := Nat.ne_of_lt (Nat.lt_succ_self _)
  refine ⟨by rw [upd_ne ne, upd_same], Nat.zero_le _, ne, e2, fun _ => none, (Heap.Ns1.of_empty e3).at fun o q => Heap.get?_push_of_some _ q, fun _ => True.intro, fun y hy => absurd rfl hy⟩
theorem attr_of {prog : Program} {w : World} {env : Env} {e : Expr} {f : Str} {pos : Pos} {s : Shared} {Q : Value → Shared → Prop} (hb : attributeBase e f env (eval e env) = eval e env)
    (h : wpAny (model prog w) A (eval e env) (fun o s₁ => wpAny (model prog w) A (getAttr o f true) Q E s₁) E s) : wpAny (model prog w) A (eval (.Attribute e f pos) env) Q E s :=
  Attribute_any_ h (by rw [arm_eval_Attribute, hb])
end
def tFld (K : PySem.W.Frag) (ta : TE) (f : Str) : TE := fun σ H Q => ta σ H fun x H1 => ∃ a C dx fs v, x = .ref a ∧ H1 a = some (.ins C dx fs) ∧ Cls K C ∧ NoAttr K C f ∧ fs.lookup f = some v ∧ Q v H1
def sFld (K : PySem.W.Frag) (ta tv : TE) (f : Str) : TS := fun D σ H => tv σ H fun y H1 => ta σ H1 fun x H2 => ∃ a C dx fs, x = .ref a ∧ H2 a = some (.ins C dx fs) ∧ Cls K C ∧ NoAttr K C f ∧ fs.length < 1000 ∧
  D.nx σ (upd H2 a (.ins C dx (putF f y fs)))
section
variable {X : Cx} {o e value : Expr} {f : Str} {pos pos' tpos : Pos} {ta tv : TE}
theorem pe_fld (he : PE X e ta) (hb : attributeBase e f X.env (eval e X.env) = eval e X.env) : PE X (.Attribute e f pos) (tFld X.K ta f) := by
  intro pins s σ H Q I h
  refine attr_of hb (thn (he pins s σ H _ I h) fun u s1 ⟨x, H1, I1, rx, a, C, dx, fs, v, ex, ea, c, n, l, q⟩ => ?_)
  subst ex
  obtain rfl : u = Value.ref a := rx
  exact getattr_ok I1 ea c n l fun u' s2 I2 ru => ⟨v, H1, I2, ru, q⟩
theorem ps_fld (ha : PE X o ta) (hv : PE X value tv) (hs : swapsWith value (some (.Attribute o f pos')) pos.line X.env = pure false) : PS X (.Assign [.Attribute o f pos'] value pos) (sFld X.K ta tv f) := by
  intro pins s σ H D I h
  refine plainObj_wpAny_Assign_Attribute (thn (hv pins s σ H _ I h) fun u s1 ⟨y, H1, I1, ry, q⟩ => thn (ha pins s1 σ H1 _ I1 q) fun ov s2 ⟨x, H2, I2, rx, a, C, dx, fs, ex, ea, c, n, l, q2⟩ => ?_) hs
  subst ex
  obtain rfl : ov = Value.ref a := rx
  exact setattr_ok I2 ea c n l ry fun s3 I3 => ⟨σ, _, I3, q2⟩
end
section
variable {X : Cx} {pins : List (Addr × Obj)} {σ : St} {H : Hp} {s : Shared} {A : Around} {E : Value → Shared → Prop} {Q : Value → Shared → Prop} {c : Value} {b : Bool}
inductive TyOf (K : PySem.W.Frag) (H : Hp) : V → Value → Prop where
  | non : TyOf K H .non (.type "NoneType")
  | bl (x : Bool) : TyOf K H (.bl x) (.type "bool")
  | int (i : Int) : TyOf K H (.int i) (.type "int")
  | str (x : Str) : TyOf K H (.str x) (.type "str")
  | flt (x : UInt64) : TyOf K H (.flt x) (.type "float")
  | lst {a : Addr} {xs : List V} (e : H a = some (.lst xs)) : TyOf K H (.ref a) (.type "list")
  | frz {a : Addr} {o : Obj} {xs : List V} (e : H a = some (.frz o (.lst xs))) : TyOf K H (.ref a) (.type "list")
  | tup {a : Addr} {xs : List V} (e : H a = some (.tup xs)) : TyOf K H (.ref a) (.type "tuple")
  | dK {a : Addr} {kvs : List (Key × V)} (e : H a = some (.dK kvs)) : TyOf K H (.ref a) (.type "dict")
  | dT {a : Addr} {kvs : List (List Key × V)} (e : H a = some (.dT kvs)) : TyOf K H (.ref a) (.type "dict")
  | ins {a C dx : Addr} {fs : List (Str × V)} (e : H a = some (.ins C dx fs)) (cl : Cls K C) (ha : PySem.W.findIn K (.ref C) "__class__" = some (some (.builtin "object.__class__")))
      (hn : PySem.W.specialIn K (.builtin "object.__class__") "__get__" = some (some (.builtin "getset_descriptor.__get__"))) (htk : PySem.W.takesIn K (.builtin "object.__class__") = some true)
      (hm : PySem.W.mroIn K C (.type "object") = some true) : TyOf K H (.ref a) (.ref C)
theorem isinst_ok {x : V} {u t : Value} (I : Inv X pins σ H s) (rx : RelV x u) (ty : TyOf X.K H x t) (e : PySem.W.kitOne X.K t c = some b) (h : ∀ tk, Q (.bool b) { s with toks := tk }) :
    wpAny (model X.prog X.w) A (call (.builtin "isinstance") [u, c]) Q E s := by
  cases ty with
  | non => cases (show u = Value.none from rx); exact PySem.W.kia_one PySem.W.kitx_none I.kIn True.intro e (fun z => nomatch z) h
  | bl y => cases (show u = Value.bool y from rx); exact PySem.W.kia_one PySem.W.kitx_bool I.kIn True.intro e (fun z => nomatch z) h
  | int i => obtain ⟨t, q⟩ := (show ∃ t, u = Value.int i t from rx); cases q; exact PySem.W.kia_one PySem.W.kitx_int I.kIn True.intro e (fun z => nomatch z) h
  | str y => obtain ⟨t, q⟩ := (show ∃ t, u = Value.str y t from rx); cases q; exact PySem.W.kia_one PySem.W.kitx_str I.kIn True.intro e (fun z => nomatch z) h
  | flt y => obtain ⟨t, q⟩ := (show ∃ t, u = Value.float y t from rx); cases q; exact PySem.W.kia_one PySem.W.kitx_float I.kIn True.intro e (fun z => nomatch z) h
  | @lst a xs ea =>
    cases (show u = Value.ref a from rx)
    obtain ⟨_, _, n, _, h1⟩ := (show ObjOk X.prog X.w H s.heap a (.lst xs) from I.hok a _ ea)
    exact PySem.W.kia_one PySem.W.kitx_list I.kIn ⟨_, h1, rfl⟩ e (fun z => nomatch z) h
  | @frz a ob xs ea =>
    cases (show u = Value.ref a from rx)
    obtain ⟨_, _, _, n, _, h1⟩ := (show ObjOk X.prog X.w H s.heap a (.frz ob (.lst xs)) from I.hok a _ ea)
    exact PySem.W.kia_one PySem.W.kitx_list I.kIn ⟨_, h1, rfl⟩ e (fun z => nomatch z) h
  | @tup a xs ea =>
    cases (show u = Value.ref a from rx)
    obtain ⟨_, _, _, p, _⟩ := (show ObjOk X.prog X.w H s.heap a (.tup xs) from I.hok a _ ea)
    obtain ⟨o, h1, h2, _⟩ := p
    exact PySem.W.kia_one PySem.W.kitx_tuple I.kIn ⟨o, h1, h2⟩ e (fun z => nomatch z) h
  | @dK a kvs ea =>
    cases (show u = Value.ref a from rx)
    obtain ⟨_, _, vs, _, p⟩ := (show ObjOk X.prog X.w H s.heap a (.dK kvs) from I.hok a _ ea)
    obtain ⟨o, es, ep, h1, h2, _⟩ := p
    exact PySem.W.kia_one PySem.W.kitx_dict I.kIn ⟨o, h1, h2.1⟩ e (fun z => nomatch z) h
  | @dT a kvs ea =>
    cases (show u = Value.ref a from rx)
    obtain ⟨_, _, xs, _, o, es, ep, h1, h2, _⟩ := (show ObjOk X.prog X.w H s.heap a (.dT kvs) from I.hok a _ ea)
    exact PySem.W.kia_one PySem.W.kitx_dict I.kIn ⟨o, h1, h2.1⟩ e (fun z => nomatch z) h
  | @ins a C dx fs ea cl ha hn htk hm =>
    cases (show u = Value.ref a from rx)
    obtain ⟨mA, O, _⟩ := ins_get I.hok ea
    obtain ⟨od, J, _⟩ := O.look
    exact PySem.W.kia_one (PySem.W.kitx_own (cl.get _) cl.hd ha hn htk hm) I.kIn J e (fun z => nomatch z) h
end
end L2
namespace L2
open PySem PySem.Spec PyProof.Rows
structure Room (k : Nat) (A : Around) : Prop where
  hd : A.handled = none
  dp : A.depth + 3 * k + 5 < recursionLimit
  un : A.units + 16 * k + 200 < cLine
  gd : A.guards = some []
theorem Room.mono {j k : Nat} {A : Around} (r : Room k A) (h : j ≤ k) : Room j A := ⟨r.hd, by have := r.dp; omega, by have := r.un; omega, r.gd⟩
theorem Room.deeper {k : Nat} {A : Around} (r : Room (k + 1) A) (env : Env) : Room k (A.deeper env) :=
  ⟨r.hd, by have := r.dp; show A.depth + 1 + 3 * k + 5 < _; omega, by have := r.un; show A.units + 3 + 16 * k + 200 < _; omega, r.gd⟩
theorem make_depth {A : Around} {C : Addr} {us : List Value} {kw : List (Str × Value)} : (A.under (.builtin "type.__call__" ⟨.ref C :: us, kw⟩)).depth = A.depth + 1 := by
  first | rfl | simp [Around.under, Code.weight, Code.isCreation, Code.isGuard, Code.isCaller, Code.frames, Code.isFrame, guardIds]
theorem make_units {A : Around} {C : Addr} {us : List Value} {kw : List (Str × Value)} : (A.under (.builtin "type.__call__" ⟨.ref C :: us, kw⟩)).units = A.units + 1 := by
  first | rfl | simp [Around.under, Code.cUnits, Code.frames, Code.isFrame]
theorem make_guards {A : Around} {C : Addr} {us : List Value} {kw : List (Str × Value)} : (A.under (.builtin "type.__call__" ⟨.ref C :: us, kw⟩)).guards = A.guards := by
  first | rfl | simp [Around.under, Code.cUnits, Code.frames, Code.isFrame]
theorem Room.make {k : Nat} {A : Around} (r : Room (k + 1) A) (C : Addr) (us : List Value) (kw : List (Str × Value)) : Room k (A.under (.builtin "type.__call__" ⟨.ref C :: us, kw⟩)) :=
  ⟨r.hd, by have := r.dp; rw [make_depth]; omega, by have := r.un; rw [make_units]; omega, by rw [make_guards]; exact r.gd⟩
theorem Room.depth {k : Nat} {A : Around} (r : Room k A) : A.depth < recursionLimit := by have := r.dp; omega
theorem Room.units {k : Nat} {A : Around} (r : Room k A) : A.units + 64 < cLine := by have := r.un; omega
theorem Room.units0 {k : Nat} {A : Around} (r : Room k A) : A.units < cLine := by have := r.un; omega
def tNil : TA := fun _ H Q => Q [] H
def tCons (ta : TE) (tr : TA) : TA := fun σ H Q => ta σ H fun x H1 => tr σ H1 fun xs H2 => Q (x :: xs) H2
section
variable {X : Cx} {e : Expr} {es : List Expr} {te : TE} {t : TA} {pos : Pos}
theorem pa_nil : PA X [] tNil := fun _ _ _ _ H Q I h => Calls.spliced_nil ⟨[], H, I, .nil, h⟩
theorem pa_cons (ha : PE X e te) (hr : PA X es t) (hs : starEach (e :: es) X.env = (false, eval e X.env) :: starEach es X.env := by rfl) : PA X (e :: es) (tCons te t) := by
  intro pos pins s σ H Q I h
  rw [hs]
  show wpAny _ _ (spliced ((false, eval e X.env) :: backTo pos (starEach es X.env))) _ _ s
  refine Calls.spliced_cons (thn (ha pins s σ H _ I h) fun u s1 ⟨x, H1, I1, r1, q1⟩ => ?_)
  exact thn (hr pos pins s1 σ H1 _ I1 q1) fun us s2 ⟨xs, H2, I2, r2, q2⟩ => ⟨x :: xs, H2, I2, .cons r1 r2, q2⟩
def tTup (t : TA) : TE := fun σ H Q => t σ H fun xs H1 => xs.length ≤ sizeLine ∧ ∀ p, H1 p = none → Q (.ref p) (upd H1 p (.tup xs))
def tLst (t : TA) : TE := fun σ H Q => t σ H fun xs H1 => xs.length ≤ sizeLine ∧ ∀ p, H1 p = none → Q (.ref p) (upd H1 p (.lst xs))
theorem pe_tup {x1} (h : PA X es t) : PE X (.Tuple es x1 pos) (tTup t) := by
  intro pins s σ H Q I hq
  refine wpAny_Tuple_spliced (thn (h pos pins s σ H _ I hq) fun us s1 ⟨xs, H1, I1, r, z, q⟩ => ⟨by rw [← r.length]; exact z, ?_⟩)
  have hf : H1 s1.heap.objs.size = none := I1.hok.fresh (Nat.le_refl _)
  refine ⟨.ref s1.heap.objs.size, upd H1 s1.heap.objs.size (.tup xs), I1.laid (t' := s1.toks) (fun b u e => Heap.get?_push_of_some _ e) (Nat.le_refl _) ?_, rfl, q _ hf⟩
  exact ⟨z, us, r, ⟨_, Heap.get?_push_size _ rfl, rfl, _, rfl⟩, tup_nodict⟩
theorem pe_lst (h : PA X es t) : PE X (.List es pos) (tLst t) := by
  intro pins s σ H Q I hq
  refine wpAny_List_spliced (thn (h pos pins s σ H _ I hq) fun us s1 ⟨xs, H1, I1, r, z, q⟩ => ⟨by rw [← r.length]; exact z, ?_⟩)
  have hf : H1 s1.heap.objs.size = none := I1.hok.fresh (Nat.le_refl _)
  refine ⟨.ref s1.heap.objs.size, upd H1 s1.heap.objs.size (.lst xs), I1.laid (t' := s1.toks) (fun b u e => Heap.get?_push_of_some _ e) (Nat.le_refl _) ?_, rfl, q _ hf⟩
  exact ⟨z, us, 0, r, Heap.get?_push_size _ rfl⟩
end
abbrev Sp := List V → Hp → VK → XK → Prop
abbrev CXT := List Env → Hp → Shared → XK → Value → Shared → Prop
structure Env0 (P : Program) (w : World) (K : PySem.W.Frag) (mg : Str → Option Value) (base : Heap) (A : Around) (outer : List Env) (s : Shared) (H : Hp) : Prop where
  frames : A.frames = some outer
  mod : Mod K mg base
  bs : ∀ b o, base.get? b = some o → s.heap.get? b = some o ∧ H b = none
  bsz : base.objs.size ≤ s.heap.objs.size
  funs : s.heap.FunFrames base outer
  frf : ∀ b ∈ frs outer, H b = none
  hok : HOk P w H s.heap
  bare : AllBare s.gens
def CE (outer : List Env) (P : Program) (w : World) (H : Hp) (s : Shared) (Q : VK) (u : Value) (s' : Shared) : Prop :=
  ∃ v H', s'.os = s.os ∧ AllBare s'.gens ∧ Un (frs outer) [] H H' s.heap s'.heap ∧ HOk P w H' s'.heap ∧ RelV v u ∧ Q v H'
def CR (CX : CXT) (outer : List Env) (P : Program) (w : World) (H : Hp) (s : Shared) (Q : VK) (E : XK) (r : Result) (s' : Shared) : Prop :=
  match r with
  | .ok (.ret u) => CE outer P w H s Q u s'
  | .ok _ => False
  | .error e => CX outer H s E e s'
structure FnOk (P : Program) (w : World) (K : PySem.W.Frag) (mg : Str → Option Value) (base : Heap) (CX : CXT) (k : Nat) (f : Addr) (fd : FuncData) (ps : List Str) (sp : Sp) : Prop where
  len : ∀ vs H Q E, sp vs H Q E → vs.length = ps.length
  run : ∀ (A : Around) (outer : List Env) (s : Shared) (H : Hp) (args : Args) (us : List Value) (vs : List V) (Q : VK) (E : XK), Room k A → Env0 P w K mg base A outer s H → BindsTo s fd args (ps.zip us) → Vals vs us → sp vs H Q E →
    codeAny (model P w) A (.call (.ref f) args) (CR CX outer P w H s Q E) s
theorem Env0.make {P : Program} {w : World} {K : PySem.W.Frag} {mg : Str → Option Value} {base : Heap} {A : Around} {outer : List Env} {s : Shared} {H : Hp} (e : Env0 P w K mg base A outer s H) (C : Addr) (us : List Value) (kw : List (Str × Value)) :
    Env0 P w K mg base (A.under (.builtin "type.__call__" ⟨.ref C :: us, kw⟩)) outer s H := ⟨by first | exact e.frames | (simpa [Around.under, Code.envs, Code.isFrame, pushEnvs] using e.frames), e.mod, e.bs, e.bsz, e.funs, e.frf, e.hok, e.bare⟩
section
variable {X : Cx} {pins : List (Addr × Obj)} {σ : St} {H : Hp} {s s' : Shared}
theorem Inv.env0 (I : Inv X pins σ H s) : Env0 X.prog X.w X.K X.mg X.base X.A X.stack s H :=
  ⟨I.ok.frames, I.ok.mod, I.bs, Nat.le_trans I.ok.bsz I.sz, I.stack, I.stkFree, I.hok, I.bare⟩
theorem Inv.after {Q : VK} {u : Value} (I : Inv X pins σ H s) (h : CE X.stack X.prog X.w H s Q u s') : EP X pins σ Q u s' := by
  obtain ⟨v, H', os, bare, un, hok, r, q⟩ := h
  obtain ⟨hh, g, d, t, os'⟩ := s'
  obtain rfl : os' = s.os := os
  exact ⟨v, H', I.call (h' := hh) (g' := g) (d' := d) (t' := t) (ch := []) un hok bare (fun b z => absurd z (by simp)), r, q⟩
end
def tCall (sp : Sp) (dvs : List V) (E : XK) (t : TA) : TE := fun σ H Q => t σ H fun vs H1 => sp (vs ++ dvs) H1 Q E
def tMeth (C : Addr) (m : Str) (sp : Sp) (dvs : List V) (E : XK) (ta : TE) (t : TA) : TE := fun σ H Q => ta σ H fun x H1 => ∃ a dx fs, x = .ref a ∧ H1 a = some (.ins C dx fs) ∧ fs.lookup m = none ∧
  t σ H1 fun vs H2 => sp (x :: (vs ++ dvs)) H2 Q E
def tMake (C : Addr) (sp : Sp) (dvs : List V) (E : XK) (t : TA) : TE := fun σ H Q => t σ H fun vs H1 => ∀ x dx, H1 x = none → H1 dx = none → dx ≠ x →
  sp (.ref x :: (vs ++ dvs)) (upd (upd H1 dx (.own x)) x (.ins C dx [])) (fun v H2 => v = .non ∧ Q (.ref x) H2) E
def Binds (K : PySem.W.Frag) (fd : FuncData) (ps : List Str) (ds : List Value) : Prop :=
  ∀ (s : Shared) (us : List Value), K.In s.heap → (us ++ ds).length = ps.length → BindsTo s fd ⟨us, []⟩ (ps.zip (us ++ ds))
theorem Binds.all {K : PySem.W.Frag} {fd : FuncData} {ps : List Str} (h : ∀ us : List Value, us.length = ps.length → bindArgs fd ⟨us, []⟩ = pure (ps.zip us)) : Binds K fd ps [] := fun s us _ hl => by
  rw [List.append_nil] at hl ⊢
  exact .of_eq (h us hl)
def Passes (CX : CXT) (X : Cx) (E : XK) : Prop := ∀ (pins : List (Addr × Obj)) (σ : St) (H : Hp) (s : Shared) (e : Value) (s' : Shared), Inv X pins σ H s → CX X.stack H s E e s' → X.xe e s'
section
variable {X : Cx} {CX : CXT} {k : Nat} {f C : Addr} {fd : FuncData} {ps : List Str} {sp : Sp} {dvs : List V} {ds : List Value} {E : XK} {x m : Str} {p pos apos : Pos} {e o : Expr} {es : List Expr} {ta : TE} {t : TA}
theorem run_fn {pins : List (Addr × Obj)} {σ : St} {H : Hp} {s : Shared} {Q : VK} {us : List Value} {vs : List V} (F : FnOk X.prog X.w X.K X.mg X.base CX k f fd ps sp) (hr : Room k X.A) (hb : Binds X.K fd ps ds) (hd : Vals dvs ds) (hx : Passes CX X E)
    (I : Inv X pins σ H s) (r : Vals vs us) (h : sp (vs ++ dvs) H Q E) : wpAny (model X.prog X.w) X.A (call (.ref f) us) (EP X pins σ Q) X.xe s := by
  have r2 : Vals (vs ++ dvs) (us ++ ds) := r.append hd
  have hl : (us ++ ds).length = ps.length := by rw [← r2.length]; exact F.len _ _ _ _ h
  refine wpAny_call (codeAny_mono (F.run X.A X.stack s H ⟨us, []⟩ (us ++ ds) (vs ++ dvs) Q E hr I.env0 (hb s us I.kIn hl) r2 h) fun r s' hq => ?_)
  cases r with
  | error e => exact hx pins σ H s e s' I hq
  | ok fl =>
    cases fl with
    | ret u => exact I.after hq
    | next => exact False.elim hq
    | brk => exact False.elim hq
    | cont => exact False.elim hq
theorem pe_call (F : FnOk X.prog X.w X.K X.mg X.base CX k f fd ps sp) (hr : Room k X.A) (hg : Gl X x) (hm : X.mg x = some (.ref f)) (hk : PySem.W.keepIn X.K (.ref f) = true) (hb : Binds X.K fd ps ds) (hd : Vals dvs ds) (hx : Passes CX X E)
    (ha : PA X (e :: es) t) (hdb : (x == ("__debug__" : Str)) = false := by decide) (he : starEach (e :: es) X.env = (false, eval e X.env) :: starEach es X.env := by rfl) (hpl : (backTo pos (starEach es X.env)).any (·.1) = false := by rfl) :
    PE X (.Call (.Name x p) (e :: es) [] pos) (tCall sp dvs E t) := by
  intro pins s σ H Q I h
  refine wpAny_Call_Name_kw (ld_glob I hg hm ?_ hdb)
  refine PySem.W.callWith_K (h₀ := X.base) I.ok.mod.kin hk (thn (ha pos pins s σ H _ I h) fun us s1 ⟨vs, H1, I1, r, q⟩ => ⟨I1.kIn, ?_⟩) he hpl
  exact run_fn F hr hb hd hx I1 r q
theorem pe_meth {pl : Sem Bool} (he : PE X o ta) (c : Cls X.K C) (hm : Meth X.K C m f) (F : FnOk X.prog X.w X.K X.mg X.base CX k f fd ps sp) (hr : Room k X.A) (hb : Binds X.K fd ps ds) (hd : Vals dvs ds) (hx : Passes CX X E) (ha : PA X (e :: es) t)
    (hst : starEach (e :: es) X.env = (false, eval e X.env) :: starEach es X.env := by rfl) (hpl : (backTo pos (starEach es X.env)).any (·.1) = false := by rfl)
    (ht : eval (.Call (.Attribute o m apos) (e :: es) [] pos) X.env = (do
      let ov ← eval o X.env
      standAt apos.atName
      let (f, first) ← holding [ov] (getMethod ov m pl)
      callWith pos f first (backTo pos (starEach (e :: es) X.env)) (backToKw pos (keywordEach [] X.env))) := by rfl) :
    PE X (.Call (.Attribute o m apos) (e :: es) [] pos) (tMeth C m sp dvs E ta t) := by
  intro pins s σ H Q I h
  refine PySem.W.methodCall_KW (pl := pl) (thn (he pins s σ H _ I h) fun u s1 ⟨x, H1, I1, rx, a, dx, fs, ex, ea, l, q⟩ => ?_) ht
  subst ex
  obtain rfl : u = Value.ref a := rx
  refine getmeth_ok I1 ea c hm l ?_
  refine PySem.W.callWith_K (first := [.ref a]) (h₀ := X.base) I.ok.mod.kin hm.kp (thn (ha pos pins s1 σ H1 _ I1 q) fun us s2 ⟨vs, H2, I2, r, q2⟩ => ⟨I2.kIn, ?_⟩) hst hpl
  exact run_fn (us := .ref a :: us) (vs := .ref a :: vs) F hr hb hd hx I2 (.cons rfl r) q2
theorem pe_meth0 {pl : Sem Bool} (he : PE X o ta) (c : Cls X.K C) (hm : Meth X.K C m f) (F : FnOk X.prog X.w X.K X.mg X.base CX k f fd ps sp) (hr : Room k X.A) (hb : Binds X.K fd ps ds) (hd : Vals dvs ds) (hx : Passes CX X E)
    (ht : eval (.Call (.Attribute o m apos) [] [] pos) X.env = (do
      let ov ← eval o X.env
      standAt apos.atName
      let (f, first) ← holding [ov] (getMethod ov m pl)
      callWith pos f first (backTo pos (starEach [] X.env)) (backToKw pos (keywordEach [] X.env))) := by rfl) :
    PE X (.Call (.Attribute o m apos) [] [] pos) (tMeth C m sp dvs E ta tNil) := by
  intro pins s σ H Q I h
  refine PySem.W.methodCall_KW (pl := pl) (thn (he pins s σ H _ I h) fun u s1 ⟨x, H1, I1, rx, a, dx, fs, ex, ea, l, q⟩ => ?_) ht
  subst ex
  obtain rfl : u = Value.ref a := rx
  refine getmeth_ok I1 ea c hm l ?_
  exact PySem.W.callWith_K0 (first := [.ref a]) I1.kIn hm.kp (run_fn (us := [.ref a]) (vs := [.ref a]) F hr hb hd hx I1 (.cons rfl .nil) q)
structure Mk (K : PySem.W.Frag) (C f : Addr) : Prop where
  makes : PySem.W.makesIn K C = true
  init : PySem.W.findIn K (.ref C) "__init__" = some (some (.ref f))
  fn : PySem.W.isFn K (.ref f) = true
  kp : PySem.W.keepIn K (.ref C) = true
theorem run_make {pins : List (Addr × Obj)} {σ : St} {H : Hp} {s : Shared} {Q : VK} {us : List Value} {vs : List V} (M : Mk X.K C f) (F : FnOk X.prog X.w X.K X.mg X.base CX k f fd ps sp) (hr : Room (k + 1) X.A) (hb : Binds X.K fd ps ds) (hd : Vals dvs ds)
    (hx : Passes CX X E) (I : Inv X pins σ H s) (r : Vals vs us)
    (h : ∀ x dx, H x = none → H dx = none → dx ≠ x → sp (.ref x :: (vs ++ dvs)) (upd (upd H dx (.own x)) x (.ins C dx [])) (fun v H2 => v = .non ∧ Q (.ref x) H2) E) :
    wpAny (model X.prog X.w) X.A (call (.ref C) us) (EP X pins σ Q) X.xe s := by
  have hq := h (s.heap.objs.size + 1) s.heap.objs.size (I.hok.fresh (Nat.le_succ _)) (I.hok.fresh (Nat.le_refl _)) (Nat.ne_of_lt (Nat.lt_succ_self _))
  have I2 := Inv.made (C := C) I
  have r2 : Vals (V.ref (s.heap.objs.size + 1) :: (vs ++ dvs)) (Value.ref (s.heap.objs.size + 1) :: (us ++ ds)) := .cons rfl (r.append hd)
  have hl : (Value.ref (s.heap.objs.size + 1) :: us ++ ds).length = ps.length := by
    have e := r2.length
    rw [F.len _ _ _ _ hq] at e
    exact e.symm
  refine wpAny_call (make_map (f := f) I.kIn M.makes M.init (beq_iff_eq.mp M.fn) (codeAny_mono (F.run _ X.stack _ _ ⟨Value.ref (s.heap.objs.size + 1) :: us, []⟩ (Value.ref (s.heap.objs.size + 1) :: (us ++ ds)) _ _ E (hr.make C us [])
    (I2.env0.make C us []) (hb _ (Value.ref (s.heap.objs.size + 1) :: us) I2.kIn hl) r2 hq) fun r s' hq' => ?_))
  cases r with
  | error e => exact hx pins σ _ _ e s' I2 hq'
  | ok fl =>
    cases fl with
    | ret u =>
      obtain ⟨v, H', I3, rv, ev, q3⟩ := I2.after hq'
      subst ev
      exact ⟨rv, ⟨V.ref (s.heap.objs.size + 1), H', I3, rfl, q3⟩⟩
    | next => exact False.elim hq'
    | brk => exact False.elim hq'
    | cont => exact False.elim hq'
theorem pe_make (M : Mk X.K C f) (F : FnOk X.prog X.w X.K X.mg X.base CX k f fd ps sp) (hr : Room (k + 1) X.A) (hg : Gl X x) (hm : X.mg x = some (.ref C)) (hb : Binds X.K fd ps ds) (hd : Vals dvs ds) (hx : Passes CX X E)
    (ha : PA X (e :: es) t) (hdb : (x == ("__debug__" : Str)) = false := by decide) (he : starEach (e :: es) X.env = (false, eval e X.env) :: starEach es X.env := by rfl) (hpl : (backTo pos (starEach es X.env)).any (·.1) = false := by rfl) :
    PE X (.Call (.Name x p) (e :: es) [] pos) (tMake C sp dvs E t) := by
  intro pins s σ H Q I h
  refine wpAny_Call_Name_kw (ld_glob I hg hm ?_ hdb)
  refine PySem.W.callWith_K (h₀ := X.base) I.ok.mod.kin M.kp (thn (ha pos pins s σ H _ I h) fun us s1 ⟨vs, H1, I1, r, q⟩ => ⟨I1.kIn, ?_⟩) he hpl
  exact run_make M F hr hb hd hx I1 r q
end
section
variable {X : Cx} {CX : CXT} {k : Nat} {f C : Addr} {fd : FuncData} {ps ks : List Str} {sp : Sp} {E : XK} {x m : Str} {p pos apos kpos : Pos} {e o : Expr} {es : List Expr} {kws : List Keyword} {te ta : TE} {t tk : TA} {nm : Option Str}
variable {g : List Value → List Value → List Value} {gV : List V → List V → List V}
end
structure FnScope (N P : List Str) (sc : Scope) : Prop where
  kind : sc.kind = .function
  co : sc.isCoroutine = false
  gen : sc.isGenerator = false
  nd : N.Nodup
  pre : N.take P.length = P
  par : ∀ x ∈ P, sc.names.lookup x = some .local ∨ sc.names.lookup x = some .cell
  nofree : ∀ y ∈ sc.names, y.2 ≠ .free
theorem bindL_out {kindOf : Str → Option NameKind} {x : Str} : ∀ {binds : List (Str × Value)} {m : Str → Option Value}, (∀ v, (x, v) ∉ binds) → bindL kindOf binds m x = m x
  | [], _, _ => rfl
  | (n, v) :: r, m, h => by
    unfold bindL
    rw [bindL_out fun w hw => h w (List.mem_cons_of_mem _ hw)]
    split
    · have : x ≠ n := by rintro rfl; exact h v List.mem_cons_self
      simp [this]
    · rfl
theorem bindC_out {kindOf : Str → Option NameKind} {x : Str} : ∀ {binds : List (Str × Value)} {m : Str → Option Value}, (∀ v, (x, v) ∉ binds) → bindC kindOf binds m x = m x
  | [], _, _ => rfl
  | (n, v) :: r, m, h => by
    unfold bindC
    rw [bindC_out fun w hw => h w (List.mem_cons_of_mem _ hw)]
    split
    · rfl
    · have : x ≠ n := by rintro rfl; exact h v List.mem_cons_self
      simp [this]
theorem bindL_get {kindOf : Str → Option NameKind} {x : Str} {v : Value} : ∀ {P : List Str} {vs : List Value} {i : Nat} {m : Str → Option Value}, P.Nodup → P[i]? = some x → vs[i]? = some v → kindOf x = some .local →
    bindL kindOf (P.zip vs) m x = some v
  | [], _, _, _, _, h, _, _ => by simp at h
  | _ :: _, [], _, _, _, _, h, _ => by simp at h
  | p :: P, w :: vs, 0, m, nd, h1, h2, hk => by
    simp at h1 h2; subst h1; subst h2
    show bindL kindOf ((p, w) :: P.zip vs) m p = _
    unfold bindL
    rw [bindL_out fun v hv => (List.nodup_cons.mp nd).1 (List.of_mem_zip hv).1, if_pos hk]
    simp
  | p :: P, w :: vs, i + 1, m, nd, h1, h2, hk => by
    show bindL kindOf ((p, w) :: P.zip vs) m x = _
    unfold bindL
    exact bindL_get (i := i) (List.nodup_cons.mp nd).2 (by simpa using h1) (by simpa using h2) hk
theorem bindC_get {kindOf : Str → Option NameKind} {x : Str} {v : Value} : ∀ {P : List Str} {vs : List Value} {i : Nat} {m : Str → Option Value}, P.Nodup → P[i]? = some x → vs[i]? = some v → kindOf x ≠ some .local →
    bindC kindOf (P.zip vs) m x = some v
  | [], _, _, _, _, h, _, _ => by simp at h
  | _ :: _, [], _, _, _, _, h, _ => by simp at h
  | p :: P, w :: vs, 0, m, nd, h1, h2, hk => by
    simp at h1 h2; subst h1; subst h2
    show bindC kindOf ((p, w) :: P.zip vs) m p = _
    unfold bindC
    rw [bindC_out fun v hv => (List.nodup_cons.mp nd).1 (List.of_mem_zip hv).1, if_neg hk]
    simp
  | p :: P, w :: vs, i + 1, m, nd, h1, h2, hk => by
    show bindC kindOf ((p, w) :: P.zip vs) m x = _
    unfold bindC
    exact bindC_get (i := i) (List.nodup_cons.mp nd).2 (by simpa using h1) (by simpa using h2) hk
def start (N : List Str) (vs : List V) : St := vs.map some ++ List.replicate (N.length - vs.length) none
def cxOf (CX : CXT) (P : Program) (w : World) (K : PySem.W.Frag) (mg : Str → Option Value) (base : Heap) (N : List Str) (qual : Str) (scope : Scope) (f : Addr) (cd : Value) (A : Around) (outer : List Env) (s : Shared) (H : Hp) (E : XK) : Cx where
  prog := P
  w := w
  K := K
  mg := mg
  base := base
  A := A.deeper (envOfC qual scope s.heap.objs.size f cd)
  N := N
  s₀ := s
  H₀ := H
  env := envOfC qual scope s.heap.objs.size f cd
  outer := outer
  stack := envOfC qual scope s.heap.objs.size f cd :: outer
  ex := []
  calm := true
  fn := fun _ => true
  pn := []
  xe := fun e s' => wpAny (model P w) (A.deeper (envOfC qual scope s.heap.objs.size f cd)) (leaving (envOfC qual scope s.heap.objs.size f cd) e) (fun _ s'' => CX outer H s E e s'') (fun e' s'' => CX outer H s E e' s'') s'
theorem cell_has {sc : Scope} {n : Nat} {x : Str} (h : sc.names.lookup x = some .cell) : ∃ c, (cellsFrom n sc.names []).lookup x = some c := by
  have q := PySem.W.cellsFrom_some sc.names n [] (.inl h)
  exact Option.isSome_iff_exists.mp q
theorem inv_start {CX : CXT} {P : Program} {w : World} {K : PySem.W.Frag} {mg : Str → Option Value} {base : Heap} {N ps : List Str} {qual : Str} {scope : Scope} {f : Addr} {cd : Value} {A : Around} {outer : List Env} {s s1 : Shared} {H : Hp} {E : XK} {us : List Value} {vs : List V}
    (S : FnScope N ps scope) (hd : A.handled = none) (e0 : Env0 P w K mg base A outer s H) (hl : vs.length = ps.length) (r : Vals vs us)
    (x : InCallC s s.heap.objs.size (bindL (envOfC qual scope s.heap.objs.size f cd).kindOf (ps.zip us) fun _ => none) (cellsFrom (s.heap.objs.size + 1) scope.names []) (bindC (envOfC qual scope s.heap.objs.size f cd).kindOf (ps.zip us) fun _ => none) s1) :
    Inv (cxOf CX P w K mg base N qual scope f cd A outer s H E) [] (start N vs) H s1 := by
  have hpl : ps.length ≤ N.length := by have := congrArg List.length S.pre; rw [List.length_take] at this; omega
  obtain ⟨h1, tk, rfl, hk⟩ := x.done
  have noA : ∀ b : Addr, b ∉ (cxOf CX P w K mg base N qual scope f cd A outer s H E).ex := fun b z => absurd (show b ∈ ([] : List Addr) from z) (by simp)
  refine ⟨⟨e0.mod, S.kind, rfl, rfl, Nat.le_refl _, fun y z c h1 h2 => ?_, fun y hy => ?_, fun y c _ h => ?_, fun _ => hd, Around.frames_deeper e0.frames, .inr ⟨rfl, rfl⟩, fun b z => absurd z (noA b), e0.bs, e0.bsz, fun b _ _ => noA b, fun b z => absurd z (noA b), e0.funs, e0.frf⟩,
    rfl, e0.bare, Un.kept hk, ⟨_, x.toInCall.ns, fun i y v h1 h2 h3 => ?_⟩, fun y c h => ⟨_, x.cell y c h⟩, e0.hok.fresh (Nat.le_refl _), fun y c h => ?_, fun p hp => absurd (show p ∈ ([] : List (Addr × Obj)) from hp) (by simp), e0.hok.kept hk, ?_⟩
  · exact name_of_addr x.apart (PySem.mem_of_lookup h1) (PySem.mem_of_lookup h2)
  · have hy : scope.names.lookup y = some .cell ∨ scope.names.lookup y = some .free := hy
    rcases hy with hy | hy
    · exact cell_has hy
    · exact absurd rfl (S.nofree _ (PySem.mem_of_lookup hy))
  · exact Nat.le_of_lt (x.above y c (PySem.mem_of_lookup h))
  · have hi : i < vs.length := by
      unfold start at h2
      by_cases hi : i < vs.length
      · exact hi
      · rw [List.getElem?_append_right (by simpa using hi)] at h2
        rw [List.getElem?_replicate] at h2
        split at h2 <;> cases h2
    have ha : vs[i]? = some v := by
      unfold start at h2
      rw [List.getElem?_append_left (by simpa using hi), List.getElem?_map] at h2
      cases e : vs[i]? with
      | none => rw [e] at h2; cases h2
      | some a => rw [e] at h2; cases h2; rfl
    obtain ⟨u, hu, rv⟩ := r.get ha
    have hp : ps[i]? = some y := by
      rw [← S.pre, List.getElem?_take_of_lt (by omega)]; exact h1
    have ndP : ps.Nodup := by rw [← S.pre]; exact S.nd.sublist (List.take_sublist _ _)
    refine ⟨u, rv, ?_⟩
    rcases S.par y (List.mem_of_getElem? hp) with k | k
    · exact .inl ⟨k, bindL_get ndP hp hu k⟩
    · obtain ⟨c, e⟩ := cell_has (n := s.heap.objs.size + 1) k
      refine .inr ⟨.inl k, c, e, ?_⟩
      have q := x.cell y c e
      rw [bindC_get ndP hp hu (by show scope.names.lookup y ≠ _; rw [k]; decide)] at q
      exact q
  · exact e0.hok.fresh (Nat.le_of_lt (x.above y c (PySem.mem_of_lookup h)))
  · unfold start
    show _ = N.length
    rw [List.length_append, List.length_map, List.length_replicate]
    omega
theorem fn_of {CX : CXT} {P : Program} {w : World} {K : PySem.W.Frag} {mg : Str → Option Value} {base : Heap} {k : Nat} {f : Addr} {name qual : Str} {params : Arguments} {body : List Stmt} {scope : Scope} {dV kV doc pm cdv ct oc : Value} {an od : Option Addr}
    {osl : Array (Option Value)} {N ps : List Str} {sp : Sp} (lk : K.lookup f = some ⟨oc, od, .func (PySem.W.fnOf name qual params body scope dV kV doc pm an cdv ct), osl⟩) (hcd : PySem.W.codeIn K cdv qual = true) (S : FnScope N ps scope)
    (len : ∀ vs H Q E, sp vs H Q E → vs.length = ps.length)
    (hbody : ∀ (A : Around) (outer : List Env) (s : Shared) (H : Hp) (vs : List V) (Q : VK) (E : XK), Room k (A.deeper (envOfC qual scope s.heap.objs.size f cdv)) → sp vs H Q E →
      ∃ t, PSs (cxOf CX P w K mg base N qual scope f cdv A outer s H E) body t ∧ t { nx := fun _ H' => Q .non H', rt := Q } (start N vs) H) :
    FnOk P w K mg base CX (k + 1) f (PySem.W.fnOf name qual params body scope dV kV doc pm an cdv ct) ps sp := by
  refine ⟨len, fun A outer s H args us vs Q E hr e0 hb r hsp => ?_⟩
  have hl := len _ _ _ _ hsp
  have KX : K.In s.heap := e0.mod.kin.keeps fun b o e => (e0.bs b o e).1
  have lim : s.heap.NoLimit := e0.mod.nolimit.keeps fun b o e => (e0.bs b o e).1
  have hkind : ∀ y ∈ ps.zip us, scope.names.lookup y.1 = some .local ∨ (scope.names.lookup y.1 = some .cell ∧ ((cellsFrom (s.heap.objs.size + 1) scope.names []).lookup y.1).isSome = true) := fun ⟨n, v⟩ hy => by
    rcases S.par n (List.of_mem_zip hy).1 with q | q
    · exact .inl q
    · exact .inr ⟨q, PySem.W.cellsFrom_some _ _ _ (.inl q)⟩
  refine codeAny_call_function hr.depth (KX _ _ lk) rfl S.co S.gen rfl (PySem.W.codeRec_of KX hcd) (hb _ _ _ _ ?_)
  refine wpAny_newFunctionEnv_cells S.kind hkind fun env he s1 x => ?_
  subst he
  refine ⟨lim.keeps x.toInCall.keep, codeAny_func ?_⟩
  obtain ⟨t, ht, hq⟩ := hbody A outer s H vs Q E (hr.deeper _) hsp
  have I : Inv (cxOf CX P w K mg base N qual scope f cdv A outer s H E) [] (start N vs) H s1 := inv_start S hr.hd e0 hl r x
  refine wpAny_mono (ht [] s1 (start N vs) H _ I hq) (fun fl s' hs => ?_) fun e s' hs => hs
  have fin : ∀ {σ' : St} {H' : Hp} {v : V} {u : Value}, Inv (cxOf CX P w K mg base N qual scope f cdv A outer s H E) [] σ' H' s' → RelV v u → Q v H' → CE outer P w H s Q u s' :=
    fun {σ' H' v u} J rv q => ⟨v, H', J.os, J.bare, J.base, J.hok, rv, q⟩
  cases fl with
  | ret u =>
    obtain ⟨v, σ', H', J, rv, q⟩ := hs
    exact fin J rv q
  | next =>
    obtain ⟨σ', H', J, q⟩ := hs
    exact fin (v := V.non) (u := Value.none) J rfl q
  | brk =>
    obtain ⟨_, _, _, q⟩ := hs
    exact False.elim q
  | cont =>
    obtain ⟨_, _, _, q⟩ := hs
    exact False.elim q
end L2
namespace L2
open PySem PySem.Spec PyProof.Rows
section
variable {X : Cx} {x : Str} {p pos : Pos} {e : Expr} {es : List Expr} {t : TA} {id T : String} {r : List V → Hp → VK → Prop}
def tCB (r : List V → Hp → VK → Prop) (t : TA) : TE := fun σ H Q => t σ H fun vs H1 => r vs H1 Q
theorem pe_callB (hc : CallR X (.builtin id) r) (hg : Gl X x) (hm : X.mg x = none) (hv : bootBuiltins x = some (.builtin id)) (ha : PA X (e :: es) t) (hn : x ≠ "__name__" := by decide) (hdb : (x == ("__debug__" : Str)) = false := by decide)
    (he : starEach (e :: es) X.env = (false, eval e X.env) :: starEach es X.env := by rfl) (hpl : (backTo pos (starEach es X.env)).any (·.1) = false := by rfl) : PE X (.Call (.Name x p) (e :: es) [] pos) (tCB r t) := by
  intro pins s σ H Q I h
  refine wpAny_Call_Name_kw (ld_blt I hg hm hv ?_ hn hdb)
  exact PyProof.Rows.callWith_builtin1 (thn (ha pos pins s σ H _ I h) fun us s1 ⟨vs, H1, I1, r1, q1⟩ => hc pins s1 σ H1 vs us Q I1 r1 q1) he hpl
theorem pe_callTy (hc : CallR X (.type T) r) (hg : Gl X x) (hm : X.mg x = none) (hv : bootBuiltins x = some (.type T)) (ha : PA X (e :: es) t) (hn : x ≠ "__name__" := by decide) (hdb : (x == ("__debug__" : Str)) = false := by decide)
    (he : starEach (e :: es) X.env = (false, eval e X.env) :: starEach es X.env := by rfl) (hpl : (backTo pos (starEach es X.env)).any (·.1) = false := by rfl) : PE X (.Call (.Name x p) (e :: es) [] pos) (tCB r t) := by
  intro pins s σ H Q I h
  refine wpAny_Call_Name_kw (ld_blt I hg hm hv ?_ hn hdb)
  exact PyProof.Rows.callWith_type1 (thn (ha pos pins s σ H _ I h) fun us s1 ⟨vs, H1, I1, r1, q1⟩ => hc pins s1 σ H1 vs us Q I1 r1 q1) he hpl
end
end L2
namespace L2
open PySem PySem.Spec PyProof.Rows
section
variable {κ : Type} [DecidableEq κ]
end
section
variable {P : Program} {w : World} {H : Hp} {h : Heap} {a : Addr}
end
section
variable {X : Cx} {pins : List (Addr × Obj)} {σ : St} {H : Hp} {s : Shared} {a : Addr} {y v : V} {u r : Value} {o : Option V} {A : Around} {E : Value → Shared → Prop}
theorem Inv.big (I : Inv X pins σ H s) : sysModules < s.heap.objs.size := by
  have h : mainGlobals < s.heap.objs.size := (I.mod.glob.keeps I.bk).lt
  exact Nat.lt_trans (by decide) h
end
section
variable {X : Cx} {pins : List (Addr × Obj)} {σ : St} {H : Hp} {s : Shared} {a : Addr} {kvs : List (Key × V)} {k : Key} {u : Value} {A : Around} {E : Value → Shared → Prop}
end
section
variable {X : Cx} {o i e value : Expr} {pos pos' tpos : Pos} {td ty tv : TE}
end
theorem dk_empty {P : Program} {w : World} {H : Hp} (h : Heap) (hb : sysModules < h.objs.size) : ObjOk P w H (h.push { cls := .type "dict", data := .dict #[] }) h.objs.size (.dK []) :=
  ⟨Nat.zero_le _, beq_eq_false_iff_ne.mpr (Ne.symm (Nat.ne_of_lt hb)), [], .nil, Heap.DictOf.new h⟩
def tDNewK : TE := fun _ H Q => ∀ p, H p = none → Q (.ref p) (upd H p (.dK []))
section
variable {X : Cx} {pos : Pos}
theorem pe_dnewK : PE X (.Dict [] [] pos) tDNewK := fun pins s σ H Q I h =>
  wpAny_Dict_empty ⟨.ref s.heap.objs.size, _, I.laid (a := s.heap.objs.size) (o := .dK []) (t' := s.toks) (fun _ _ q => Heap.get?_push_of_some _ q) (Nat.le_refl _) (dk_empty s.heap I.big), rfl, h _ (I.hok.fresh (Nat.le_refl _))⟩
end
section
variable {X : Cx} {pins : List (Addr × Obj)} {σ : St} {H : Hp} {s : Shared} {a : Addr} {y d : V} {u r : Value} {o : Option V} {A : Around} {E : Value → Shared → Prop}
end
section
variable {X : Cx} {o e f : Expr} {apos cpos : Pos} {td ty tx : TE}
end
section
variable {X : Cx} {pins : List (Addr × Obj)} {σ : St} {H : Hp} {s : Shared} {a : Addr} {kvs : List (Key × V)} {A : Around} {E : Value → Shared → Prop}
end
section
variable {X : Cx} {pins : List (Addr × Obj)} {σ : St} {H : Hp} {s : Shared} {a : Addr} {y : V} {u : Value} {A : Around} {E : Value → Shared → Prop}
end
end L2
namespace HT
open PySem PyProof.Rows
section
open PySem.SeqAt
open PySem.AutoSeq1 (wpAny_loadPart')
open PySem.MeetsSeq PySem.MeetsSeq2 PySem.MeetsSeq3
end
section
variable {prog : Program} {w : World} {A : Around} {E : Value → Shared → Prop} {s : Shared}
theorem cat_tup {t b : Addr} {vs ws : List Value} {Q : Value → Shared → Prop} (ht : IsTup s.heap t vs.toArray) (hb : IsTup s.heap b ws.toArray) (hv : vs ≠ [])
    (h1 : ws = [] → Q (.ref t) s) (h2 : ws ≠ [] → Q (.ref s.heap.objs.size) { s with heap := s.heap.push { cls := .type "tuple", data := .seq (vs ++ ws).toArray } })
    (hsz : vs.length + ws.length ≤ sizeLine) : wpAny (model prog w) A (binaryOp .Add (.ref t) (.ref b)) Q E s := by
  obtain ⟨⟨cls, dd, data, sl⟩, ho, hc, n, hd⟩ := id ht
  obtain ⟨⟨cls2, dd2, data2, sl2⟩, ho2, hc2, n2, hd2⟩ := id hb
  simp only at hc hd hc2 hd2
  subst hc hd hc2 hd2
  have e : vs.toArray ++ ws.toArray = (vs ++ ws).toArray := by simp
  by_cases hw : ws = []
  · exact concat_meets ⟨_, ho, rfl⟩ ⟨_, ho2, rfl⟩ noFill_tuple_add seq_tuple_add PySem.F.slot_tuple_add PySem.F.entry_tuple_add (PySem.F.args_tuple_add_2 _ _)
      (tuple_addW1 t b vs.toArray ws.toArray n n2 dd dd2 sl sl2 (by simpa using hv) (by simp [hw])) ⟨ho, ho2, h1 hw⟩
  · refine concat_meets ⟨_, ho, rfl⟩ ⟨_, ho2, rfl⟩ noFill_tuple_add seq_tuple_add PySem.F.slot_tuple_add PySem.F.entry_tuple_add (PySem.F.args_tuple_add_2 _ _)
      (tuple_addW2 t b vs.toArray ws.toArray n n2 dd dd2 sl sl2 (by simpa using hv) (by simpa using hw) (by rw [List.size_toArray, List.size_toArray]; exact hsz)) ⟨ho, ho2, ?_⟩
    rw [e]
    exact h2 hw
def sIx (n d : Nat) : Option Int → Nat
  | none => d
  | some v => if v < 0 then (v + (n : Int)).toNat else min v.toNat n
theorem sIx_nat (n d k : Nat) : sIx n d (some (k : Int)) = min k n := by
  show (if (k : Int) < 0 then ((k : Int) + (n : Int)).toNat else min (k : Int).toNat n) = min k n
  rw [if_neg (by omega), Int.toNat_natCast]
theorem sIx_le (n d : Nat) (hd : d ≤ n) (o : Option Int) : sIx n d o ≤ n := by
  cases o with
  | none => exact hd
  | some v =>
    show (if v < 0 then (v + (n : Int)).toNat else min v.toNat n) ≤ n
    by_cases hv : v < 0
    · rw [if_pos hv]; omega
    · rw [if_neg hv]; exact Nat.min_le_right _ _
theorem clip_eq (v : Int) (n d : Nat) : (if v < 0 then max (v + (n : Int)) 0 else min v (n : Int)) = ((sIx n d (some v) : Nat) : Int) := by
  show (if v < 0 then max (v + (n : Int)) 0 else min v (n : Int)) = (((if v < 0 then (v + (n : Int)).toNat else min v.toNat n) : Nat) : Int)
  by_cases hv : v < 0
  · simp only [if_pos hv]; omega
  · simp only [if_neg hv]; omega
theorem adjust_gen (lo hi : Option Int) (n : Nat) : Builtin.Slice.sliceAdjust lo hi 1 (n : Int) = (((sIx n 0 lo : Nat) : Int), ((sIx n n hi : Nat) : Int)) := by
  have h1 : ¬ ((1 : Int) < 0) := by omega
  unfold Builtin.Slice.sliceAdjust
  simp only [h1, if_false]
  refine Prod.ext ?_ ?_
  · cases lo with
    | none => rfl
    | some v => exact clip_eq v n 0
  · cases hi with
    | none => rfl
    | some v => exact clip_eq v n n
theorem places_gen (i j : Nat) : Builtin.Slice.slicePlaces (i : Int) (j : Int) 1 = j - i := by
  unfold Builtin.Slice.slicePlaces
  have h1 : (1 : Int) > 0 := by omega
  simp only [h1, if_true, Int.ediv_one]
  split <;> omega
theorem slicePart_ {v : Value} {o : Option Int} {Q : Option Int → Shared → Prop} (p : IsPart v o) (h : Q o s) : wpAny (model prog w) A (Builtin.Slice.slicePartIndex v) Q E s := by
  cases p with
  | none => exact slicePart_none h
  | int i t => exact slicePart_int h
theorem sliceApplied_gen {sl : Addr} {vl vu : Value} {lo hi : Option Int} {n : Nat} {Q : Int × Int × Nat → Shared → Prop} (hs : s.heap.IsSliceOf sl vl vu .none) (pl : IsPart vl lo) (pu : IsPart vu hi)
    (h : Q (((sIx n 0 lo : Nat) : Int), 1, sIx n n hi - sIx n 0 lo) s) : wpAny (model prog w) A (Builtin.Slice.sliceApplied (.ref sl) (pure (n : Int))) Q E s := by
  obtain ⟨os, hos, hcs, hds⟩ := id hs
  unfold Builtin.Slice.sliceApplied Builtin.Slice.sliceFields
  refine wpAny_bind (wpAny_bind (wpAny_field hos hds (x := vl) rfl (wpAny_bind (wpAny_field hos hds (x := vu) rfl (wpAny_bind (wpAny_field hos hds (x := .none) rfl (wpAny_pure ?_)))))))
  refine wpAny_bind (slicePart_none ?_)
  show wpAny _ _ (if ((1 : Int) == 0) = true then _ else _) _ _ s
  rw [if_neg (by decide)]
  refine wpAny_bind (slicePart_ pl (wpAny_bind (slicePart_ pu (wpAny_bind (wpAny_pure ?_)))))
  show wpAny _ _ (match Builtin.Slice.sliceAdjust lo hi 1 (n : Int) with | (lo, hi) => pure (lo, (1 : Int), Builtin.Slice.slicePlaces lo hi 1)) _ _ s
  rw [adjust_gen lo hi n]
  show wpAny _ _ (pure (((sIx n 0 lo : Nat) : Int), (1 : Int), Builtin.Slice.slicePlaces ((sIx n 0 lo : Nat) : Int) ((sIx n n hi : Nat) : Int) 1)) _ _ s
  rw [places_gen]
  exact wpAny_pure h
theorem pick_gen (xs : Array Value) (i k : Nat) : ((List.range k).filterMap fun (m : Nat) => xs[((i : Int) + (m : Int) * 1).toNat]?).toArray = ((xs.toList.drop i).take k).toArray := by
  have e : (fun (m : Nat) => xs[((i : Int) + (m : Int) * 1).toNat]?) = fun m => xs[i + m]? := by
    funext m
    have : ((i : Int) + (m : Int) * 1).toNat = i + m := by omega
    rw [this]
  rw [e]
  have := pick_run xs i k
  rw [List.filterMap_map] at this
  have e2 : ((fun x => xs[x]?) ∘ fun x => i + x) = fun m => xs[i + m]? := rfl
  rw [e2] at this
  rw [this]
theorem getItem_tuple_cut {t sl : Addr} {items : Array Value} {vl vu : Value} {lo hi : Option Int} {Q : Value → Shared → Prop} (ht : IsTup s.heap t items) (hs : s.heap.IsSliceOf sl vl vu .none) (pl : IsPart vl lo) (pu : IsPart vu hi)
    (hw : ¬ (sIx items.size 0 lo = 0 ∧ sIx items.size items.size hi = items.size))
    (h : Q (.ref s.heap.objs.size) { s with heap := s.heap.push { cls := .type "tuple", data := .seq ((items.toList.drop (sIx items.size 0 lo)).take (sIx items.size items.size hi - sIx items.size 0 lo)).toArray } })
    (hsz : items.size ≤ sizeLine) : wpAny (model prog w) A (getItem (.ref t) (.ref sl)) Q E s := by
  have htake : sizeOk (.seq ((items.toList.drop (sIx items.size 0 lo)).take (sIx items.size items.size hi - sIx items.size 0 lo)).toArray) := by
    show ((items.toList.drop (sIx items.size 0 lo)).take (sIx items.size items.size hi - sIx items.size 0 lo)).toArray.size ≤ sizeLine
    rw [List.size_toArray, List.length_take, List.length_drop, Array.length_toList]
    omega
  have hj : sIx items.size items.size hi ≤ items.size := sIx_le _ _ (Nat.le_refl _) hi
  obtain ⟨os, hos, hcs, hds⟩ := id hs
  have hTs : s.TypeIs (.ref sl) "slice" := ⟨os, hos, hcs⟩
  unfold getItem
  try with_reducible refine wpAny_holding ?_
  first | refine wpAny_bind (wpAny_pure ?_) | skip
  refine wpAny_bind (wpAny_sequenceKey ht.typeIs (by decide) ?_)
  refine wpAny_bind (wpAny_callSpecial?_slot (name := Str.ofString "__getitem__") ht.typeIs PyProof.Rows.slot_tuple_getitem
    (wpAny_call_entry PyProof.Rows.slot_tuple_getitem ht.typeIs entry_tuple_getitem ?_ (args_tuple_getitem _ _)))
  show wpAny _ _ (Builtin.Tuple.tupleItemsOf (.ref t) >>= _) _ _ s
  refine wpAny_bind (tupleItemsOf_ ht ?_)
  refine wpAny_bind (wpAny_typeOf hTs ?_)
  rw [if_pos (by decide)]
  refine wpAny_bind (sliceApplied_gen hs pl pu ?_)
  have hno : ¬ ((((sIx items.size 0 lo : Nat) : Int) == 0 && (1 : Int) == 1 && (sIx items.size items.size hi - sIx items.size 0 lo) == items.size) = true) := by
    intro q
    rw [Bool.and_eq_true, Bool.and_eq_true] at q
    have q1 : ((sIx items.size 0 lo : Nat) : Int) = 0 := eq_of_beq q.1.1
    have q2 : sIx items.size items.size hi - sIx items.size 0 lo = items.size := eq_of_beq q.2
    exact hw ⟨by omega, by omega⟩
  show wpAny _ _ (if (((sIx items.size 0 lo : Nat) : Int) == 0 && (1 : Int) == 1 && (sIx items.size items.size hi - sIx items.size 0 lo) == items.size) = true then _ else _) _ _ s
  rw [if_neg hno, pick_gen]
  first
    | exact wpAny_bind (m := Builtin.Tuple.tupleExact _) (wpAny_newObj_type (wpAny_pure ⟨_, rfl, wpAny_pure h⟩) htake)
    | exact wpAny_bind (m := Builtin.Tuple.tupleExact _) (wpAny_newObj_type (wpAny_bind (wpAny_pure (wpAny_pure ⟨_, rfl, wpAny_pure h⟩))) htake)
    | exact wpAny_bind (wpAny_bind (m := Builtin.Tuple.tupleExact _) (wpAny_newObj_type (wpAny_pure (wpAny_pure ⟨_, rfl, wpAny_pure h⟩)) htake))
    | exact wpAny_bind (wpAny_bind (m := Builtin.Tuple.tupleExact _) (wpAny_newObj_type (wpAny_pure ⟨_, rfl, wpAny_pure h⟩) htake))
end
end HT
namespace L2
open PySem PySem.Spec PyProof.Rows
abbrev TO := St → Hp → (Option Int → Hp → Prop) → Prop
def PO (X : Cx) (e : Option Expr) (t : TO) : Prop :=
  ∀ (pins : List (Addr × Obj)) (s : Shared) (σ : St) (H : Hp) (Q : Option Int → Hp → Prop), Inv X pins σ H s → t σ H Q →
    wpAny (model X.prog X.w) X.A (evalPart e X.env) (fun u s' => ∃ o H', Inv X pins σ H' s' ∧ IsPart u o ∧ Q o H') X.xe s
def tNoPart : TO := fun _ H Q => Q none H
def tPart (t : TE) : TO := fun σ H Q => t σ H fun x H1 => ∃ i, x = .int i ∧ Q (some i) H1
section
variable {X : Cx} {e : Expr} {te : TE} {lo hi : Option Expr} {tl th : TO} {pos p2 : Pos}
theorem po_none : PO X none tNoPart := by
  intro pins s σ H Q I h
  rw [evalPart_none]
  exact wpAny_pure ⟨none, H, I, .none, h⟩
theorem po_some (h : PE X e te) : PO X (some e) (tPart te) := by
  intro pins s σ H Q I hw
  rw [evalPart_some]
  refine thn (h pins s σ H _ I hw) fun u s1 ⟨x, H1, I1, r1, q1⟩ => ?_
  obtain ⟨i, rfl, q⟩ := q1
  obtain ⟨t, rfl⟩ := r1
  exact ⟨some i, H1, I1, .int i t, q⟩
def SlR (X : Cx) (r : V → Option Int → Option Int → Hp → VK → Prop) : Prop :=
  ∀ (pins : List (Addr × Obj)) (s : Shared) (σ : St) (H : Hp) (x : V) (v vl vu : Value) (lo hi : Option Int) (sl : Addr) (Q : VK), Inv X pins σ H s → RelV x v → s.heap.IsSliceOf sl vl vu .none → IsPart vl lo → IsPart vu hi → r x lo hi H Q →
    ∃ T id, typeLookup (.type T) "__getitem__" = pure (some (.builtin id)) ∧ s.TypeIs v T ∧ wpAny (model X.prog X.w) X.A (getItem v (.ref sl)) (EP X pins σ Q) X.xe s
def tSl (r : V → Option Int → Option Int → Hp → VK → Prop) (te : TE) (tl th : TO) : TE := fun σ H Q => te σ H fun x H1 => tl σ H1 fun l H2 => th σ H2 fun u H3 => r x l u H3 Q
theorem pe_slice {r : V → Option Int → Option Int → Hp → VK → Prop} (hr : SlR X r) (he : PE X e te) (hl : PO X lo tl) (hu : PO X hi th) : PE X (.Subscript e (.Slice lo hi none p2) pos) (tSl r te tl th) := by
  intro pins s σ H Q I h
  refine Subscript_ (thn (he pins s σ H _ I h) fun v s1 ⟨x, H1, I1, r1, q1⟩ => ?_)
  refine wpAny_Slice (thn (hl pins s1 σ H1 _ I1 q1) fun vl s2 ⟨l, H2, I2, pl, q2⟩ => thn (hu pins s2 σ H2 _ I2 q2) fun vu s3 ⟨u, H3, I3, pu, q3⟩ => ?_)
  rw [evalPart_none]
  refine wpAny_pure ?_
  have I4 : Inv X pins σ H3 { s3 with heap := s3.heap.push { cls := .type "slice", data := .fields #[vl, vu, .none] } } := I3.kept (t' := s3.toks) fun b ob q => Heap.get?_push_of_some _ q
  obtain ⟨T, id, hT, ht, hg⟩ := hr pins { s3 with heap := s3.heap.push { cls := .type "slice", data := .fields #[vl, vu, .none] } } σ H3 x v vl vu l u s3.heap.objs.size Q I4 r1 (Heap.IsSliceOf.new ..) pl pu q3
  show wpAny (model X.prog X.w) X.A (subscriptTail e (.Slice lo hi none p2) v (.ref s3.heap.objs.size)) (EP X pins σ Q) X.xe { s3 with heap := s3.heap.push { cls := .type "slice", data := .fields #[vl, vu, .none] } }
  exact tail_any (ops := [.ref s3.heap.objs.size, v]) ht hT hg (by with_unfolding_all rfl)
def cutV (xs : List V) (lo hi : Option Int) : List V := (xs.drop (HT.sIx xs.length 0 lo)).take (HT.sIx xs.length xs.length hi - HT.sIx xs.length 0 lo)
theorem cutV_length (xs : List V) (lo hi : Option Int) : (cutV xs lo hi).length ≤ xs.length := by
  unfold cutV
  rw [List.length_take, List.length_drop]
  omega
def rSlT (K : PySem.W.Frag) : V → Option Int → Option Int → Hp → VK → Prop := fun x lo hi H Q => ∃ a xs, x = .ref a ∧ SqT K H a xs ∧
  ¬ (HT.sIx xs.length 0 lo = 0 ∧ HT.sIx xs.length xs.length hi = xs.length) ∧ ∀ p, H p = none → Q (.ref p) (upd H p (.tup (cutV xs lo hi)))
theorem sl_tup : SlR X (rSlT X.K) := by
  intro pins s σ H x v vl vu lo hi sl Q I rx hs pl pu h
  obtain ⟨a, xs, rfl, hx, hw, q⟩ := h
  cases rx
  obtain ⟨its, r, ht, hz⟩ := I.tuple hx
  have hlen : its.toArray.size = xs.length := by rw [List.size_toArray]; exact r.length.symm
  refine ⟨"tuple", _, PyProof.Rows.slot_tuple_getitem.lookup, ht.typeIs, ?_⟩
  refine HT.getItem_tuple_cut ht hs pl pu (by rw [hlen]; exact hw) ?_ (by rw [hlen]; exact hz)
  rw [hlen]
  refine ⟨.ref s.heap.objs.size, _, I.laid (t' := s.toks) (o := .tup (cutV xs lo hi)) (fun b ob q => Heap.get?_push_of_some _ q) (Nat.le_refl _) ?_, rfl, q _ (I.hok.fresh (Nat.le_refl _))⟩
  exact ⟨Nat.le_trans (cutV_length xs lo hi) hz, _, (r.drop (HT.sIx xs.length 0 lo)).take (HT.sIx xs.length xs.length hi - HT.sIx xs.length 0 lo), IsTup.new _ _, tup_nodict⟩
def rCatT (K : PySem.W.Frag) : R2 := fun x y H Q => ∃ a b xs ys, x = .ref a ∧ y = .ref b ∧ SqT K H a xs ∧ SqT K H b ys ∧ xs ≠ [] ∧ xs.length + ys.length ≤ sizeLine ∧
  (ys = [] → Q (.ref a) H) ∧ (ys ≠ [] → ∀ p, H p = none → Q (.ref p) (upd H p (.tup (xs ++ ys))))
theorem Vals.nil_iff {xs : List V} {us : List Value} (r : Vals xs us) : us = [] ↔ xs = [] := by
  cases r with
  | nil => simp
  | cons _ _ => simp
theorem op_catT : OpR X (binaryOp .Add) (rCatT X.K) := by
  intro pins s σ H x y v u Q I rx ry h
  obtain ⟨a, b, xs, ys, rfl, rfl, ha, hb, hx, hz, q1, q2⟩ := h
  cases rx
  cases ry
  obtain ⟨its, r1, p1, _⟩ := I.tuple ha
  obtain ⟨its2, r2, p2, _⟩ := I.tuple hb
  refine HT.cat_tup p1 p2 (fun z => hx (r1.nil_iff.mp z)) (fun z => ⟨.ref a, H, I, rfl, q1 (r2.nil_iff.mp z)⟩) (fun z => ?_) (by rw [← r1.length, ← r2.length]; exact hz)
  refine ⟨.ref s.heap.objs.size, _, I.laid (t' := s.toks) (o := .tup (xs ++ ys)) (fun b ob q => Heap.get?_push_of_some _ q) (Nat.le_refl _) ?_, rfl, q2 (fun w => z (r2.nil_iff.mpr w)) _ (I.hok.fresh (Nat.le_refl _))⟩
  exact ⟨by rw [List.length_append]; exact hz, _, r1.append r2, IsTup.new _ _, tup_nodict⟩
end
end L2
namespace L2
open PySem PySem.Spec PyProof.Rows
def ixN (n : Nat) (i : Int) : Option Nat := if 0 ≤ i then (if i < n then some i.toNat else none) else if -(n : Int) ≤ i then some (i + n).toNat else none
def atI {α : Type} (xs : List α) (i : Int) : Option α := (ixN xs.length i).bind fun j => xs[j]?
theorem ixN_seq {n : Nat} {i : Int} {j : Nat} (h : ixN n i = some j) : seqIndex? i n = some j ∧ j < n ∧ -(n : Int) ≤ i ∧ i < n := by
  unfold ixN at h
  by_cases h0 : 0 ≤ i
  · rw [if_pos h0] at h
    by_cases h1 : i < n
    · rw [if_pos h1] at h
      have e : i.toNat = j := Option.some.inj h
      exact ⟨by rw [seqIndex_of h0 h1, e], by omega, by omega, h1⟩
    · rw [if_neg h1] at h; cases h
  · rw [if_neg h0] at h
    by_cases h1 : -(n : Int) ≤ i
    · rw [if_pos h1] at h
      have e : (i + n).toNat = j := Option.some.inj h
      exact ⟨by rw [seqIndex_neg (by omega) h1, e], by omega, h1, by omega⟩
    · rw [if_neg h1] at h; cases h
theorem atI_get {α : Type} {xs : List α} {i : Int} {v : α} (h : atI xs i = some v) : ∃ j, seqIndex? i xs.length = some j ∧ xs[j]? = some v ∧ j < xs.length ∧ -(xs.length : Int) ≤ i ∧ i < xs.length := by
  unfold atI at h
  cases e : ixN xs.length i with
  | none => rw [e] at h; cases h
  | some j =>
    rw [e] at h
    obtain ⟨h1, h2, h3, h4⟩ := ixN_seq e
    exact ⟨j, h1, h, h2, h3, h4⟩
theorem atI_nat {α : Type} {xs : List α} {j : Nat} {v : α} (h : xs[j]? = some v) : atI xs (j : Int) = some v := by
  have hj : j < xs.length := (List.getElem?_eq_some_iff.mp h).1
  have e : ixN xs.length (j : Int) = some j := by
    unfold ixN
    rw [if_pos (by omega), if_pos (by omega)]; simp
  unfold atI; rw [e]; exact h
def PlainIx (b : Expr) : Prop := ∀ o i, subscripted b false o i = operate [o, i] (getItem o i)
def IxR (X : Cx) (r : R2) : Prop :=
  ∀ (value slice : Expr) (pins : List (Addr × Obj)) (s : Shared) (σ : St) (H : Hp) (x y : V) (v u : Value) (Q : VK), Inv X pins σ H s → RelV x v → RelV y u → r x y H Q →
    subscripted slice false v u = operate [v, u] (getItem v u) → wpAny (model X.prog X.w) X.A (subscriptTail value slice v u) (EP X pins σ Q) X.xe s
def MtR (X : Cx) (id : String) (r : V → List V → Hp → VK → Prop) : Prop :=
  ∀ (pins : List (Addr × Obj)) (s : Shared) (σ : St) (H : Hp) (x : V) (xs : List V) (v : Value) (us : List Value) (Q : VK), Inv X pins σ H s → RelV x v → Vals xs us → r x xs H Q →
    wpAny (model X.prog X.w) X.A (call (.builtin id) (v :: us)) (EP X pins σ Q) X.xe s
section
variable {X : Cx} {a b : Expr} {ta tb : TE} {pos : Pos}
theorem IxR.or {r r' : R2} (h : IxR X r) (h' : IxR X r') : IxR X (fun x y H Q => r x y H Q ∨ r' x y H Q) := by
  intro value slice pins s σ H x y v u Q I rx ry q hs
  rcases q with q | q
  · exact h value slice pins s σ H x y v u Q I rx ry q hs
  · exact h' value slice pins s σ H x y v u Q I rx ry q hs
theorem pe_ix {r : R2} (hr : IxR X r) (ha : PE X a ta) (hb : PE X b tb) (hs : PlainIx b) : PE X (.Subscript a b pos) (tOp r ta tb) := by
  intro pins s σ H Q I h
  exact Subscript_ (binT ha hb I h fun v u s2 x y H2 I2 rx ry q => hr a b pins s2 σ H2 x y v u Q I2 rx ry q (hs _ _))
def rIxL (K : PySem.W.Frag) : R2 := fun x y H Q => ∃ p xs i v, x = .ref p ∧ y = .int i ∧ SqL K H p xs ∧ atI xs i = some v ∧ Q v H
def rIxT (K : PySem.W.Frag) : R2 := fun x y H Q => ∃ p xs i v, x = .ref p ∧ y = .int i ∧ SqT K H p xs ∧ atI xs i = some v ∧ Q v H
def rIxS : R2 := fun x y H Q => ∃ z i c, x = .str z ∧ y = .int i ∧ z.length ≤ sizeLine ∧ atI z.cps.toList i = some c ∧ Q (.str ⟨#[c]⟩) H
theorem ix_list : IxR X (rIxL X.K) := by
  intro value slice pins s σ H x y v u Q I rx ry h hs
  obtain ⟨p, xs, i, z, rfl, rfl, hq, he, q⟩ := h
  cases rx
  obtain ⟨t, rfl⟩ := ry
  obtain ⟨its, r, pl, hz⟩ := I.list hq
  obtain ⟨j, h1, h2, h3, h4, h5⟩ := atI_get he
  obtain ⟨w, ew, rw'⟩ := r.get h2
  have hl := r.length
  have hn := line63
  have fin : EP X pins σ Q w s := ⟨z, H, I, rw', q⟩
  by_cases h0 : 0 ≤ i
  · have hj : i.toNat = j := by
      rw [seqIndex_of h0 h5] at h1
      exact Option.some.inj h1
    exact item_listR pl.isList h0 (by omega) (by rw [hj]; simpa using ew) fin hs
  · have hj : (i + (its.toArray.size : Int)).toNat = j := by
      rw [seqIndex_neg (by omega) h4] at h1
      rw [List.size_toArray, ← hl]
      exact Option.some.inj h1
    exact subscriptTail_builtinR (x := w) pl.isList.typeIs slot_list_getitem.lookup
      (wpAny_getItem_list_neg (Q := fun r s' => r = w ∧ EP X pins σ Q r s') pl.isList (by omega) (by rw [List.size_toArray] <;> omega) (by omega) (by rw [hj]; simpa using ew) ⟨rfl, fin⟩) hs
theorem ix_tup : IxR X (rIxT X.K) := by
  intro value slice pins s σ H x y v u Q I rx ry h hs
  obtain ⟨p, xs, i, z, rfl, rfl, hq, he, q⟩ := h
  cases rx
  obtain ⟨t, rfl⟩ := ry
  obtain ⟨its, r, pl, hz⟩ := I.tuple hq
  obtain ⟨j, h1, h2, h3, h4, h5⟩ := atI_get he
  obtain ⟨w, ew, rw'⟩ := r.get h2
  have hl := r.length
  have hn := line63
  have fin : EP X pins σ Q w s := ⟨z, H, I, rw', q⟩
  exact subscriptTail_builtinR (x := w) pl.typeIs slot_tuple_getitem.lookup
    (getItem_tuple (j := j) (Q := fun r s' => r = w ∧ EP X pins σ Q r s') pl (by omega) (by omega) (by rw [List.size_toArray, ← hl]; exact h1) (by simpa using ew) ⟨rfl, fin⟩) hs
theorem ix_str : IxR X rIxS := by
  intro value slice pins s σ H x y v u Q I rx ry h hs
  obtain ⟨z, i, c, rfl, rfl, hz, he, q⟩ := h
  obtain ⟨t, rfl⟩ := rx
  obtain ⟨t', rfl⟩ := ry
  obtain ⟨j, h1, h2, h3, h4, h5⟩ := atI_get he
  have hl : z.cps.toList.length = z.length := by simp [Str.length]
  rw [hl] at h1 h4 h5
  have hn := line63
  exact tail_any (typeIs_str s z t) slot_str_getitem.lookup (getItem_str (c := c) (by
    have e1 : decide (i < -(2 ^ 63 : Int)) = false := decide_eq_false (by omega)
    have e2 : decide (i ≥ 2 ^ 63) = false := decide_eq_false (by omega)
    rw [e1, e2, Bool.or_false]) (by rw [h1]; simpa using h2) ⟨.str ⟨#[c]⟩, H, I.tok _, ⟨_, rfl⟩, q⟩) hs
def rIx (K : PySem.W.Frag) : R2 := fun x y H Q => rIxL K x y H Q ∨ rIxT K x y H Q ∨ rIxS x y H Q
theorem ix_seq : IxR X (rIx X.K) := ix_list.or (ix_tup.or ix_str)
theorem mapSeq_set (its : List Value) (n j : Nat) (u : Value) : Obj.mapSeq (·.setIfInBounds j u) { cls := .type "list", data := .seq its.toArray n } = { cls := .type "list", data := .seq (its.set j u).toArray n } := by
  simp [Obj.mapSeq]
theorem Inv.lst {pins : List (Addr × Obj)} {σ : St} {H : Hp} {s : Shared} {p : Addr} {xs : List V} (I : Inv X pins σ H s) (h : H p = some (.lst xs)) :
    ∃ (its : List Value) (n : Nat), Vals xs its ∧ s.heap.get? p = some { cls := .type "list", data := .seq its.toArray n } ∧ xs.length ≤ sizeLine := by
  obtain ⟨z, its, n, r, e⟩ := I.hok p _ h
  exact ⟨its, n, r, e, z⟩
theorem Inv.lstUpd {pins : List (Addr × Obj)} {σ : St} {H : Hp} {s : Shared} {p : Addr} {xs ys : List V} {its its' : List Value} {n n' : Nat} {f : Obj → Obj} (I : Inv X pins σ H s) (h : H p = some (.lst xs))
    (ho : s.heap.get? p = some { cls := .type "list", data := .seq its.toArray n }) (hf : f { cls := .type "list", data := .seq its.toArray n } = { cls := .type "list", data := .seq its'.toArray n' }) (r : Vals ys its') (hz : ys.length ≤ sizeLine) (t : Nat) :
    Inv X pins σ (upd H p (.lst ys)) { s with heap := s.heap.update p f, toks := t } := by
  have e : (s.heap.update p f).get? p = some { cls := .type "list", data := .seq its'.toArray n' } := by
    rw [Heap.get?_update_self f ho (by rw [hf] <;> rfl), hf]
  refine I.write (x := p) (e := p) (by rw [h]; trivial) (.inl rfl) (fun b u hb q => (Heap.get?_update_other _ _ (Ne.symm hb)).trans q) ⟨_, e⟩ ?_
  exact ⟨hz, its', n', r, e⟩
def rSetL : V → V → V → Hp → (Hp → Prop) → Prop := fun o i v H Q => ∃ p xs k j, o = .ref p ∧ i = .int k ∧ H p = some (.lst xs) ∧ ixN xs.length k = some j ∧ Q (upd H p (.lst (xs.set j v)))
theorem set_list : PSet X rSetL := by
  intro pins s σ H o i v ov iv u Q I ro ri rv h
  obtain ⟨p, xs, k, j, rfl, rfl, hp, hj, q⟩ := h
  cases ro
  obtain ⟨t, rfl⟩ := ri
  obtain ⟨its, n, r, ho, hz⟩ := I.lst hp
  obtain ⟨h1, h2, h3, h4⟩ := ixN_seq hj
  have hl := r.length
  have hn := line63
  have I' : Inv X pins σ (upd H p (.lst (xs.set j v))) { s with heap := s.heap.update p (Obj.mapSeq (·.setIfInBounds j u)) } :=
    I.lstUpd hp ho (mapSeq_set its n j u) (r.set rv j) (by rw [List.length_set]; exact hz) s.toks
  by_cases h0 : 0 ≤ k
  · have hk : k.toNat = j := by
      rw [seqIndex_of h0 h4] at h1
      exact Option.some.inj h1
    exact PySem.W.ki_setAt ho h0 (by omega) (by rw [List.size_toArray, ← hl]; exact h4) (by rw [hk]; exact ⟨_, I', q⟩)
  · have hk : (k + (its.toArray.size : Int)).toNat = j := by
      rw [seqIndex_neg (by omega) h3] at h1
      rw [List.size_toArray, ← hl]
      exact Option.some.inj h1
    exact PySem.W.ki_setBack ho (by omega) (by rw [List.size_toArray, ← hl]; exact h3) (by omega) (by rw [hk]; exact ⟨_, I', q⟩)
theorem slice_bounds (lo hi : Option Int) (n : Nat) : (sliceBounds lo hi none n).1 = ((HT.sIx n 0 lo : Nat) : Int) ∧ (sliceBounds lo hi none n).2.1 = ((HT.sIx n n hi : Nat) : Int) ∧ (sliceBounds lo hi none n).2.2 = 1 := by
  refine ⟨?_, ?_, rfl⟩
  · cases lo with
    | none => simp [sliceBounds, HT.sIx]
    | some i =>
      simp only [sliceBounds, HT.sIx, Option.getD_none, show (1 : Int) > 0 by decide, if_true]
      by_cases h : i < 0
      · simp only [h, if_true] <;> omega
      · simp only [h, if_false] <;> omega
  · cases hi with
    | none => simp [sliceBounds, HT.sIx]
    | some i =>
      simp only [sliceBounds, HT.sIx, Option.getD_none, show (1 : Int) > 0 by decide, if_true]
      by_cases h : i < 0
      · simp only [h, if_true] <;> omega
      · simp only [h, if_false] <;> omega
theorem slicePick_cut (its : List Value) (lo hi : Option Int) : slicePick its.toArray lo hi none = ((its.drop (HT.sIx its.length 0 lo)).take (HT.sIx its.length its.length hi - HT.sIx its.length 0 lo)).toArray := by
  obtain ⟨h1, h2, h3⟩ := slice_bounds lo hi its.toArray.size
  unfold slicePick
  rw [h1, h2, h3]
  simp only [sliceRange_one, pick_run, List.size_toArray] <;> rfl
def rSlL (K : PySem.W.Frag) : V → Option Int → Option Int → Hp → VK → Prop := fun x lo hi H Q => ∃ a xs, x = .ref a ∧ SqL K H a xs ∧ ∀ p, H p = none → Q (.ref p) (upd H p (.lst (cutV xs lo hi)))
theorem sl_list : SlR X (rSlL X.K) := by
  intro pins s σ H x v vl vu lo hi sl Q I rx hs pl pu h
  obtain ⟨a, xs, rfl, hx, q⟩ := h
  cases rx
  obtain ⟨its, r, ht, hz⟩ := I.list hx
  have hlen := r.length
  refine ⟨"list", _, slot_list_getitem.lookup, ht.isList.typeIs, ?_⟩
  refine wpAny_getItem_list_slice ht.isList hs pl pu .none (by simp) ?_ (by rw [List.size_toArray] <;> omega)
  rw [slicePick_cut, ← hlen]
  refine ⟨.ref s.heap.objs.size, _, I.laid (t' := s.toks) (o := .lst (cutV xs lo hi)) (fun b ob q => Heap.get?_push_of_some _ q) (Nat.le_refl _) ?_, rfl, q _ (I.hok.fresh (Nat.le_refl _))⟩
  exact ⟨Nat.le_trans (cutV_length xs lo hi) hz, _, 0, (r.drop (HT.sIx xs.length 0 lo)).take (HT.sIx xs.length xs.length hi - HT.sIx xs.length 0 lo), Heap.get?_push_size _ rfl⟩
def flatV : V → Bool
  | .non => true
  | .bl _ => true
  | .int _ => true
  | .str _ => true
  | _ => false
def eqV : V → V → Bool
  | .non, .non => true
  | .bl a, .bl b => a == b
  | .bl a, .int b => (if a then 1 else 0) == b
  | .int a, .bl b => a == (if b then 1 else 0)
  | .int a, .int b => a == b
  | .str a, .str b => a == b
  | _, _ => false
theorem eqAt_V {A : Around} {s : Shared} {y x : V} {u v : Value} (ry : RelV y u) (rx : RelV x v) (fy : flatV y = true) (fx : flatV x = true) : SeqAt.EqAt A s u v (eqV y x) := by
  cases y with
  | non =>
    cases ry
    cases x with
    | non => cases rx; exact SeqAt.EqAt.same _
    | bl b => cases rx; exact SeqAt.EqAt.none_bool b
    | int b => obtain ⟨t, rfl⟩ := rx; exact SeqAt.EqAt.none_int b t
    | str b => obtain ⟨t, rfl⟩ := rx; exact SeqAt.EqAt.none_str b t
    | _ => exact absurd (show false = true from fx) Bool.false_ne_true
  | bl a =>
    cases ry
    cases x with
    | non => cases rx; exact SeqAt.EqAt.bool_none a
    | bl b => cases rx; exact SeqAt.EqAt.bool_bool a b
    | int b => obtain ⟨t, rfl⟩ := rx; exact SeqAt.EqAt.bool_int a b t
    | str b => obtain ⟨t, rfl⟩ := rx; exact SeqAt.EqAt.bool_str a b t
    | _ => exact absurd (show false = true from fx) Bool.false_ne_true
  | int a =>
    obtain ⟨t', rfl⟩ := ry
    cases x with
    | non => cases rx; exact SeqAt.EqAt.int_none a t'
    | bl b => cases rx; exact SeqAt.EqAt.int_bool a t' b
    | int b => obtain ⟨t, rfl⟩ := rx; exact SeqAt.EqAt.int_int a t' b t
    | str b => obtain ⟨t, rfl⟩ := rx; exact SeqAt.EqAt.int_str a t' b t
    | _ => exact absurd (show false = true from fx) Bool.false_ne_true
  | str a =>
    obtain ⟨t', rfl⟩ := ry
    cases x with
    | non => cases rx; exact SeqAt.EqAt.str_none a t'
    | bl b => cases rx; exact SeqAt.EqAt.str_bool a t' b
    | int b => obtain ⟨t, rfl⟩ := rx; exact SeqAt.EqAt.str_int a t' b t
    | str b => obtain ⟨t, rfl⟩ := rx; exact SeqAt.EqAt.str_str a t' b t
    | _ => exact absurd (show false = true from fx) Bool.false_ne_true
  | _ => exact absurd (show false = true from fy) Bool.false_ne_true
def eqU (x : V) (u : Value) : Bool := match u with
  | .none => eqV .non x
  | .bool b => eqV (.bl b) x
  | .int i _ => eqV (.int i) x
  | .str z _ => eqV (.str z) x
  | _ => false
theorem eqU_of {x y : V} {u : Value} (r : RelV y u) (f : flatV y = true) : eqU x u = eqV y x := by
  cases y with
  | non => cases r; rfl
  | bl b => cases r; rfl
  | int i => obtain ⟨t, rfl⟩ := r; rfl
  | str z => obtain ⟨t, rfl⟩ := r; rfl
  | _ => exact absurd (show false = true from f) Bool.false_ne_true
theorem any_eqU {x : V} : ∀ {xs : List V} {us : List Value}, Vals xs us → xs.all flatV = true → us.any (eqU x) = xs.any fun y => eqV y x
  | _, _, .nil, _ => rfl
  | y :: xs, u :: us, .cons r t, f => by
    rw [List.all_cons, Bool.and_eq_true] at f
    rw [List.any_cons, List.any_cons, eqU_of r f.1, any_eqU t f.2]
theorem mem_eqAt {A : Around} {s : Shared} {x : V} {v : Value} (rx : RelV x v) (fx : flatV x = true) : ∀ {xs : List V} {us : List Value}, Vals xs us → xs.all flatV = true → ∀ u ∈ us, SeqAt.EqAt A s u v (eqU x u)
  | _, _, .nil, _ => fun u hu => by cases hu
  | y :: xs, u :: us, .cons r t, f => fun u' hu => by
    rw [List.all_cons, Bool.and_eq_true] at f
    rcases List.mem_cons.mp hu with rfl | hu
    · rw [eqU_of r f.1]; exact eqAt_V r rx f.1 fx
    · exact mem_eqAt rx fx t f.2 u' hu
def inV (x : V) (xs : List V) : Bool := xs.any fun y => eqV y x
def rIn (K : PySem.W.Frag) (neg : Bool) : R2 := fun x y H Q => ∃ p xs, y = .ref p ∧ (SqL K H p xs ∨ SqT K H p xs) ∧ flatV x = true ∧ xs.all flatV = true ∧ Q (.bl (if neg then !inV x xs else inV x xs)) H
theorem op_in_seq : OpR X (compareOp .In) (rIn X.K false) := by
  intro pins s σ H x y v u Q I rx ry h
  obtain ⟨p, xs, rfl, hq, fx, fs, q⟩ := h
  cases ry
  rcases hq with hq | hq
  · obtain ⟨its, r, pl, hz⟩ := I.list hq
    refine SeqAt.in_listAt (eqU x) pl.isList (fun w hw => mem_eqAt rx fx r fs w (by simpa using hw)) ⟨.bl _, H, I, rfl, ?_⟩
    rw [show its.toArray.any (eqU x) = its.any (eqU x) by simp, any_eqU r fs]
    exact q
  · obtain ⟨its, r, pl, hz⟩ := I.tuple hq
    refine SeqAt.in_tupleAt (eqU x) pl (fun w hw => mem_eqAt rx fx r fs w (by simpa using hw)) ⟨.bl _, H, I, rfl, ?_⟩
    rw [show its.toArray.any (eqU x) = its.any (eqU x) by simp, any_eqU r fs]
    exact q
theorem op_notIn_seq : OpR X (compareOp .NotIn) (rIn X.K true) := by
  intro pins s σ H x y v u Q I rx ry h
  obtain ⟨p, xs, rfl, hq, fx, fs, q⟩ := h
  cases ry
  rcases hq with hq | hq
  · obtain ⟨its, r, pl, hz⟩ := I.list hq
    refine SeqAt.notIn_listAt (eqU x) pl.isList (fun w hw => mem_eqAt rx fx r fs w (by simpa using hw)) ⟨.bl _, H, I, rfl, ?_⟩
    rw [show its.toArray.any (eqU x) = its.any (eqU x) by simp, any_eqU r fs]
    exact q
  · obtain ⟨its, r, pl, hz⟩ := I.tuple hq
    refine SeqAt.notIn_tupleAt (eqU x) pl (fun w hw => mem_eqAt rx fx r fs w (by simpa using hw)) ⟨.bl _, H, I, rfl, ?_⟩
    rw [show its.toArray.any (eqU x) = its.any (eqU x) by simp, any_eqU r fs]
    exact q
theorem call_len_seq : CallR X (.builtin "len") (fun xs H Q => ∃ p ys, xs = [.ref p] ∧ (SqL X.K H p ys ∨ SqT X.K H p ys) ∧ Q (.int ys.length) H) := by
  intro pins s σ H xs us Q I r h
  obtain ⟨p, ys, rfl, hq, q⟩ := h
  obtain ⟨u, rfl, rx⟩ := vals1 r
  cases rx
  have hn := line63
  rcases hq with hq | hq
  · obtain ⟨its, r', pl, hz⟩ := I.list hq
    have hlen := r'.length
    exact Calls.call_len_list pl.isList (by simp only [List.size_toArray] <;> omega) ⟨.int ys.length, H, I.tok _, ⟨s.toks + 1, by rw [List.size_toArray, hlen]⟩, q⟩
  · obtain ⟨its, r', pl, hz⟩ := I.tuple hq
    have hlen := r'.length
    exact len_tuple pl (by simp only [List.size_toArray] <;> omega) ⟨.int ys.length, H, I.tok _, ⟨s.toks + 1, by rw [List.size_toArray, hlen]⟩, q⟩
theorem call_list_of : CallR X (.type "list") (fun xs H Q => ∃ p ys, xs = [.ref p] ∧ (SqL X.K H p ys ∨ SqT X.K H p ys) ∧ ∀ l, H l = none → Q (.ref l) (upd H l (.lst ys))) := by
  intro pins s σ H xs us Q I r h
  obtain ⟨p, ys, rfl, hq, q⟩ := h
  obtain ⟨u, rfl, rx⟩ := vals1 r
  cases rx
  have fin : ∀ (its : List Value), Vals ys its → ys.length ≤ sizeLine → ∀ (h' : Heap) (c' : Nat), (∀ b o', s.heap.get? b = some o' → h'.get? b = some o') →
      h'.get? s.heap.objs.size = some { cls := .type "list", dict := none, data := .seq its.toArray c', slots := #[] } → EP X pins σ Q (.ref s.heap.objs.size) { s with heap := h' } := fun its r' hz h' c' kp e =>
    ⟨.ref s.heap.objs.size, _, I.laid (t' := s.toks) kp (Nat.le_refl _) (show ObjOk X.prog X.w _ h' _ (.lst ys) from ⟨hz, its, c', r', e⟩), rfl, q _ (I.hok.fresh (Nat.le_refl _))⟩
  rcases hq with hq | hq
  · obtain ⟨its, r', pl, hz⟩ := I.list hq
    have hlen := r'.length
    obtain ⟨o, ho, hc, n, hd⟩ := pl.isList
    exact call_list_seq p (.inl rfl) ho hc hd (fun h' c' kp e => fin its r' hz h' c' kp e) (by simp only [List.size_toArray] <;> omega)
  · obtain ⟨its, r', pl, hz⟩ := I.tuple hq
    have hlen := r'.length
    obtain ⟨o, ho, hc, n, hd⟩ := pl
    exact call_list_seq p (.inr rfl) ho hc hd (fun h' c' kp e => fin its r' hz h' c' kp e) (by simp only [List.size_toArray] <;> omega)
theorem call_tuple_of : CallR X (.type "tuple") (fun xs H Q => ∃ p ys, xs = [.ref p] ∧ ((SqL X.K H p ys ∧ ∀ l, H l = none → Q (.ref l) (upd H l (.tup ys))) ∨ (SqT X.K H p ys ∧ Q (.ref p) H))) := by
  intro pins s σ H xs us Q I r h
  obtain ⟨p, ys, rfl, h⟩ := h
  obtain ⟨u, rfl, rx⟩ := vals1 r
  cases rx
  rcases h with ⟨hq, q⟩ | ⟨hq, q⟩
  · obtain ⟨its, r', pl, hz⟩ := I.list hq
    have hlen := r'.length
    refine call_tuple_list pl.isList (fun h' kp => ?_) (by simp only [List.size_toArray] <;> omega)
    have I1 : Inv X pins σ H { s with heap := h' } := I.kept (t' := s.toks) kp
    have I2 : Inv X pins σ (upd H h'.objs.size (.tup ys)) { s with heap := h'.push { cls := .type "tuple", data := .seq its.toArray } } :=
      I1.laid (t' := s.toks) (fun b o e => Heap.get?_push_of_some _ e) (Nat.le_refl _) (show ObjOk X.prog X.w _ _ _ (.tup ys) from ⟨hz, its, r', IsTup.new _ _, tup_nodict⟩)
    exact ⟨.ref h'.objs.size, _, I2, rfl, q _ (I1.hok.fresh (Nat.le_refl _))⟩
  · obtain ⟨its, r', pl, hz⟩ := I.tuple hq
    exact call_tuple_same pl ⟨.ref p, H, I, rfl, q⟩
def tyV (K : PySem.W.Frag) (T : String) (x : V) (H : Hp) : Prop := match x with
  | .str _ => T = "str"
  | .int _ => T = "int"
  | .ref p => (T = "list" ∧ ∃ xs, SqL K H p xs) ∨ (T = "tuple" ∧ ∃ o, K.lookup p = some o ∧ o.cls = .type "tuple" ∧ o.dict = none) ∨
      (T = "dict" ∧ ((∃ kvs, H p = some (.dK kvs)) ∨ ∃ kvs, H p = some (.dT kvs))) ∨ (T = "set" ∧ ∃ S n, H p = some (.set S n))
  | _ => False
theorem tyV_is {pins : List (Addr × Obj)} {σ : St} {H : Hp} {s : Shared} {T : String} {x : V} {v : Value} (I : Inv X pins σ H s) (r : RelV x v) (ty : tyV X.K T x H) :
    s.TypeIs v T ∧ ∀ a, v = .ref a → ∃ ob, s.heap.get? a = some ob ∧ ob.dict = none := by
  cases x with
  | str z =>
    obtain ⟨t, rfl⟩ := r
    cases (show T = "str" from ty)
    exact ⟨typeIs_str s z t, fun _ e => nomatch e⟩
  | int i =>
    obtain ⟨t, rfl⟩ := r
    cases (show T = "int" from ty)
    exact ⟨typeIs_int s i t, fun _ e => nomatch e⟩
  | ref p =>
    cases r
    rcases ty with ⟨rfl, xs, hq⟩ | ⟨rfl, o, hk, hc, hd⟩ | ⟨rfl, hk⟩ | ⟨rfl, S, n, hk⟩
    · obtain ⟨its, _, pl, _⟩ := I.list hq
      refine ⟨pl.isList.typeIs, fun a e => ?_⟩
      cases e
      obtain ⟨o, n, e, c, hd, _⟩ := pl
      exact ⟨o, e, hd⟩
    · refine ⟨⟨o, I.kIn p o hk, hc⟩, fun a e => ?_⟩
      cases e
      exact ⟨o, I.kIn _ o hk, hd⟩
    · have z : ∃ o, s.heap.get? p = some o ∧ o.ExactDict := by
        rcases hk with ⟨kvs, hk⟩ | ⟨kvs, hk⟩
        · obtain ⟨_, _, _, _, o, _, _, e, ex, _⟩ := I.hok p _ hk
          exact ⟨o, e, ex⟩
        · obtain ⟨_, _, _, _, o, _, _, e, ex, _⟩ := I.hok p _ hk
          exact ⟨o, e, ex⟩
      obtain ⟨o, e, ex⟩ := z
      refine ⟨⟨o, e, ex.1⟩, fun a e2 => ?_⟩
      cases e2
      exact ⟨o, e, ex.2.1⟩
    · obtain ⟨o, _, _, _, e, ex, _⟩ := I.hok p _ hk
      refine ⟨⟨o, e, ex.1⟩, fun a e2 => ?_⟩
      cases e2
      exact ⟨o, e, ex.2.1⟩
  | _ => exact False.elim ty
def tBM0 (K : PySem.W.Frag) (T : String) (r : V → List V → Hp → VK → Prop) (to : TE) : TE := fun σ H Q => to σ H fun x H1 => tyV K T x H1 ∧ r x [] H1 Q
def tBM (K : PySem.W.Frag) (T : String) (r : V → List V → Hp → VK → Prop) (to : TE) (t : TA) : TE := fun σ H Q => to σ H fun x H1 => tyV K T x H1 ∧ t σ H1 fun xs H2 => r x xs H2 Q
variable {o e : Expr} {es : List Expr} {to : TE} {t : TA} {name : Str} {apos cpos : Pos} {T id : String} {r : V → List V → Hp → VK → Prop}
theorem pe_bm0 (pa : PlainAttrs T) (slot : Slot T name id) (hty : typeOf (.builtin id) = pure (.type "method_descriptor")) (hm : MtR X id r) (ho : PE X o to)
    (hbase : attributeBase o name X.env (eval o X.env) = eval o X.env := by rfl) (hline : (apos.endLine == cpos.line) = true := by rfl) : PE X (.Call (.Attribute o name apos) [] [] cpos) (tBM0 X.K T r to) := by
  intro pins s σ H Q I h
  refine wpAny_Call_method0_late hbase hline (thn (ho pins s σ H _ I h) fun v s1 ⟨x, H1, I1, r1, ty, q1⟩ => ?_)
  obtain ⟨h1, h2⟩ := tyV_is I1 r1 ty
  exact ⟨T, id, pa, slot, hty, h1, h2, Calls.callWith_builtin rfl (PySem.evalArgs_none (hm pins s1 σ H1 x [] v [] Q I1 r1 .nil q1))⟩
theorem pe_bm (pa : PlainAttrs T) (slot : Slot T name id) (hty : typeOf (.builtin id) = pure (.type "method_descriptor")) (hm : MtR X id r) (ho : PE X o to) (ha : PA X (e :: es) t)
    (hbase : attributeBase o name X.env (eval o X.env) = eval o X.env := by rfl)
    (hfew : ((backTo cpos (starEach (e :: es) X.env)).all (fun x => !x.1) && (backToKw cpos (keywordEach [] X.env)).all (fun x => x.1.isSome)
      && decide ((e :: es).length + ([] : List Keyword).length + (if ([] : List Keyword).isEmpty then 0 else 1) < 30)) = true := by rfl)
    (hline : (apos.endLine == cpos.line) = true := by rfl) (hs : starEach (e :: es) X.env = (false, eval e X.env) :: starEach es X.env := by rfl) (hplain : (backTo cpos (starEach es X.env)).any (·.1) = false := by rfl) :
    PE X (.Call (.Attribute o name apos) (e :: es) [] cpos) (tBM X.K T r to t) := by
  intro pins s σ H Q I h
  refine wpAny_Call_method_late hbase hfew hline rfl (thn (ho pins s σ H _ I h) fun v s1 ⟨x, H1, I1, r1, ty, q1⟩ => ?_)
  obtain ⟨h1, h2⟩ := tyV_is I1 r1 ty
  refine ⟨T, id, pa, slot, hty, h1, h2, ?_⟩
  have hA := ha cpos pins s1 σ H1 _ I1 q1
  rw [hs] at hA ⊢
  refine Calls.callWith_builtin (by show (false || (backTo cpos (starEach es X.env)).any (·.1)) = false; rw [hplain] <;> rfl) (Calls.evalArgs_plain ?_)
  exact thn hA fun us s2 ⟨vs, H2, I2, r2, q2⟩ => hm pins s2 σ H2 x vs v us Q I2 r1 r2 q2
end
end L2
namespace L2
open PySem PySem.Spec PyProof.Rows
def MtM (X : Cx) (id : String) (r : V → List V → Hp → VK → Prop) : Prop :=
  ∀ (pins : List (Addr × Obj)) (s : Shared) (σ : St) (H : Hp) (x : V) (xs : List V) (v : Value) (us : List Value) (Q : VK), Inv X pins σ H s → RelV x v → Vals xs us → r x xs H Q →
    wpAny (model X.prog X.w) X.A (call (.builtin id) (v :: us)) (EP X pins σ Q) X.xe s
theorem Vals.one : ∀ {x : V} {us : List Value}, Vals [x] us → ∃ u, us = [u] ∧ RelV x u
  | _, _, .cons r .nil => ⟨_, rfl, r⟩
theorem Vals.zero : ∀ {us : List Value}, Vals [] us → us = []
  | _, .nil => rfl
theorem Vals.eraseIdx : ∀ {xs : List V} {us : List Value} (i : Nat), Vals xs us → Vals (xs.eraseIdx i) (us.eraseIdx i)
  | _, _, _, .nil => .nil
  | _, _, 0, .cons _ t => t
  | _, _, i + 1, .cons r t => .cons r (Vals.eraseIdx i t)
theorem Vals.reverse {xs : List V} {us : List Value} (h : Vals xs us) : Vals xs.reverse us.reverse := by
  induction h with
  | nil => exact .nil
  | cons r t ih => rw [List.reverse_cons, List.reverse_cons]; exact Vals.append ih (.cons r .nil)
theorem Vals.rep {xs : List V} {us : List Value} (h : Vals xs us) : ∀ k : Nat, Vals (List.replicate k xs).flatten (List.replicate k us).flatten
  | 0 => .nil
  | k + 1 => by
    rw [List.replicate_succ, List.replicate_succ, List.flatten_cons, List.flatten_cons]
    exact Vals.append h (Vals.rep h k)
theorem len_erase {α : Type} : ∀ (l : List α) (i : Nat), (l.eraseIdx i).length ≤ l.length
  | [], _ => Nat.le_refl _
  | _ :: _, 0 => Nat.le_succ _
  | _ :: r, i + 1 => Nat.succ_le_succ (len_erase r i)
theorem foldl_rep (its : List Value) : ∀ (k : Nat) (acc : List Value),
    List.foldl (fun x1 x2 => x1 ++ x2) acc.toArray (List.replicate k its.toArray) = (acc ++ (List.replicate k its).flatten).toArray
  | 0, acc => by simp
  | k + 1, acc => by
    have e : acc.toArray ++ its.toArray = (acc ++ its).toArray := by simp
    have e2 : (acc ++ its) ++ (List.replicate k its).flatten = acc ++ (List.replicate (k + 1) its).flatten := by
      rw [List.replicate_succ, List.flatten_cons, List.append_assoc]
    rw [← e2, ← foldl_rep its k (acc ++ its), ← e, List.replicate_succ, List.foldl_cons]
section
variable {X : Cx} {pins : List (Addr × Obj)} {σ : St} {H : Hp} {s : Shared} {l b : Addr} {xs ys zs : List V}
theorem Inv.lset {its its' : List Value} {n : Nat} {f : Array Value → Array Value} {t' : Nat} (I : Inv X pins σ H s) (hH : H l = some (.lst xs))
    (e : s.heap.get? l = some { cls := .type "list", data := .seq its.toArray n }) (hf : f its.toArray = its'.toArray) (hv : Vals ys its') (hz : ys.length ≤ sizeLine) :
    Inv X pins σ (upd H l (.lst ys)) { s with heap := s.heap.update l (Obj.mapSeq f), toks := t' } := by
  have q := PySem.IsL.update e f
  rw [hf] at q
  refine I.write (x := l) (e := l) (by rw [hH]; exact trivial) (.inl rfl) (fun b' u hb hu => (Heap.get?_update_other s.heap (Obj.mapSeq f) (Ne.symm hb)).trans hu) ⟨_, q⟩ ?_
  exact ⟨hz, its', _, hv, q⟩
theorem Inv.lnew {its : List Value} {t' : Nat} (I : Inv X pins σ H s) (hv : Vals ys its) (hz : ys.length ≤ sizeLine) :
    Inv X pins σ (upd H s.heap.objs.size (.lst ys)) { s with heap := s.heap.push { cls := .type "list", data := .seq its.toArray }, toks := t' } :=
  I.laid (fun _ _ q => Heap.get?_push_of_some _ q) (Nat.le_refl _) ⟨hz, its, 0, hv, Heap.get?_push_size _ rfl⟩
theorem Inv.fresh (I : Inv X pins σ H s) : H s.heap.objs.size = none := I.hok.fresh (Nat.le_refl _)
theorem Inv.lstM (I : Inv X pins σ H s) (hH : H l = some (.lst xs)) : xs.length ≤ sizeLine ∧ ∃ (its : List Value) (n : Nat), Vals xs its ∧ xs.length = its.length ∧ s.heap.get? l = some { cls := .type "list", data := .seq its.toArray n } := by
  obtain ⟨z, its, n, r, e⟩ := I.hok l _ hH
  exact ⟨z, its, n, r, r.length, e⟩
theorem notLongL {n : Nat} (h : n ≤ sizeLine) : Builtin.List.listTooLong n = false := by
  unfold Builtin.List.listTooLong
  exact decide_eq_false (by omega)
end
section
variable {X : Cx}
def rAppend : V → List V → Hp → VK → Prop := fun x vs H Q => ∃ l xs y, x = .ref l ∧ vs = [y] ∧ H l = some (.lst xs) ∧ xs.length < sizeLine ∧ Q .non (upd H l (.lst (xs ++ [y])))
theorem mt_append : MtM X "list.append" rAppend := by
  intro pins s σ H x vs v us Q I rx rv h
  obtain ⟨l, xs, y, rfl, rfl, hH, hz, q⟩ := h
  cases rx
  obtain ⟨u, rfl, ru⟩ := rv.one
  obtain ⟨z, its, n, r, hl, e⟩ := I.lstM hH
  refine call_meets F.slot_list_append ⟨_, e, rfl⟩ F.entry_list_append (F.args_list_append_2 _ _) (PySem.list_append l its.toArray n u (by rw [List.size_toArray]; omega)) ⟨e, ?_⟩
  refine ⟨.non, _, I.lset (its' := its ++ [u]) hH e (by simp) (r.append (.cons ru .nil)) ?_, rfl, q⟩
  rw [List.length_append, List.length_singleton]
  omega
def rExtend : V → List V → Hp → VK → Prop := fun x vs H Q => ∃ l b xs zs, x = .ref l ∧ vs = [.ref b] ∧ H l = some (.lst xs) ∧ H b = some (.lst zs) ∧ xs.length + zs.length ≤ sizeLine ∧ Q .non (upd H l (.lst (xs ++ zs)))
theorem mt_extend : MtM X "list.extend" rExtend := by
  intro pins s σ H x vs v us Q I rx rv h
  obtain ⟨l, b, xs, zs, rfl, rfl, hH, hB, hz, q⟩ := h
  cases rx
  obtain ⟨u, rfl, ru⟩ := rv.one
  cases ru
  obtain ⟨z, its, n, r, hl, e⟩ := I.lstM hH
  obtain ⟨z2, its2, n2, r2, hl2, e2⟩ := I.lstM hB
  have hsz : its.toArray.size + its2.toArray.size ≤ sizeLine := by rw [List.size_toArray, List.size_toArray]; omega
  have hlong : ¬ (!its.toArray.isEmpty && Builtin.List.listTooLong (its.toArray.size + its2.toArray.size)) = true := by
    rw [notLongL hsz, Bool.and_false]
    exact Bool.false_ne_true
  refine call_meets F.slot_list_extend ⟨_, e, rfl⟩ F.entry_list_extend (F.args_list_extend_2 _ _)
    (AutoSeq1.list_extend_list_list_0 l its.toArray n b its2.toArray n2 hlong (by rw [List.size_toArray]; omega) (by omega)) ⟨e, e2, ?_⟩
  refine ⟨.non, _, I.lset (its' := its ++ its2) hH e (by simp) (r.append r2) ?_, rfl, q⟩
  rw [List.length_append]
  omega
def rPopAt : V → List V → Hp → VK → Prop := fun x vs H Q => ∃ l xs i k y, x = .ref l ∧ vs = [.int i] ∧ H l = some (.lst xs) ∧ -(2 ^ 63) ≤ i ∧ i < 2 ^ 63 ∧ seqIndex? i xs.length = some k ∧ xs[k]? = some y ∧ Q y (upd H l (.lst (xs.eraseIdx k)))
theorem mt_popAt : MtM X "list.pop" rPopAt := by
  intro pins s σ H x vs v us Q I rx rv h
  obtain ⟨l, xs, i, k, y, rfl, rfl, hH, h1, h2, hk, hy, q⟩ := h
  cases rx
  obtain ⟨u, rfl, ru⟩ := rv.one
  obtain ⟨t, rfl⟩ := ru
  obtain ⟨z, its, n, r, hl, e⟩ := I.lstM hH
  obtain ⟨w, hw, rw'⟩ := r.get hy
  refine call_meets F.slot_list_pop ⟨_, e, rfl⟩ F.entry_list_pop (F.args_list_pop_2 _ _)
    (MeetsSeq.list_pop_at l its.toArray n i t k w (fitsIndex_both h1 h2) (by rw [List.size_toArray, ← hl]; exact hk) (by rw [← Array.getElem?_toList]; exact hw) (by rw [List.size_toArray]; omega)) ⟨e, ?_⟩
  refine ⟨y, _, I.lset (its' := its.eraseIdx k) hH e ?_ (r.eraseIdx k) ?_, rw', q⟩
  · show its.toArray.eraseIdxIfInBounds k = (its.eraseIdx k).toArray
    rw [List.eraseIdxIfInBounds_toArray]
  · have := len_erase xs k
    omega
def rClear : V → List V → Hp → VK → Prop := fun x vs H Q => ∃ l xs, x = .ref l ∧ vs = [] ∧ H l = some (.lst xs) ∧ Q .non (upd H l (.lst []))
theorem mt_clear : MtM X "list.clear" rClear := by
  intro pins s σ H x vs v us Q I rx rv h
  obtain ⟨l, xs, rfl, rfl, hH, q⟩ := h
  cases rx
  have hus := rv.zero
  subst hus
  obtain ⟨z, its, n, r, hl, e⟩ := I.lstM hH
  refine call_meets F.slot_list_clear ⟨_, e, rfl⟩ F.entry_list_clear (F.args_list_clear_1 _) (AutoSeq1.list_clear_list_0 l its.toArray n (by rw [List.size_toArray]; omega)) ⟨e, ?_⟩
  exact ⟨.non, _, I.lset (its' := []) (ys := []) hH e rfl .nil (Nat.zero_le _), rfl, q⟩
def rCat : R2 := fun x y H Q => ∃ l b xs zs, x = .ref l ∧ y = .ref b ∧ H l = some (.lst xs) ∧ H b = some (.lst zs) ∧ xs.length + zs.length ≤ sizeLine ∧ ∀ p, H p = none → Q (.ref p) (upd H p (.lst (xs ++ zs)))
theorem op_cat : OpR X (binaryOp .Add) rCat := by
  intro pins s σ H x y v u Q I rx ry h
  obtain ⟨l, b, xs, zs, rfl, rfl, hH, hB, hz, q⟩ := h
  cases rx
  cases ry
  obtain ⟨z, its, n, r, hl, e⟩ := I.lstM hH
  obtain ⟨z2, its2, n2, r2, hl2, e2⟩ := I.lstM hB
  refine PySem.P.add_list e e2 ?_ (by rw [List.size_toArray, List.size_toArray]; omega)
  have ea : its.toArray ++ its2.toArray = (its ++ its2).toArray := by simp
  rw [ea]
  exact ⟨.ref _, _, I.lnew (t' := s.toks) (r.append r2) (by rw [List.length_append]; omega), rfl, q _ I.fresh⟩
def rRep : R2 := fun x y H Q => ∃ l k xs, x = .ref l ∧ y = .int k ∧ H l = some (.lst xs) ∧ -(2 ^ 63) ≤ k ∧ k < 2 ^ 63 ∧ xs.length * k.toNat ≤ sizeLine ∧
  ∀ p, H p = none → Q (.ref p) (upd H p (.lst (List.replicate k.toNat xs).flatten))
theorem len_rep {α : Type} (xs : List α) (k : Nat) : (List.replicate k xs).flatten.length = k * xs.length := by
  induction k with
  | zero => simp
  | succ k ih => rw [List.replicate_succ, List.flatten_cons, List.length_append, ih, Nat.succ_mul, Nat.add_comm]
theorem op_rep : OpR X (binaryOp .Mult) rRep := by
  intro pins s σ H x y v u Q I rx ry h
  obtain ⟨l, k, xs, rfl, rfl, hH, h1, h2, hz, q⟩ := h
  cases rx
  obtain ⟨t, rfl⟩ := ry
  obtain ⟨z, its, n, r, hl, e⟩ := I.lstM hH
  have hlen : its.toArray.size * k.toNat ≤ sizeLine := by rw [List.size_toArray, ← hl]; exact hz
  have hcap : ¬ its.toArray.size * k.toNat > (2 ^ 63 - 1) / 8 := by
    have : (sizeLine : Nat) ≤ (2 ^ 63 - 1) / 8 := by decide
    omega
  have hfit : ¬ (!Builtin.List.listFitsIndex k) = true := by
    rw [fitsIndex_both h1 h2]
    exact Bool.false_ne_true
  have hlong : ¬ Builtin.List.listTooLong (its.toArray.size * k.toNat) = true := by
    rw [notLongL hlen]
    exact Bool.false_ne_true
  have hnew : List.foldl (fun x1 x2 => x1 ++ x2) #[] (List.replicate (if its.toArray.isEmpty = true then 0 else k.toNat) its.toArray) = (List.replicate k.toNat its).flatten.toArray := by
    have f0 : ∀ m : Nat, List.foldl (fun x1 x2 => x1 ++ x2) #[] (List.replicate m its.toArray) = (List.replicate m its).flatten.toArray := fun m => by
      have := foldl_rep its m []
      rw [List.nil_append] at this
      exact this
    rw [f0]
    cases its with
    | nil => simp
    | cons a r' => rw [if_neg (by simp)]
  refine wpAny_binaryOp_repeat_ref (T := "list") (U := "int") (by decide) ⟨_, e, rfl⟩ (fun s' => typeIs_int s' k t) noFill_list_mul F.fills_int_mul F.slot_int_rmul repeat_list F.slot_int_index.lookup
    (call_meets F.slot_int_rmul (typeIs_int s k t) F.entry_int_rmul (F.args_int_rmul_2 _ _) (int___rmul___int_list k t l its.toArray n)
      ⟨e, rfl, ⟨_, e, rfl⟩, call_meets F.slot_list_mul ⟨_, e, rfl⟩ F.entry_list_mul (F.args_list_mul_2 _ _) (AutoListH.list___mul___list_int_3 l its.toArray n k t hfit hcap hlong) ⟨e, ?_⟩⟩)
  rw [hnew]
  exact ⟨.ref _, _, I.lnew (t' := s.toks) (r.rep k.toNat) (by rw [len_rep, Nat.mul_comm]; exact hz), rfl, q _ I.fresh⟩
end
section
variable {prog : Program} {w : World} {A : Around} {E : Value → Shared → Prop} {s : Shared}
end
section
variable {X : Cx}
end
end L2
namespace Att
open PySem PySem.W PySem.Calls PyProof.Rows
theorem ints_of_wellAll {P : Params} {h : Heap} : ∀ (ns : List Int) (vs : List Value), WellAll P h vs (ns.map WData.int) → IntsAre vs ns := by
  intro ns
  induction ns with
  | nil =>
    intro vs w
    rw [List.map_nil] at w
    cases w
    exact .nil
  | cons n ns ih =>
    intro vs w
    rw [List.map_cons] at w
    cases w with
    | cons a b =>
      cases a
      exact .cons _ _ (ih _ b)
theorem script_of {l : OpenLaw} {n : Nat} (hn : l.most = some n) {P : Params} {h : Heap} {args : List WData} {vals : List Value}
    (hpre : l.row.toRowW.claim.pre args = true) (hwl : WellAll P h vals args) :
    ∃ a vs ns, vals = [Value.ref a] ∧ args = [WData.list (ns.map WData.int)] ∧ h.get? a = some { cls := .type "list", data := .seq vs.toArray } ∧ IntsAre vs ns ∧ ns.length ≤ n := by
  have hsh : WShape.hasAll [] args [.list .int] = true := (pre_splitW hpre).1
  have hc : l.pre.holds [] { args := args } = true := (pre_splitW hpre).2
  obtain ⟨d, r, rfl, h1, h2⟩ := hasAllW_cons hsh
  obtain rfl := hasAllW_nil h2
  obtain ⟨xs, rfl, h3⟩ := hasW_list h1
  obtain ⟨ns, rfl⟩ := items_int h3
  have hlen : ns.length ≤ n := by
    unfold OpenLaw.pre at hc
    have h4 : (WTm.not (.lt (.lit (.int (n : Int))) (.len (.arg 0)))).holds [] { args := [.list (ns.map .int)] } = true := by
      have h4 := (holds_andW hc).1
      rw [hn] at h4
      exact h4
    have h5 := condW_of h4 (w_not (w_lt w_lit (w_len_list (w_arg rfl))))
    rw [List.length_map] at h5
    refine Nat.le_of_not_lt fun q => ?_
    have q' : (n : Int) < ((ns.length : Nat) : Int) := by omega
    first
      | (rw [decide_eq_true q'] at h5; exact absurd h5 (by decide))
      | (simp at h5; omega)
  cases hwl with
  | cons w1 w2 =>
    cases w2
    cases w1 with
    | list ho hall => exact ⟨_, _, ns, rfl, rfl, ho, ints_of_wellAll ns _ hall, hlen⟩
theorem post_true (l : OpenLaw) (args : List WData) : l.row.toRowW.claim.post args (.bool true) args = true :=
  postW_of (r := l.row.toRowW) (X := (true == true))
    (show WShape.has [] (.bool true) .bool = true by first | rfl | decide | simp [WShape.has, WShape.arms, WShape.armsAll])
    (show (WTm.eq .res (.lit (.bool true))).value [] { args := args, res := some (.bool true), after := args } = some (.bool (true == true)) from w_eq_bool (w_res rfl) w_lit) rfl
theorem attach_call {l : OpenLaw} {n : Nat} {q : Program} {loose : List Str} {XP : (Str → Option Value) → Heap → Prop} {YP : World → Heap → Prop} {d : DefRec}
    (hn : l.most = some n) (hdf : d.params.defaults = [])
    (call : ∀ (w : World) (s₀ s₁ : Shared) (mg mb : Str → Option Value) (fa : Addr) (o : Obj) (pm cd doc : Value) (a : Addr) (vs : List Value) (ns : List Int),
      Ground q loose [] XP w s₀ mg mb s₁.heap → YP w s₁.heap →
      s₁.heap.get? fa = some o → o.data = .func (docDef d.name d.params d.body d.scope pm cd doc) → s₁.heap.CodeRec cd d.name → mg d.name = some (.ref fa) →
      s₁.heap.get? a = some { cls := .type "list", data := .seq vs.toArray } → IntsAre vs ns → ns.length ≤ n → s₁.gens = #[] →
      codeAny (model l.prog w) callerA (.call (.ref fa) ⟨[.ref a], []⟩) (fun r s' => r = .ok (.ret (.bool true)) ∧ OldK s₁.heap s'.heap ∧ s'.os = s₁.os ∧ AllBare s'.gens) s₁) :
    WalkO q loose XP YP l.row.toRowW d [] (fun f vs => PySem.call f vs) := by
  intro w s₀ s₁ mg mb G Y fa o pm cd doc dV kV ho hd hcd hD hmg hg args vals as hpre hlay hrd hwl hlo
  obtain rfl : dV = .none := Dflts.none hD hdf
  obtain rfl : kV = .none := Dflts.noKw hD
  obtain ⟨a, vs, ns, rfl, rfl, hobj, hints, hlen⟩ := script_of hn hpre hwl
  refine enter_call (codeAny_mono (call w s₀ s₁ mg mb fa o pm cd doc a vs ns G Y ho (fd_plain hd) hcd hmg hobj hints hlen hg) fun r s' hq => ?_)
  obtain ⟨rfl, h2, h3, h4⟩ := hq
  exact ⟨.inl ⟨.bool true, .bool true, [], rfl, fun _ => rfl, .bool true, post_true l _, fun _ => ⟨List.Pairwise.nil, fun _ hm => (nomatch hm)⟩⟩, h2, h3, h4⟩
section
variable {prog : Program} {w : World} {A : Around} {E : Value → Shared → Prop} {s : Shared} {K : Frag}
end
end Att
namespace L2
open PySem PySem.Spec PyProof.Rows
theorem vals_ints : ∀ {vs : List Value} {ns : List Int}, IntsAre vs ns → Vals (ns.map V.int) vs
  | _, _, .nil => .nil
  | _, _, .cons n t h => .cons ⟨t, rfl⟩ (vals_ints h)
def Only (H : Hp) : Prop := ∀ b, H b = none ∨ ∃ o xs, H b = some (.frz o (.lst xs))
theorem law_call {P : Program} {w : World} {K : PySem.W.Frag} {mg mb : Str → Option Value} {CX : CXT} {k : Nat} {fa a : Addr} {fd : FuncData} {x : Str} {sp : Sp} {s₁ : Shared} {vs : List Value} {ns : List Int}
    (KX : K.In s₁.heap) (hns : s₁.heap.Ns mainGlobals mg) (hb : s₁.heap.Ns builtinsNs mb) (hbb : ∀ x : Str, x ≠ "__name__" → mb x = bootBuiltins x) (hlim : s₁.heap.NoLimit) (hg : s₁.gens = #[])
    (ha : s₁.heap.get? a = some { cls := .type "list", data := .seq vs.toArray }) (hi : IntsAre vs ns) (hl : ns.length ≤ sizeLine) (hr : Room k callerA)
    (F : ∀ base : Heap, K.In base → base.Ns mainGlobals mg → FnOk P w K mg base CX k fa fd [x] sp) (hbind : ∀ (s : Shared) (u : Value), BindsTo s fd ⟨[u], []⟩ [(x, u)])
    (hsp : ∀ H : Hp, Only H → SqL K H a (ns.map V.int) → sp [.ref a] H (fun v _ => v = .bl true) fun _ _ _ => False)
    (hCX : ∀ H e s', CX [] H s₁ (fun _ _ _ => False) e s' → False) :
    codeAny (model P w) callerA (.call (.ref fa) ⟨[.ref a], []⟩) (fun r s' => r = .ok (.ret (.bool true)) ∧ OldK s₁.heap s'.heap ∧ s'.os = s₁.os ∧ AllBare s'.gens) s₁ := by
  have rv := vals_ints hi
  have lenV := hi.length
  -- from an abstract heap in which nothing but the script may be tracked
  have core : ∀ H : Hp, Only H → SqL K H a (ns.map V.int) → HOk P w H s₁.heap → (∀ b, H b ≠ none → b = a) → (H a ≠ none → K.lookup a = none) →
      codeAny (model P w) callerA (.call (.ref fa) ⟨[.ref a], []⟩) (fun r s' => r = .ok (.ret (.bool true)) ∧ OldK s₁.heap s'.heap ∧ s'.os = s₁.os ∧ AllBare s'.gens) s₁ := by
    intro H hO hS hok hA hK
    have base_of : ∀ {b : Addr} {o : Obj}, s₁.heap.get? b = some o → H b = none → (hidT s₁.heap H).get? b = some o := fun e n => hidT_get e n
    have noA : ∀ {b : Addr} {o : Obj} {es : Array DictEntry} {ep : Nat}, s₁.heap.get? b = some o → o.data = .dict es ep → H b = none := fun {b o es ep} e d => by
      cases q : H b with
      | none => rfl
      | some u =>
        have e' : b = a := hA b (by rw [q]; simp)
        subst e'
        rw [ha] at e; cases e
        have d' : Data.seq vs.toArray _ = Data.dict es ep := d
        cases d'
    have nsK : ∀ {b : Addr} {m : Str → Option Value}, s₁.heap.Ns b m → (hidT s₁.heap H).Ns b m := fun {b m} ⟨o, es, ep, e, d, r⟩ => ⟨o, es, ep, base_of e (noA e d), d, r⟩
    have hKb : K.In (hidT s₁.heap H) := fun b o e => base_of (KX b o e) (by
      cases q : H b with
      | none => rfl
      | some u =>
        have e' : b = a := hA b (by rw [q]; simp)
        subst e'
        rw [hK (by rw [q]; simp)] at e; cases e)
    have hM : Mod K mg (hidT s₁.heap H) := ⟨hKb, nsK hns, ⟨mb, nsK hb, hbb⟩, let ⟨mc, h1, h2⟩ := hlim; ⟨mc, nsK h1, h2⟩⟩
    have e0 : Env0 P w K mg (hidT s₁.heap H) callerA [] s₁ H := ⟨rfl, hM, fun b o e => of_hidT e, Nat.le_of_eq (hidT_size _ _), trivial, fun b hb => absurd (show b ∈ ([] : List Addr) from hb) (by simp), hok, .of_eq hg⟩
    refine codeAny_mono ((F _ hKb (nsK hns)).run callerA [] s₁ H ⟨[.ref a], []⟩ [.ref a] [.ref a] _ _ hr e0 (hbind s₁ (.ref a)) (.cons rfl .nil) (hsp H hO hS)) fun r s' h => ?_
    cases r with
    | error e => exact (hCX H e s' h).elim
    | ok fl =>
      cases fl with
      | next => exact False.elim h
      | brk => exact False.elim h
      | cont => exact False.elim h
      | ret u =>
        obtain ⟨v, H', os, bare, un, hok', r', q⟩ := h
        have q' : v = .bl true := q
        subst q'
        obtain rfl : u = Value.bool true := r'
        refine ⟨rfl, OldK.of_keep fun b o e => ?_, os, bare⟩
        cases q : H b with
        | none => exact un.keep b o e q (by intro z; exact absurd (show b ∈ ([] : List Addr) from z) (by simp)) (by simp)
        | some u =>
          rcases hO b with z | ⟨ob, xs, z⟩
          · rw [q] at z; cases z
          · have z2 := un.frzs b ob _ z
            obtain ⟨e1, _⟩ := hok b _ z
            obtain ⟨e2, _⟩ := hok' b _ z2
            rw [e] at e1; cases e1
            exact e2
  cases hk : K.lookup a with
  | some o =>
    -- the script is one of the module's own objects
    have e := KX a o hk
    rw [ha] at e
    cases e
    refine core (fun _ => none) (fun _ => .inl rfl) (.inr ⟨_, vs.toArray, _, hk, rfl, rfl, rfl, by rw [List.size_toArray, lenV]; exact hl, by simpa using rv⟩) (fun b u z => by have z' : (none : Option HO) = some u := z; cases z') (fun b z => absurd rfl z) fun z => absurd rfl z
  | none =>
    refine core (fun b => if b = a then some (.frz { cls := .type "list", data := .seq vs.toArray } (.lst (ns.map V.int))) else none) (fun b => ?_) (.inl (.inr ⟨{ cls := .type "list", data := .seq vs.toArray }, if_pos rfl⟩)) (fun b u z => ?_) (fun b z => ?_) fun _ => hk
    · by_cases hb : b = a
      · exact .inr ⟨_, _, if_pos hb⟩
      · exact .inl (if_neg hb)
    · by_cases hb : b = a
      · have z' := (if_pos hb).symm.trans z
        cases z'
        subst hb
        exact ⟨ha, by rw [List.length_map]; exact hl, vs, _, rv, ha⟩
      · have z' := (if_neg hb).symm.trans z
        cases z'
    · by_cases hb : b = a
      · exact hb
      · exact absurd (if_neg hb) z
end L2
namespace L2
open PySem PySem.Spec PyProof.Rows
abbrev KOf {K : PySem.W.Frag} {h : Heap} (_ : K.In h) : PySem.W.Frag := K
theorem walk_of {l : PySem.W.OpenLaw} {n k : Nat} {q : Program} {loose : List Str} {XP : (Str → Option Value) → Heap → Prop} {YP : World → Heap → Prop} {d : DefRec} {K : Params → PySem.W.Frag} {CX : World → CXT} {sp : World → Sp} {x : Str}
    (hn : l.most = some n) (hn2 : n ≤ sizeLine) (hdf : d.params.defaults = []) (hr : Room k callerA)
    (hY : ∀ (w : World) (h : Heap), YP w h → (K w.params).In h)
    (F : ∀ (w : World) (mg : Str → Option Value) (fa : Addr) (h : Heap), (K w.params).In h → h.Ns mainGlobals mg → mg d.name = some (.ref fa) →
      ∃ fd : FuncData, (∀ (s : Shared) (u : Value), BindsTo s fd ⟨[u], []⟩ [(x, u)]) ∧
        ∀ base : Heap, (K w.params).In base → base.Ns mainGlobals mg → FnOk l.prog w (K w.params) mg base (CX w) k fa fd [x] (sp w))
    (hsp : ∀ (w : World) (H : Hp) (a : Addr) (ns : List Int), ns.length ≤ n → Only H → SqL (K w.params) H a (ns.map V.int) → sp w [.ref a] H (fun v _ => v = .bl true) fun _ _ _ => False)
    (hCX : ∀ (w : World) (H : Hp) (s : Shared) (e : Value) (s' : Shared), CX w [] H s (fun _ _ _ => False) e s' → False) :
    PySem.W.WalkO q loose XP YP l.row.toRowW d [] (fun f vs => PySem.call f vs) := by
  refine Att.attach_call hn hdf fun w s₀ s₁ mg mb fa o pm cd doc a vs ns G Y ho hd hcd hmg hobj hints hlen hg => ?_
  have KX := hY w _ Y
  obtain ⟨fd, hb, hF⟩ := F w mg fa _ KX G.T.g hmg
  exact law_call KX G.T.g G.T.b G.T.builtins G.T.nolimit hg hobj hints (Nat.le_trans hlen hn2) hr hF hb (fun H hO hS => hsp w H a ns hlen hO hS) fun H e s' => hCX w H s₁ e s'
theorem walk_ofK {l : PySem.W.OpenLaw} {n k : Nat} {q : Program} {loose : List Str} {XP : (Str → Option Value) → Heap → Prop} {YP : World → Heap → Prop} {d : DefRec} {K : Params → PySem.W.Frag} {CX : CXT} {sp : PySem.W.Frag → Sp} {x : Str}
    (hn : l.most = some n) (hn2 : n ≤ sizeLine) (hdf : d.params.defaults = []) (hr : Room k callerA)
    (hY : ∀ (w : World) (h : Heap), YP w h → (K w.params).In h)
    (F : ∀ (w : World) (mg : Str → Option Value) (fa : Addr) (h : Heap), (K w.params).In h → h.Ns mainGlobals mg → mg d.name = some (.ref fa) →
      ∃ fd : FuncData, (∀ (s : Shared) (u : Value), BindsTo s fd ⟨[u], []⟩ [(x, u)]) ∧
        ∀ base : Heap, (K w.params).In base → base.Ns mainGlobals mg → FnOk l.prog w (K w.params) mg base CX k fa fd [x] (sp (K w.params)))
    (hsp : ∀ (K : PySem.W.Frag) (H : Hp) (a : Addr) (ns : List Int), ns.length ≤ n → Only H → SqL K H a (ns.map V.int) → sp K [.ref a] H (fun v _ => v = .bl true) fun _ _ _ => False)
    (hCX : ∀ (H : Hp) (s : Shared) (e : Value) (s' : Shared), CX [] H s (fun _ _ _ => False) e s' → False) :
    PySem.W.WalkO q loose XP YP l.row.toRowW d [] (fun f vs => PySem.call f vs) :=
  walk_of (K := K) (CX := fun _ => CX) (sp := fun w => sp (K w.params)) hn hn2 hdf hr hY F (fun w H a ns h1 h2 h3 => hsp (K w.params) H a ns h1 h2 h3) fun _ H s e s' => hCX H s e s'
end L2
namespace L2
open PySem PySem.Spec PyProof.Rows
def inClass (s : Stmt) (j : Nat) : Stmt := match s with
  | .ClassDef _ _ _ body _ _ _ _ _ _ _ => body.getD j (.Pass ⟨0, 0, 0, 0⟩)
  | _ => .Pass ⟨0, 0, 0, 0⟩
def defArgs (s : Stmt) : Arguments := match s with
  | .FunctionDef _ a _ _ _ _ _ _ _ _ => a
  | _ => { posonlyargs := [], args := [], vararg := none, kwonlyargs := [], kw_defaults := [], kwarg := none, defaults := [] }
def defBody (s : Stmt) : List Stmt := match s with
  | .FunctionDef _ _ b _ _ _ _ _ _ _ => b
  | _ => []
def defScope (s : Stmt) : Scope := match s with
  | .FunctionDef _ _ _ _ _ _ sc _ _ _ => sc
  | _ => { kind := .function, names := [], isGenerator := false, isCoroutine := false }
abbrev CX0 : CXT := fun _ _ _ _ _ _ => False
abbrev E0 : XK := fun _ _ _ => False
theorem pass0 {X : Cx} : Passes CX0 X E0 := fun _ _ _ _ _ _ _ h => h.elim
structure Fun (K : PySem.W.Frag) (x qual : Str) (st : Stmt) (f : Addr) (fd : FuncData) : Prop where
  ex : ∃ (oc : Value) (od : Option Addr) (kV doc pm : Value) (an : Option Addr) (cdv ct : Value) (osl : Array (Option Value)),
    fd = PySem.W.fnOf x qual (defArgs st) (defBody st) (defScope st) .none kV doc pm an cdv ct ∧ K.lookup f = some ⟨oc, od, .func fd, osl⟩ ∧ PySem.W.codeIn K cdv qual = true
  kp : PySem.W.keepIn K (.ref f) = true
section
variable {P : Program} {w : World} {K : PySem.W.Frag} {mg : Str → Option Value} {base : Heap}
theorem Fun.ok {x qual : Str} {st : Stmt} {f : Addr} {fd : FuncData} {N ps : List Str} {k : Nat} {sp : Sp} (F : Fun K x qual st f fd) (S : FnScope N ps (defScope st)) (len : ∀ vs H Q E, sp vs H Q E → vs.length = ps.length)
    (hbody : ∀ (cdv : Value) (A : Around) (outer : List Env) (s : Shared) (H : Hp) (vs : List V) (Q : VK) (E : XK), Room k (A.deeper (envOfC qual (defScope st) s.heap.objs.size f cdv)) → sp vs H Q E →
      ∃ t, PSs (cxOf CX0 P w K mg base N qual (defScope st) f cdv A outer s H E).nox (defBody st) t ∧ t { nx := fun _ H' => Q .non H', rt := Q } (start N vs) H) : FnOk P w K mg base CX0 (k + 1) f fd ps sp := by
  obtain ⟨oc, od, kV, doc, pm, an, cdv, ct, osl, rfl, lk, hcd⟩ := F.ex
  refine fn_of lk hcd S len fun A outer s H vs Q E hr hsp => ?_
  obtain ⟨t, h, q⟩ := hbody cdv A outer s H vs Q E hr hsp
  exact ⟨t, h.nox, q⟩
theorem Fun.binds {x qual : Str} {st : Stmt} {f : Addr} {fd : FuncData} {ps : List Str} (F : Fun K x qual st f fd)
    (h : ∀ (kV doc pm : Value) (an : Option Addr) (cdv ct : Value) (us : List Value), us.length = ps.length → bindArgs (PySem.W.fnOf x qual (defArgs st) (defBody st) (defScope st) .none kV doc pm an cdv ct) ⟨us, []⟩ = pure (ps.zip us)) : Binds K fd ps [] := by
  obtain ⟨oc, od, kV, doc, pm, an, cdv, ct, osl, rfl, lk, hcd⟩ := F.ex
  exact .all (h kV doc pm an cdv ct)
theorem fun_mk {x qual : Str} {st : Stmt} {f : Addr} {oc : Value} {od an : Option Addr} {osl : Array (Option Value)} {kV doc pm cdv ct : Value} (l : K.lookup f = some ⟨oc, od, .func (PySem.W.fnOf x qual (defArgs st) (defBody st) (defScope st) .none kV doc pm an cdv ct), osl⟩)
    (c : PySem.W.codeIn K cdv qual = true) (k : PySem.W.keepIn K (.ref f) = true) : Fun K x qual st f (PySem.W.fnOf x qual (defArgs st) (defBody st) (defScope st) .none kV doc pm an cdv ct) := ⟨⟨oc, od, kV, doc, pm, an, cdv, ct, osl, rfl, l, c⟩, k⟩
end
section
variable {X : Cx}
theorem pv (i : Nat) {x : Str} {pos : Pos} (hN : X.N[i]? = some x := by rfl) (hv : Vis X.env.scope x := by first | exact Or.inl rfl | exact Or.inr (Or.inl rfl) | exact Or.inr (Or.inr rfl)) (hd : (x == ("__debug__" : Str)) = false := by decide)
    (hcd : (x == ("__classdict__" : Str)) = false := by decide) : PE X (.Name x pos) (tVar i) := pe_var hN hv hd hcd
end
theorem iteF {A B : Prop} (h : B) : if false = true then A else B := by
  rw [if_neg Bool.false_ne_true]
  exact h
theorem iteT {A B : Prop} (h : A) : if true = true then A else B := by
  rw [if_pos rfl]
  exact h
theorem ite2 {c A B : Prop} [Decidable c] (h1 : c → A) (h2 : ¬ c → B) : if c then A else B := by
  by_cases h : c
  · rw [if_pos h]
    exact h1 h
  · rw [if_neg h]
    exact h2 h
def Same (H H' : Hp) : Prop := ∀ b o, H b = some o → H' b = some o
theorem Same.refl (H : Hp) : Same H H := fun _ _ h => h
theorem Same.trans {H H1 H2 : Hp} (a : Same H H1) (b : Same H1 H2) : Same H H2 := fun c o h => b c o (a c o h)
theorem Same.free {H H' : Hp} (e : Same H H') {l : Addr} (h : H' l = Option.none) : H l = Option.none := by
  cases q : H l with
  | none => rfl
  | some o =>
    rw [e l o q] at h
    cases h
section
variable {κ : Type} [DecidableEq κ]
end
end L2
set_option Elab.async false
set_option linter.all false
set_option maxRecDepth 100000
namespace L2
open PySem PySem.Spec PyProof.Rows
def clGo (env : Env) : List (Str × NameKind) → List (Str × Addr) → List (Str × Addr)
  | [], cs => cs
  | (n, k) :: r, cs => clGo env r (if (k == NameKind.free) = true then (n, (env.cells.lookup n).getD 0) :: cs else cs)
theorem clGo_pure {env : Env} : ∀ (ns : List (Str × NameKind)) (cs : List (Str × Addr)), (∀ y ∈ ns, y.2 = .free → ∃ c, env.cells.lookup y.1 = some c) →
    (forIn (m := Sem) ns cs fun y cs => if (y.2 == NameKind.free) = true then (do let a ← cellOf env y.1; pure (ForInStep.yield ((y.1, a) :: cs))) else pure (ForInStep.yield cs)) = pure (clGo env ns cs)
  | [], cs, _ => rfl
  | (n, k) :: r, cs, h => by
    rw [List.forIn_cons]
    have hr : ∀ y ∈ r, y.2 = .free → ∃ c, env.cells.lookup y.1 = some c := fun y hy => h y (List.mem_cons_of_mem _ hy)
    by_cases hk : (k == NameKind.free) = true
    · obtain ⟨c, hc⟩ := h (n, k) List.mem_cons_self (beq_iff_eq.mp hk)
      have e1 : cellOf env n = pure c := by unfold cellOf; rw [show env.cells.lookup n = some c from hc]
      simp only [hk, if_true, e1, pure_bind]
      rw [clGo_pure r _ hr]
      show _ = pure (clGo env r (if (k == NameKind.free) = true then (n, (env.cells.lookup n).getD 0) :: cs else cs))
      rw [if_pos hk, show env.cells.lookup n = some c from hc]
      rfl
    · simp only [hk, Bool.false_eq_true, if_false, pure_bind]
      rw [clGo_pure r _ hr]
      show _ = pure (clGo env r (if (k == NameKind.free) = true then (n, (env.cells.lookup n).getD 0) :: cs else cs))
      rw [if_neg hk]
theorem closure_of {scope : Scope} {env : Env} (h : ∀ y ∈ scope.names, y.2 = .free → ∃ c, env.cells.lookup y.1 = some c) : closureFor scope env = pure (clGo env scope.names []) := by
  have e := clGo_pure scope.names [] h
  unfold closureFor
  refine Eq.trans ?_ (e.trans rfl)
  first
    | rfl
    | (simp only [bind_pure]; rfl)
    | simp
theorem clGo_look {env : Env} {x : Str} {c : Addr} : ∀ (ns : List (Str × NameKind)) (cs : List (Str × Addr)), (∀ y ∈ ns, y.2 = .free → ∃ c, env.cells.lookup y.1 = some c) →
    (∀ c, cs.lookup x = some c → env.cells.lookup x = some c) → (clGo env ns cs).lookup x = some c → env.cells.lookup x = some c
  | [], cs, _, hc, e => hc c e
  | (n, k) :: r, cs, h, hc, e => by
    refine clGo_look r _ (fun y hy => h y (List.mem_cons_of_mem _ hy)) (fun c' e' => ?_) e
    by_cases hk : (k == NameKind.free) = true
    · rw [if_pos hk] at e'
      rw [List.lookup_cons] at e'
      cases hx : x == n with
      | true =>
        rw [hx] at e'
        obtain ⟨c2, h2⟩ := h (n, k) List.mem_cons_self (beq_iff_eq.mp hk)
        have h2' : env.cells.lookup n = some c2 := h2
        rw [h2'] at e'
        rw [beq_iff_eq.mp hx, h2']
        exact e'
      | false =>
        rw [hx] at e'
        exact hc c' e'
    · rw [if_neg hk] at e'
      exact hc c' e'
theorem clGo_has {env : Env} {x : Str} : ∀ (ns : List (Str × NameKind)) (cs : List (Str × Addr)), ((x, NameKind.free) ∈ ns ∨ (∃ c, cs.lookup x = some c)) → ∃ c, (clGo env ns cs).lookup x = some c
  | [], cs, h => by
    rcases h with h | h
    · cases h
    · exact h
  | (n, k) :: r, cs, h => by
    refine clGo_has r _ ?_
    rcases h with h | ⟨c, h⟩
    · rcases List.mem_cons.mp h with e | e
      · cases e
        refine .inr ⟨(env.cells.lookup x).getD 0, ?_⟩
        rw [if_pos (by rfl), List.lookup_cons]
        simp
      · exact .inl e
    · right
      by_cases hk : (k == NameKind.free) = true
      · rw [if_pos hk, List.lookup_cons]
        cases hx : x == n with
        | true => exact ⟨_, rfl⟩
        | false => exact ⟨c, h⟩
      · rw [if_neg hk]
        exact ⟨c, h⟩
def blk (X : Cx) (scope : Scope) (Nc : List Str) (C : Addr) (s₂ : Shared) (H₂ : Hp) (ex : List Addr) (pins : List (Addr × Obj)) : Cx :=
  { prog := X.prog, w := X.w, K := X.K, mg := X.mg, base := X.base, A := X.A, N := Nc, s₀ := s₂, H₀ := H₂, env := compEnvC scope (clGo X.env scope.names []) C X.env, outer := X.stack, stack := X.stack, ex := ex,
    fn := fun _ => false, calm := X.calm, pn := X.pn ++ pins, xe := fun _ _ => False }
structure BlkScope (X : Cx) (scope : Scope) (x : Str) (Nf : List Str) (js : List Nat) : Prop where
  kind : scope.kind = .function
  nocell : ∀ y ∈ scope.names, y.2 ≠ .cell
  loc : ∀ y ∈ scope.names, y.2 = .local → scope.names.lookup y.1 = some .local
  own : scope.names.lookup x = some .local
  nd : (x :: Nf).Nodup
  free : ∀ y ∈ scope.names, y.2 = .free → X.env.kindOf y.1 = some .cell
  slots : Nf.length = js.length
  at_ : ∀ (i : Nat) (z : Str), Nf[i]? = some z → ∃ j : Nat, js[i]? = some j ∧ X.N[j]? = some z ∧ scope.names.lookup z = some .free ∧ X.env.scope.names.lookup z = some .cell
section
variable {X : Cx} {scope : Scope} {x : Str} {Nf : List Str} {js : List Nat} {C : Addr} {s₂ : Shared} {H₂ : Hp} {ex : List Addr} {pins : List (Addr × Obj)} {σ : St}
theorem BlkScope.hasCell (B : BlkScope X scope x Nf js) (ok : X.Ok) : ∀ y ∈ scope.names, y.2 = .free → ∃ c, X.env.cells.lookup y.1 = some c := fun y hy hf => ok.has y.1 (.inl (B.free y hy hf))
theorem BlkScope.look (B : BlkScope X scope x Nf js) (ok : X.Ok) {z : Str} {c : Addr} (e : (clGo X.env scope.names []).lookup z = some c) : X.env.cells.lookup z = some c :=
  clGo_look scope.names [] (B.hasCell ok) (fun c h => by simp at h) e
theorem relabel_free {sc : Scope} {env : Env} {z : Str} : ∀ {ns : List (Str × NameKind)}, (∀ y ∈ ns, y.2 ≠ .cell) →
    ((ns.map fun (n, k) => if (k == NameKind.free && env.scope.kind == .function && env.kindOf n == some .cell) then (n, NameKind.cell) else (n, k)).lookup z = some .cell ∨
     (ns.map fun (n, k) => if (k == NameKind.free && env.scope.kind == .function && env.kindOf n == some .cell) then (n, NameKind.cell) else (n, k)).lookup z = some .free) → (z, NameKind.free) ∈ ns
  | [], _, h => by simp at h
  | (n, k) :: r, hc, h => by
    have ih := @relabel_free sc env z r fun y hy => hc y (List.mem_cons_of_mem _ hy)
    rw [List.map_cons, List.lookup_cons] at h
    by_cases hk : (k == NameKind.free && env.scope.kind == .function && env.kindOf n == some .cell) = true
    · have kf : k = .free := by
        rw [Bool.and_eq_true, Bool.and_eq_true] at hk
        exact beq_iff_eq.mp hk.1.1
      subst kf
      simp only [hk, if_true] at h
      cases hz : z == n with
      | true => rw [beq_iff_eq.mp hz]; exact List.mem_cons_self
      | false => rw [hz] at h; exact List.mem_cons_of_mem _ (ih h)
    · simp only [hk, Bool.false_eq_true, if_false] at h
      cases hz : z == n with
      | true =>
        rw [hz] at h
        have h' : k = .cell ∨ k = .free := by
          rcases h with h | h
          · exact .inl (Option.some.inj h)
          · exact .inr (Option.some.inj h)
        rcases h' with e | e
        · exact absurd e (hc (n, k) List.mem_cons_self)
        · rw [beq_iff_eq.mp hz, e]; exact List.mem_cons_self
      | false => rw [hz] at h; exact List.mem_cons_of_mem _ (ih h)
theorem relabel_cell {env : Env} {z : Str} (hk : env.scope.kind = .function) (hz : env.kindOf z = some .cell) : ∀ {ns : List (Str × NameKind)}, (∀ y ∈ ns, y.2 = .local → ns.lookup y.1 = some .local) → (∀ y ∈ ns, y.2 ≠ .cell) → ns.lookup z = some .free →
    (ns.map fun (n, k) => if (k == NameKind.free && env.scope.kind == .function && env.kindOf n == some .cell) then (n, NameKind.cell) else (n, k)).lookup z = some .cell
  | [], _, _, h => by simp at h
  | (n, k) :: r, _, _, h => by
    have ih : ∀ {ns : List (Str × NameKind)}, ns.lookup z = some .free → (ns.map fun (n, k) => if (k == NameKind.free && env.scope.kind == .function && env.kindOf n == some .cell) then (n, NameKind.cell) else (n, k)).lookup z = some .cell := by
      intro ns
      induction ns with
      | nil => intro h; simp at h
      | cons p ps ihp =>
        intro h
        obtain ⟨n', k'⟩ := p
        rw [List.lookup_cons] at h
        rw [List.map_cons, List.lookup_cons]
        cases hx : z == n' with
        | true =>
          rw [hx] at h
          have e : k' = .free := Option.some.inj h
          subst e
          rw [← beq_iff_eq.mp hx]
          simp [hk, hz]
        | false =>
          rw [hx] at h
          by_cases hc : (k' == NameKind.free && env.scope.kind == .function && env.kindOf n' == some .cell) = true
          · simp only [hc, if_true, hx]; exact ihp h
          · simp only [hc, Bool.false_eq_true, if_false, hx]; exact ihp h
    exact ih h
theorem BlkScope.ok (B : BlkScope X scope x Nf js) {H : Hp} {s : Shared} (I : Inv X pins σ H s) (hC : s.heap.objs.size ≤ C) {fp : List Addr} (hf : ∀ b ∈ fp, FpOk X pins H b) (ho : ∀ b ∈ fp, ∃ o, s.heap.get? b = some o ∧ ∀ v, o.data ≠ .cell v) :
    (blk X scope (x :: Nf) C s H fp pins).Ok where
  mod := I.ok.mod
  kind := B.kind
  glob := I.ok.glob
  blt := I.ok.blt
  above := hC
  inj := fun y z c h1 h2 => I.ok.inj y z c (B.look I.ok h1) (B.look I.ok h2)
  has := fun z hz => clGo_has scope.names [] (.inl (relabel_free (sc := scope) B.nocell hz))
  cab := fun y c h _ => Bool.noConfusion h
  hd := fun h => I.ok.hd h
  frames := I.ok.frames
  stk := .inl rfl
  exf := fun b hb => by
    obtain ⟨o, e, d⟩ := ho b hb
    refine ⟨Nat.ne_of_lt (Nat.lt_of_lt_of_le (Heap.lt_size e) hC), fun z c h => (hf b hb).2.2.2.2.1 z c (B.look I.ok h)⟩
  bs := I.bs
  bsz := Nat.le_trans I.ok.bsz I.sz
  noex := fun b o e hb => by
    rcases (hf b hb).2.2.2.1 with z | z
    · exact I.ok.noex b o e z
    · exact absurd (Nat.lt_of_lt_of_le (Heap.lt_size e) (Nat.le_trans I.ok.bsz z)) (Nat.lt_irrefl _)
  exfs := fun b hb hs => by
    rcases List.mem_cons.mp (I.stkSub b hs) with e | e
    · exact (hf b hb).2.1 e
    · exact (hf b hb).2.2.1 e
  funs := I.stack
  frf := I.stkFree
end
end L2
set_option Elab.async false
set_option linter.all false
set_option maxRecDepth 100000
namespace L2
open PySem PySem.Spec PyProof.Rows
section
variable {X : Cx} {scope : Scope} {x : Str} {Nf : List Str} {js : List Nat} {pins : List (Addr × Obj)} {σ : St}
def blkSt (js : List Nat) (σ : St) (v : Option V) : St := v :: js.map fun j => (σ[j]?).getD none
theorem BlkScope.inv (B : BlkScope X scope x Nf js) {H : Hp} {s : Shared} (I : Inv X pins σ H s) {fp : List Addr} (hf : ∀ b ∈ fp, FpOk X pins H b) (ho : ∀ b ∈ fp, ∃ o, s.heap.get? b = some o ∧ ∀ v, o.data ≠ .cell v)
    {h₁ : Heap} {tk : Nat} (hn : h₁.Ns (s.heap.objs.size + 1) (fun _ => none)) (hs : Heap.SameBut (s.heap.objs.size + 1) ((s.heap.push { cls := .type "list", data := .seq #[] }).push { cls := .type "dict", data := .dict #[] }) h₁) :
    Inv (blk X scope (x :: Nf) (s.heap.objs.size + 1) s H fp pins) [] (blkSt js σ none) (upd H s.heap.objs.size (.lst [])) { s with heap := h₁, toks := tk } := by
  have old : ∀ b o, s.heap.get? b = some o → h₁.get? b = some o := fun b o e =>
    hs.extBut b o (Nat.ne_of_lt (Nat.lt_succ_of_lt (Heap.lt_size e))) (Heap.get?_push_of_some _ (Heap.get?_push_of_some _ e))
  have hD : h₁.get? s.heap.objs.size = some { cls := .type "list", data := .seq #[] } := hs.extBut _ _ (Nat.ne_of_lt (Nat.lt_succ_self _)) (Heap.get?_push_of_some _ (Heap.get?_push_size _ rfl))
  have fD : H s.heap.objs.size = none := I.hok.fresh (Nat.le_refl _)
  have fC : H (s.heap.objs.size + 1) = none := I.hok.fresh (Nat.le_succ _)
  have cellAt : ∀ z c, (clGo X.env scope.names []).lookup z = some c → c < s.heap.objs.size := fun z c e => by
    obtain ⟨v, q⟩ := I.cell z c (B.look I.ok e)
    exact q.lt
  have J := I.laid (a := s.heap.objs.size) (o := .lst []) (h' := h₁) (t' := tk) old (Nat.le_refl _) ⟨Nat.zero_le _, [], 0, .nil, hD⟩
  refine ⟨B.ok I (Nat.le_succ _) hf ho, rfl, I.bare, Un.laid old (Nat.le_refl _) fD, ⟨_, hn, fun i z v h1 h2 h3 => ?_⟩, fun z c e => ?_, ?_, fun z c e => ?_, fun p hp => ?_, J.hok, ?_⟩
  · -- a name of the block that has a value: one of the def's
    cases i with
    | zero =>
      have h2' : some (none : Option V) = some (some v) := h2
      cases h2'
    | succ i =>
      have h1' : Nf[i]? = some z := h1
      have h2' : (js.map fun j => (σ[j]?).getD none)[i]? = some (some v) := h2
      obtain ⟨j, e1, e2, e3, e4⟩ := B.at_ i z h1'
      rw [List.getElem?_map, e1] at h2'
      have h2'' : (σ[j]?).getD none = some v := Option.some.inj h2'
      have e5 : σ[j]? = some (some v) := by
        cases q : σ[j]? with
        | none => rw [q] at h2''; cases h2''
        | some y => rw [q] at h2''; exact congrArg some h2''
      obtain ⟨m, hm, hl⟩ := I.loc
      obtain ⟨u, r, l⟩ := hl j z v e2 e5 (.inr (.inl e4))
      refine ⟨u, r, .inr ⟨.inl ?_, ?_⟩⟩
      · exact relabel_cell I.ok.kind e4 B.loc B.nocell e3
      · rcases l with ⟨k, _⟩ | ⟨_, c, hc, q⟩
        · rw [show X.env.kindOf z = X.env.scope.names.lookup z from rfl, e4] at k; cases k
        · obtain ⟨c', hc'⟩ := clGo_has (env := X.env) (x := z) scope.names [] (.inl (PySem.mem_of_lookup e3))
          have e6 := B.look I.ok hc'
          rw [hc] at e6
          cases e6
          exact ⟨c, hc', q.keeps old⟩
  · obtain ⟨v, q⟩ := I.cell z c (B.look I.ok e)
    exact ⟨v, q.keeps old⟩
  · show upd H s.heap.objs.size (.lst []) (s.heap.objs.size + 1) = none
    rw [upd_ne (Nat.ne_of_gt (Nat.lt_succ_self _))]
    exact fC
  · rw [upd_ne (Nat.ne_of_lt (cellAt z c e))]
    exact I.freeC z c (B.look I.ok e)
  · have hp' : p ∈ X.pn ++ pins := by
      have : p ∈ (X.pn ++ pins) ++ [] := hp
      rwa [List.append_nil] at this
    obtain ⟨e, n, ne, nf, d⟩ := I.pin p hp'
    refine ⟨old _ _ e, ?_, Nat.ne_of_lt (Nat.lt_succ_of_lt (Heap.lt_size e)), fun z => ?_, d⟩
    · rw [upd_ne (Nat.ne_of_lt (Heap.lt_size e))]; exact n
    · rcases List.mem_cons.mp (I.stkSub p.1 z) with q | q
      · exact ne q
      · exact nf q
  · show (none :: js.map _).length = (x :: Nf).length
    rw [List.length_cons, List.length_map, List.length_cons, B.slots]
theorem BlkScope.back (B : BlkScope X scope x Nf js) {H H' : Hp} {s s' : Shared} {fp : List Addr} {C : Addr} {pl : List (Addr × Obj)} {τ : St} (I : Inv X pins σ H s) (hf : ∀ b ∈ fp, FpOk X pins H b) (hC : s.heap.objs.size ≤ C)
    (J : Inv (blk X scope (x :: Nf) C s H fp pins) pl τ H' s') {h' : Heap} (hs : Heap.SameBut C s'.heap h') : Inv X pins σ H' { s' with heap := h' } := by
  have nC : H' C = none := J.free
  refine I.call' (s' := { s' with heap := h' }) (ch := fp) J.os ⟨fun b o e n hb hx => ?_, fun b o e n hb hx => ?_, J.base.free, fun b o e hx => ?_, J.base.tups, J.base.frzs, J.base.tbls⟩ ?_ J.bare (fun b hb => ?_)
  · exact hs.extBut b o (Nat.ne_of_lt (Nat.lt_of_lt_of_le (Heap.lt_size e) hC)) (J.base.keep b o e n hb hx)
  · obtain ⟨sl, e1⟩ := J.base.slot b o e n hb hx
    exact ⟨sl, hs.extBut b _ (Nat.ne_of_lt (Nat.lt_of_lt_of_le (Heap.lt_size e) hC)) e1⟩
  · obtain ⟨o', e1⟩ := J.base.there b o e hx
    exact ⟨o', hs.extBut b _ (Nat.ne_of_lt (Nat.lt_of_lt_of_le (Heap.lt_size e) hC)) e1⟩
  · intro a o e
    refine (J.hok a o e).stay (fun b u hb q => hs.extBut b u ?_ q) (fun _ q => q) fun _ _ q => q
    rcases hb with rfl | hb
    · exact fun z => by rw [z, nC] at e; cases e
    · exact fun z => by rw [z, nC] at hb; cases hb
  · obtain ⟨_, f1, f2, f3, f4, f5⟩ := hf b hb
    exact ⟨f3, f1, f4, f5⟩
end
end L2
set_option Elab.async false
set_option linter.all false
set_option maxRecDepth 100000
namespace L2
open PySem PySem.Spec PyProof.Rows
inductive PTs (X : Cx) : List Expr → TT → Prop where
  | nil : PTs X [] (fun _ H Q => Q true H)
  | one {c : Expr} {t : TT} (h : PT X c t) : PTs X [c] t
theorem PTs.run {X : Cx} {ifs : List Expr} {t : TT} (h : PTs X ifs t) {pins : List (Addr × Obj)} {s : Shared} {σ : St} {H : Hp} {Q : Bool → Hp → Prop} (I : Inv X pins σ H s) (q : t σ H Q) :
    wpAny (model X.prog X.w) X.A (forIn ifs true fun c r => if r = true then do let ok ← isTrue c X.env (eval c X.env); pure (ForInStep.yield ok) else pure (ForInStep.yield r)) (TP X pins σ Q) X.xe s := by
  cases h with
  | nil => exact wpAny_pure ⟨H, I, q⟩
  | @one c t h =>
    rw [List.forIn_cons]
    refine wpAny_bind ?_
    rw [if_pos rfl]
    refine wpAny_bind (thn (h pins s σ H Q I q) fun b s1 q1 => wpAny_pure ?_)
    exact wpAny_pure q1
def tComp (js : List Nat) (wi : TI) (tc : TT) (te : TE) : TE := fun σ H Q => wi σ H fun J H1 => ∀ D, H1 D = none → ∃ W : Nat → Nat → Hp → Prop, (∃ m, W 0 m (upd H1 D (.lst []))) ∧ ∀ i m H2, W i m H2 →
  (J.stop i H2 ∧ Q (.ref D) H2) ∨ (J.go i H2 ∧ ∀ v H3, J.yld i H2 v H3 → tc (blkSt js σ (some v)) H3 fun b H4 =>
    if b = true then te (blkSt js σ (some v)) H4 fun y H5 => ∃ ys, H5 D = some (.lst ys) ∧ ys.length < sizeLine ∧ ∃ m', m' < m ∧ W (i + 1) m' (upd H5 D (.lst (ys ++ [y])))
    else ∃ m', m' < m ∧ W (i + 1) m' H4)
section
variable {X : Cx} {scope : Scope} {x : Str} {Nf : List Str} {js : List Nat} {wi : TI} {tc : TT} {te : TE} {elt iter : Expr} {ifs : List Expr} {px pos : Pos}
theorem comp_core (use : Option (Value → Sem Unit)) {pins : List (Addr × Obj)} {s₂ : Shared} {σ : St} {H₂ : Hp} {it : Addr} {fp : List Addr} {tn : Nat → Heap → Prop} {J : It} {E : Value → Shared → Prop} {QQ : Value → Addr → Result → Shared → Prop} {Q : VK} {tg0 : Expr} (htg : tg0 = .Name x px)
    (B : BlkScope X scope x Nf js) (hc : X.calm = true)
    (ht : ∀ C s₂ H₂ ex pins, PTs (blk X scope (x :: Nf) C s₂ H₂ ex pins) ifs tc) (he : ∀ C s₂ H₂ ex pins, PE (blk X scope (x :: Nf) C s₂ H₂ ex pins) elt te)
    (I : Inv X pins σ H₂ s₂) (T : Turn X.prog X.w X.K tg0 J fp it tn) (st : tn 0 s₂.heap) (hf : ∀ b ∈ fp, FpOk X pins H₂ b)
    (hW : ∀ D, H₂ D = none → ∃ W : Nat → Nat → Hp → Prop, (∃ m, W 0 m (upd H₂ D (.lst []))) ∧ ∀ i m H2, W i m H2 →
      (J.stop i H2 ∧ Q (.ref D) H2) ∨ (J.go i H2 ∧ ∀ v H3, J.yld i H2 v H3 → tc (blkSt js σ (some v)) H3 fun b H4 =>
        if b = true then te (blkSt js σ (some v)) H4 fun y H5 => ∃ ys, H5 D = some (.lst ys) ∧ ys.length < sizeLine ∧ ∃ m', m' < m ∧ W (i + 1) m' (upd H5 D (.lst (ys ++ [y])))
        else ∃ m', m' < m ∧ W (i + 1) m' H4))
    (hQ : ∀ s' H', (∀ h', Heap.SameBut (s₂.heap.objs.size + 1) s'.heap h' → Inv X pins σ H' { s' with heap := h' }) → (∃ m, s'.heap.Ns (s₂.heap.objs.size + 1) m) → H' (s₂.heap.objs.size + 1) = none → Q (.ref s₂.heap.objs.size) H' → QQ (.ref s₂.heap.objs.size) (s₂.heap.objs.size + 1) (.ok .next) s') :
    wpAny (model X.prog X.w) X.A (newList []) (fun acc s₃ => wpAny (model X.prog X.w) X.A (newFunctionEnv scope X.env.globals (clGo X.env scope.names []) [] X.env.qual none .none (some X.env)) (fun cenv s₄ =>
      codeAny (model X.prog X.w) X.A (.compStart (.ListComp elt [⟨.Name x px, iter, ifs, 0⟩] scope pos) 0 (.ref it) acc { cenv with scope := relabel scope X.env }) (QQ acc cenv.locals) s₄) E s₃) E s₂ := by
  subst htg
  refine wpAny_newObj_type (wpAny_newFunctionEnv B.nocell (by intro y hy; simp at hy) (fun h₁ hns₁ hsb₁ => ?_) B.kind)
  dsimp only at hns₁ hsb₁ ⊢
  have hsz : (s₂.heap.push { cls := .type "list", dict := none, data := .seq ([] : List Value).toArray }).objs.size = s₂.heap.objs.size + 1 := Heap.size_push _ _
  rw [hsz] at hns₁ hsb₁ ⊢
  have ho : ∀ b ∈ fp, ∃ o, s₂.heap.get? b = some o ∧ ∀ v, o.data ≠ .cell v := T.obj 0 _ st
  have hD0 : H₂ s₂.heap.objs.size = none := I.hok.fresh (Nat.le_refl _)
  obtain ⟨W, ⟨m0, w0⟩, turn⟩ := hW _ hD0
  have old : ∀ b o, s₂.heap.get? b = some o → h₁.get? b = some o := fun b o e =>
    hsb₁.extBut b o (Nat.ne_of_lt (Nat.lt_succ_of_lt (Heap.lt_size e))) (Heap.get?_push_of_some _ (Heap.get?_push_of_some _ e))
  have st1 : tn 0 h₁ := T.keep _ _ _ st fun b _ o e => old b o e
  have I1 : ∀ tk, Inv (blk X scope (x :: Nf) (s₂.heap.objs.size + 1) s₂ H₂ fp pins) [] (blkSt js σ none) (upd H₂ s₂.heap.objs.size (.lst [])) { s₂ with heap := h₁, toks := tk } := fun tk => B.inv I hf ho hns₁ hsb₁
  have fpD : ∀ b ∈ fp, b ≠ s₂.heap.objs.size := fun b hb => by
    obtain ⟨o, e, _⟩ := ho b hb
    exact Nat.ne_of_lt (Heap.lt_size e)
  have fp0 : ∀ b ∈ fp, upd H₂ s₂.heap.objs.size (.lst []) b = none := fun b hb => by rw [upd_ne (fpD b hb)]; exact (hf b hb).1
  -- what the block's context says of the iterator's objects
  have stat : ∀ {H' : Hp}, (∀ b ∈ fp, H' b = none) → ∀ b ∈ fp, FpOk (blk X scope (x :: Nf) (s₂.heap.objs.size + 1) s₂ H₂ fp pins) [] H' b := fun {H'} hn b hb => by
    obtain ⟨_, f1, f2, f3, f4, f5⟩ := hf b hb
    obtain ⟨o, e, _⟩ := ho b hb
    refine ⟨hn b hb, Nat.ne_of_lt (Nat.lt_succ_of_lt (Heap.lt_size e)), fun z => ?_, .inl hb, fun z c h => f4 z c (B.look I.ok h), fun p hp => ?_⟩
    · rcases List.mem_cons.mp (I.stkSub b z) with q | q
      · exact f1 q
      · exact f2 q
    · have hp' : p ∈ (X.pn ++ pins) ++ [] := hp
      rw [List.append_nil] at hp'
      exact f5 p hp'
  have loop : ∀ sL : Shared, sL = { s₂ with heap := h₁, toks := s₂.toks + ([] : List (Str × Value)).length } →
      codeAny (model X.prog X.w) X.A (.compLoop (.ListComp elt [⟨.Name x px, iter, ifs, 0⟩] scope pos) 0 (.ref it) (.ref s₂.heap.objs.size) (compEnvC scope (clGo X.env scope.names []) (s₂.heap.objs.size + 1) X.env))
        (QQ (.ref s₂.heap.objs.size) (s₂.heap.objs.size + 1)) sL := by
    rintro sL rfl
    refine codeAny_compLoop_tests (fun n s' => ∃ i v H', Inv (blk X scope (x :: Nf) (s₂.heap.objs.size + 1) s₂ H₂ fp pins) [] (blkSt js σ v) H' s' ∧ tn i s'.heap ∧ (∀ b ∈ fp, H' b = none) ∧ W i n H') ?_ m0 ⟨0, none, _, I1 _, st1, fp0, w0⟩
    rintro n s3 ⟨i, v3, H3, I3, st3, fr3, w3⟩
    rcases turn i n H3 w3 with ⟨stop, qn⟩ | ⟨go, step⟩
    · refine thn (T.done (blk X scope (x :: Nf) (s₂.heap.objs.size + 1) s₂ H₂ fp pins) rfl rfl rfl hc i [] s3 _ H3 _ I3 (stat fr3) st3 stop) fun r s4 ⟨hr, I4⟩ => ?_
      subst hr
      obtain ⟨m4, hm4, _⟩ := I4.loc
      exact hQ s4 H3 (fun h' hs => B.back I hf (Nat.le_succ _) I4 hs) ⟨m4, hm4⟩ I4.free qn
    · refine thn (T.item (blk X scope (x :: Nf) (s₂.heap.objs.size + 1) s₂ H₂ fp pins) rfl rfl rfl hc i [] s3 _ H3 _ I3 (stat fr3) st3 go) fun r s4 ⟨u, hr, h4⟩ => ?_
      subst hr
      refine (show wpAny (model X.prog X.w) X.A (letOwnedTupleGo (Expr.Name x px) (.ref it) u >>= fun _ => assign (.Name x px) (compEnvC scope (clGo X.env scope.names []) (s₂.heap.objs.size + 1) X.env) u) _ _ s4 from wpAny_bind (thn h4 fun _ s5 ⟨y5, H5, I5, r5, yl5, st5, fr5⟩ => ?_))
      have I5' := I5.pinned (stat fr5) (T.obj _ _ st5)
      have hnm : (blk X scope (x :: Nf) (s₂.heap.objs.size + 1) s₂ H₂ fp pins).env.scope.names.lookup x = some .local := lookup_relabel_local B.own
      have hg : PG (blk X scope (x :: Nf) (s₂.heap.objs.size + 1) s₂ H₂ fp pins) (.Name x px) (gName 0) := pg_name B.nd rfl (.inl hnm) (.inr hnm)
      refine wpAny_mono (hg _ s5 _ H5 y5 u (fun σ' H' => σ' = blkSt js σ (some y5) ∧ H' = H5) I5' r5 ⟨rfl, rfl⟩) (fun _ s6 ⟨σ6, H6, I6, q6⟩ => ?_) fun _ _ z => False.elim z
      obtain ⟨e6, e6'⟩ := q6
      subst e6 e6'
      refine wpAny_mono ((ht _ _ _ _ _).run I6 (step y5 _ yl5)) (fun b s7 ⟨H7, I7, q7⟩ => ?_) fun _ _ z => False.elim z
      have again : ∀ {s8 : Shared} {σ8 : St} {H8 : Hp}, Inv (blk X scope (x :: Nf) (s₂.heap.objs.size + 1) s₂ H₂ fp pins) ([] ++ pinsAt fp s5.heap) σ8 H8 s8 → tn (i + 1) s8.heap ∧ ∀ b ∈ fp, H8 b = none := fun {s8 σ8 H8} I8 => by
        refine ⟨T.keep _ _ _ st5 fun b hb o e => (I8.pin (b, o) (List.mem_append_right _ (List.mem_append_right _ (mem_pinsAt hb e)))).1, fun b hb => ?_⟩
        obtain ⟨o, e, d⟩ := T.obj _ _ st5 b hb
        exact (I8.pin (b, o) (List.mem_append_right _ (List.mem_append_right _ (mem_pinsAt hb e)))).2.1
      cases b with
      | false =>
        simp only [Bool.false_eq_true, if_false] at q7 ⊢
        obtain ⟨m', hm, w7⟩ := q7
        exact ⟨m', hm, i + 1, _, H7, I7.unpinned, (again I7).1, (again I7).2, w7⟩
      | true =>
        simp only [if_true] at q7 ⊢
        refine wpAny_mono (he _ _ _ _ _ _ s7 _ H7 _ I7 q7) (fun yv s8 ⟨y8, H8, I8, r8, ys, hD8, hl8, m', hm, w8⟩ => ?_) fun _ _ z => False.elim z
        obtain ⟨a1, a2⟩ := again I8
        refine wpAny_mono (mt_append (X := blk X scope (x :: Nf) (s₂.heap.objs.size + 1) s₂ H₂ fp pins) _ s8 _ H8 (.ref s₂.heap.objs.size) [y8] (.ref s₂.heap.objs.size) [yv] (fun _ H' => H' = upd H8 s₂.heap.objs.size (.lst (ys ++ [y8]))) I8 rfl (.cons r8 .nil)
          ⟨_, _, _, rfl, rfl, hD8, hl8, rfl⟩) (fun _ s9 ⟨_, H9, I9, _, q9⟩ => ?_) fun _ _ z => False.elim z
        subst q9
        obtain ⟨b1, b2⟩ := again I9
        exact ⟨m', hm, i + 1, _, _, I9.unpinned, b1, b2, w8⟩
  exact codeAny_compStart_list (loop _ rfl) (T.self _ 0 _ _ _ st1 (loop _ rfl))
theorem pe_comp (B : BlkScope X scope x Nf js) (hc : X.calm = true) (hi : PI X (.Name x px) iter wi)
    (ht : ∀ C s₂ H₂ ex pins, PTs (blk X scope (x :: Nf) C s₂ H₂ ex pins) ifs tc) (he : ∀ C s₂ H₂ ex pins, PE (blk X scope (x :: Nf) C s₂ H₂ ex pins) elt te)
    (hs : ∀ v, foldedSetIterable iter X.env v = pure v := by intro _; rfl) : PE X (.ListComp elt [⟨.Name x px, iter, ifs, 0⟩] scope pos) (tComp js wi tc te) := by
  intro pins s σ H Q I h
  rw [eval_ListComp]
  refine wpAny_comprehension_free (use := none) rfl hs (closure_of (B.hasCell I.ok)) B.kind B.loc (thn (hi pins s σ H _ I h) fun v s1 h1 => thn h1 fun itv s2 h2 => ?_)
  obtain ⟨it, fp, tn, J, H2, e, I2, T, st2, f2, hW⟩ := h2
  subst e
  refine comp_core (QQ := fun acc C => compPost (model X.prog X.w) X.A X.xe none (EP X pins σ Q) acc C) none rfl B hc ht he I2 T st2 f2 hW fun s' H' hI hn _ hq => ?_
  obtain ⟨m, hm⟩ := hn
  exact ⟨m, hm, fun h' hs' => ⟨.ref s2.heap.objs.size, H', hI h' hs', rfl, hq⟩⟩
end
end L2
set_option Elab.async false
set_option linter.all false
set_option maxRecDepth 100000
namespace L2
open PySem PySem.Spec PyProof.Rows
section
variable {X : Cx} {pins : List (Addr × Obj)} {σ : St} {H : Hp} {s : Shared}
theorem rel_isb {x : V} {v : Value} {c : Bool} (r : RelV x v) : decide (x = .bl c) = (v == .bool c) := by
  cases x with
  | bl b => cases r; cases b <;> cases c <;> decide
  | non => cases r; rfl
  | int i => obtain ⟨t, rfl⟩ := r; rfl
  | str i => obtain ⟨t, rfl⟩ := r; rfl
  | byt i => obtain ⟨t, rfl⟩ := r; rfl
  | flt i => obtain ⟨t, rfl⟩ := r; rfl
  | ref a => cases r; rfl
  | ty n => cases r; rfl
theorem op_isnotB : OpR X (compareOp .IsNot) (fun x y H Q => ∃ c, y = .bl c ∧ Q (.bl (!decide (x = .bl c))) H) := by
  intro pins s σ H x y v u Q I rx ry h
  obtain ⟨c, rfl, q⟩ := h
  cases ry
  have q' : EP X pins σ Q (.bool (!(v == .bool c))) s := fin_bl I q (congrArg not (rel_isb rx))
  cases x <;> first
    | (cases rx; exact wpAny_pure q')
    | (obtain ⟨t, rfl⟩ := rx; exact wpAny_pure q')
theorem op_fdivL : OpR X (binaryOp .FloorDiv) (rI (fun _ j => 0 < j ∧ j.natAbs.log2 < 9000) fun i j => .int (i / j)) := opI fun i j _ _ _ _ _ hc q => by
  have e : i.fdiv j = i / j := Int.fdiv_eq_ediv_of_nonneg i (Int.le_of_lt hc.1)
  exact floordiv_int (by omega) (by rw [e]; exact q) (.inl (PyProof.noPylong_of_log2 hc.2))
def plainV : V → Bool
  | .non => true | .bl _ => true | .int _ => true | .str _ => true | .ref _ => true
  | _ => false
def okP (x y : V) : Prop := (x = y ∧ plainV x = true) ∨ (flatV x = true ∧ flatV y = true)
def eqP (x y : V) : Bool := decide (x = y) || eqV x y
theorem eqV_self : ∀ {x : V}, flatV x = true → eqV x x = true
  | .non, _ => rfl
  | .bl b, _ => by cases b <;> rfl
  | .int i, _ => by simp [eqV]
  | .str z, _ => by simp [eqV]
theorem eqAt_P {A : Around} {s : Shared} {x y : V} {u v : Value} (ru : RelV x u) (rv : RelV y v) (h : okP x y) : SeqAt.EqAt A s u v (eqP x y) := by
  rcases h with ⟨e, p⟩ | ⟨f, g⟩
  · subst e
    have e1 : eqP x x = true := by unfold eqP; simp
    rw [e1]
    cases x with
    | non => cases ru; cases rv; exact SeqAt.EqAt.same _
    | bl b => cases ru; cases rv; exact SeqAt.EqAt.same _
    | int i => have := eqAt_V (A := A) (s := s) ru rv rfl rfl; rwa [eqV_self rfl] at this
    | str z => have := eqAt_V (A := A) (s := s) ru rv rfl rfl; rwa [eqV_self rfl] at this
    | ref a => cases ru; cases rv; exact SeqAt.EqAt.same _
    | _ => exact absurd (show false = true from p) Bool.false_ne_true
  · have e1 : eqP x y = eqV x y := by
      unfold eqP
      by_cases e : x = y
      · subst e; rw [eqV_self f]; simp
      · simp [e]
    rw [e1]
    exact eqAt_V ru rv f g
def eqPs (xs ys : List V) : Bool := decide (xs.length = ys.length) && (List.zipWith eqP xs ys).all id
def okPs (xs ys : List V) : Prop := xs.length = ys.length → ∀ (j : Nat) (x y : V), xs[j]? = some x → ys[j]? = some y → okP x y
theorem eqPs_nil {xs : List V} : eqPs xs [] = decide (xs = []) := by cases xs <;> simp [eqPs]
theorem okPs_nil {xs : List V} : okPs xs [] := fun _ j x y _ h => by simp at h
theorem eqPs_self {xs : List V} : eqPs xs xs = true := by
  unfold eqPs
  rw [Bool.and_eq_true]
  refine ⟨by simp, ?_⟩
  induction xs with
  | nil => rfl
  | cons x r ih => rw [List.zipWith_cons_cons, List.all_cons, ih]; simp [eqP]
theorem okPs_self {xs : List V} (h : xs.all plainV = true) : okPs xs xs := fun _ j x y e e' => by
  rw [e] at e'
  cases e'
  exact .inl ⟨rfl, List.all_eq_true.mp h x (List.mem_of_getElem? e)⟩
def ans (xs ys : List V) (j : Nat) : Bool := match xs[j]?, ys[j]? with
  | some x, some y => eqP x y
  | _, _ => true
theorem zip_ans : ∀ (xs ys : List V), xs.length = ys.length → (List.range xs.length).all (ans xs ys) = (List.zipWith eqP xs ys).all id
  | [], [], _ => rfl
  | [], _ :: _, h => by simp at h
  | _ :: _, [], h => by simp at h
  | x :: xs, y :: ys, h => by
    have ih := zip_ans xs ys (by simpa using h)
    rw [List.length_cons, List.range_succ_eq_map, List.all_cons, List.zipWith_cons_cons, List.all_cons, ← ih, List.all_map]
    rfl
theorem ans_at {xs ys : List V} {us ws : List Value} (r : Vals xs us) (r' : Vals ys ws) (ok : okPs xs ys) (hl : xs.length = ys.length) {A : Around} {s : Shared} (j : Nat) (h1 : j < us.toArray.size) (h2 : j < ws.toArray.size) :
    SeqAt.EqAt A s us.toArray[j] ws.toArray[j] (ans xs ys j) := by
  have l1 := r.length
  have l2 := r'.length
  have j1 : j < xs.length := by simp at h1; omega
  have j2 : j < ys.length := by omega
  have e1 : xs[j]? = some xs[j] := by simp [j1]
  have e2 : ys[j]? = some ys[j] := by simp [j2]
  obtain ⟨u, eu, ru⟩ := r.get e1
  obtain ⟨w, ew, rw'⟩ := r'.get e2
  have a1 : us.toArray[j] = u := by
    have : us[j]? = some u := eu
    simp at h1
    simpa [h1] using this
  have a2 : ws.toArray[j] = w := by
    have : ws[j]? = some w := ew
    simp at h2
    simpa [h2] using this
  have a3 : ans xs ys j = eqP xs[j] ys[j] := by unfold ans; rw [e1, e2]
  rw [a1, a2, a3]
  exact eqAt_P ru rw' (ok hl j _ _ e1 e2)
def rEqL (K : PySem.W.Frag) (neg : Bool) : R2 := fun x y H Q => ∃ p q xs ys, x = .ref p ∧ y = .ref q ∧ SqL K H p xs ∧ SqL K H q ys ∧ okPs xs ys ∧ Q (.bl (if neg then !eqPs xs ys else eqPs xs ys)) H
theorem op_eqL (hu : X.A.units < cLine) : OpR X (compareOp .Eq) (rEqL X.K false) := by
  intro pins s σ H x y v u Q I rx ry h
  obtain ⟨p, q, xs, ys, rfl, rfl, hp, hq, ok, hQ⟩ := h
  cases rx
  cases ry
  obtain ⟨us, r, pl, hz⟩ := I.list hp
  obtain ⟨ws, r', pl', hz'⟩ := I.list hq
  have l1 := r.length
  have l2 := r'.length
  by_cases hl : xs.length = ys.length
  · refine SeqAt.RcAt.lists (e := ans xs ys) pl.isList pl'.isList (by simp; omega) hu (fun j h1 h2 => ans_at r r' ok hl j h1 h2) _ _ _ _ ⟨.bl _, H, I, rfl, ?_⟩
    rw [show us.toArray.size = xs.length by simp; omega, zip_ans xs ys hl]
    unfold eqPs at hQ
    rw [decide_eq_true hl, Bool.true_and] at hQ
    exact hQ
  · refine SeqAt.RcAt.lists_lengths pl.isList pl'.isList (by simp; omega) hu _ _ _ _ ⟨.bl _, H, I, rfl, ?_⟩
    unfold eqPs at hQ
    rw [decide_eq_false hl, Bool.false_and] at hQ
    exact hQ
theorem op_neL (hu : X.A.units < cLine) : OpR X (compareOp .NotEq) (rEqL X.K true) := by
  intro pins s σ H x y v u Q I rx ry h
  obtain ⟨p, q, xs, ys, rfl, rfl, hp, hq, ok, hQ⟩ := h
  cases rx
  cases ry
  obtain ⟨us, r, pl, hz⟩ := I.list hp
  obtain ⟨ws, r', pl', hz'⟩ := I.list hq
  have l1 := r.length
  have l2 := r'.length
  by_cases hl : xs.length = ys.length
  · refine SeqAt.RcNeAt.lists (e := ans xs ys) pl.isList pl'.isList (by simp; omega) hu (fun j h1 h2 => ans_at r r' ok hl j h1 h2) _ _ _ _ ⟨.bl _, H, I, rfl, ?_⟩
    rw [show us.toArray.size = xs.length by simp; omega, zip_ans xs ys hl]
    unfold eqPs at hQ
    rw [decide_eq_true hl, Bool.true_and] at hQ
    exact hQ
  · refine SeqAt.RcNeAt.lists_lengths pl.isList pl'.isList (by simp; omega) hu _ _ _ _ ⟨.bl _, H, I, rfl, ?_⟩
    unfold eqPs at hQ
    rw [decide_eq_false hl, Bool.false_and] at hQ
    exact hQ
def tRev (K : PySem.W.Frag) (te : TE) : TE := fun σ H Q => te σ H fun x H1 => ∃ a xs, x = .ref a ∧ SqL K H1 a xs ∧ ∀ p, H1 p = none → Q (.ref p) (upd H1 p (.lst xs.reverse))
theorem pe_rev {e k : Expr} {te : TE} {p2 pos : Pos} (he : PE X e te) (hk : PE X k (tUn (fun x H Q => x = .int 1 ∧ Q (.int (-1)) H) (tC (.int 1)))) : PE X (.Subscript e (.Slice none none (some k) p2) pos) (tRev X.K te) := by
  intro pins s σ H Q I h
  refine Subscript_ (thn (he pins s σ H _ I h) fun v s1 ⟨x, H1, I1, r1, q1⟩ => ?_)
  obtain ⟨a, xs, rfl, hx, q⟩ := q1
  cases r1
  refine wpAny_Slice ?_
  rw [evalPart_none, evalPart_some]
  refine wpAny_pure (wpAny_pure (thn (hk pins s1 σ H1 (fun v H2 => v = .int (-1) ∧ H2 = H1) I1 ⟨rfl, rfl, rfl⟩) fun kv s2 ⟨y, H2, I2, r2, e1, e2⟩ => ?_))
  subst e1 e2
  obtain ⟨t, rfl⟩ := r2
  have I3 := I2.kept (h' := s2.heap.push { cls := .type "slice", data := .fields #[.none, .none, .int (-1) t] }) (t' := s2.toks) fun b ob q => Heap.get?_push_of_some _ q
  obtain ⟨its, r, pl, hz⟩ := I3.list hx
  have hlen := r.length
  refine tail_any (ops := [.ref a, .ref s2.heap.objs.size]) pl.isList.typeIs slot_list_getitem.lookup (wpAny_getItem_list_slice pl.isList (Heap.IsSliceOf.new ..) .none .none (.int (-1) t) (by decide) ?_ (by rw [List.size_toArray] <;> omega)) (by with_unfolding_all rfl)
  rw [PySem.W.krv_pick]
  refine ⟨.ref _, _, I3.laid (t' := s2.toks) (o := .lst xs.reverse) (fun b ob q => Heap.get?_push_of_some _ q) (Nat.le_refl _) ?_, rfl, q _ (I3.hok.fresh (Nat.le_refl _))⟩
  refine ⟨by rw [List.length_reverse]; exact hz, its.reverse, 0, r.reverse, ?_⟩
  have := Heap.get?_push_size (s2.heap.push { cls := .type "slice", data := .fields #[.none, .none, .int (-1) t] }) (o := { cls := .type "list", data := .seq its.reverse.toArray }) rfl
  simpa using this
end
end L2
set_option Elab.async false
set_option linter.all false
set_option maxRecDepth 100000
namespace L2
open PySem PySem.Spec PyProof.Rows
abbrev bmV : List Value := [.type "ValueError", .type "Exception", .type "BaseException", .type "object"]
def strK (es : Array DictEntry) : Bool := es.all fun e => match e.key with | .str _ _ => true | _ => false
theorem strK_ok {es : Array DictEntry} (x : strK es = true) : StrKeys es := fun e he => by
  have hx := Array.all_eq_true_iff_forall_mem.mp x e he
  cases hk : e.key with
  | str a b => exact ⟨a, b, rfl⟩
  | _ => rw [hk] at hx; cases hx
structure ExC (K : PySem.W.Frag) (C T fI : Addr) : Prop where
  cls : ∃ (nm q : Str) (N : Addr) (bs : List Value) (hdct : Bool) (sn : List Str) (sub : List Value) (ab : Bool) (col : Option Bool) (dd : Option Addr) (k0 k1 k2 k3 k5 : Option Value),
    K.lookup C = some (excClassObj nm q C N bs (.ref T :: bmV) hdct sn sub ab col dd k0 k1 k2 k3 k5 "ValueError.__new__")
  top : ∃ (c0 : Value) (dd : Option Addr) (cd : ClassData) (sl : Array (Option Value)), K.lookup T = some ⟨c0, dd, .cls cd, sl⟩ ∧
    ∃ (d0 : Value) (d1 : Option Addr) (es : Array DictEntry) (n : Nat) (sl' : Array (Option Value)), K.lookup cd.ns = some ⟨d0, d1, .dict es n, sl'⟩ ∧ strK es = true ∧ nsFind es "__init__" = none
  init : PySem.W.findIn K (.ref C) "__init__" = some (some (.ref fI))
  fn : PySem.W.isFn K (.ref fI) = true
  kp : PySem.W.keepIn K (.ref C) = true
theorem ExC.tail {K : PySem.W.Frag} {C T fI : Addr} (x : ExC K C T fI) {h : Heap} (X : K.In h) : OwnTail h bmV (.ref T :: bmV) := by
  obtain ⟨c0, dd, cd, sl, h1, d0, d1, es, n, sl', h2, h3, h4⟩ := x.top
  exact .own (X _ _ h1) ⟨_, es, n, X _ _ h2, rfl, strK_ok h3, fun _ => rfl⟩ h4 .base
section
variable {prog : Program} {w : World} {A : Around} {E : Value → Shared → Prop} {K : PySem.W.Frag} {C T fI : Addr} {h : Heap} {g : Array GenState} {d : Drawn} {t : Nat} {os : OsState}
theorem exc_tc (x : ExC K C T fI) (X : K.In h) {us : List Value} {Q : Fin → Shared → Prop}
    (hq : ∀ h' e, Heap.MadeExcOf h h' e (.ref C) us → h.objs.size ≤ e → wpAny (model prog w) A (call (.ref fI) (.ref e :: us)) (fun r s' => r = .none ∧ Q (.done (.ret (.ref e))) s') E ⟨h', g, d, t, os⟩) (hz : us.length ≤ sizeLine) :
    wpAny (model prog w) A (Builtin.«type.__call__» ⟨.ref C :: us, []⟩) Q E ⟨h, g, d, t, os⟩ := by
  have F := PySem.F.excBase_ValueError
  have OT := x.tail X
  obtain ⟨nm, q, N, bs, hdct, sn, sub, ab, col, dd, k0, k1, k2, k3, k5, lk⟩ := x.cls
  have hC := X _ _ lk
  repeat (first
    | with_reducible exact wpAny_loadPart_at hC ‹_›
    | with_reducible refine wpAny_loadPart_at hC ?_
    | with_reducible refine wpAny_madeBy_exc hC ?_
    | wp_step)
  refine codeAny_call_builtin_code (Code.quiet_builtin _ F.quiet) (wpAny_check_new_subU F F.hasB OT hC ?_)
  refine codeAny_exc_new_subU F F.hasB F OT hC ?_ hz
  show wpAny _ _ _ _ _ _
  generalize hg1 : h.push { cls := .type "tuple", data := .seq us.toArray } = h1
  have z1 : h1.objs.size = h.objs.size + 1 := by rw [← hg1]; exact Heap.size_push _ _
  have k1' : ∀ b o, h.get? b = some o → h1.get? b = some o := fun b o e => by rw [← hg1]; exact Heap.get?_push_of_some _ e
  generalize hg2 : h1.push { cls := .ref C, data := .fields #[.ref h.objs.size, .none, .none, .none, .bool false, .none] } = h2
  have k2' : ∀ b o, h1.get? b = some o → h2.get? b = some o := fun b o e => by rw [← hg2]; exact Heap.get?_push_of_some _ e
  have X2 : K.In h2 := X.keeps fun b o e => k2' b o (k1' b o e)
  have hC2 := X2 _ _ lk
  have he : h2.get? (h.objs.size + 1) = some { cls := .ref C, data := .fields #[.ref h.objs.size, .none, .none, .none, .bool false, .none] } := by
    rw [← hg2, ← z1]; exact Heap.get?_push_size _ rfl
  have ht : h2.get? h.objs.size = some { cls := .type "tuple", data := .seq us.toArray } := k2' _ _ (by rw [← hg1]; exact Heap.get?_push_size _ rfl)
  have hcC : (Value.ref C :: Value.ref T :: bmV).contains (.ref C) = true := by simp
  unfold isInstance
  repeat (first | with_reducible refine wpAny_loadPart_at he ?_ | (with_reducible refine wpAny_isSubtype_exc hC2 ?_; rw [hcC]) | wp_step)
  refine (PySem.W.looks_findIn X2 x.init).at (wpAny_holding ?_)
  refine wpAny_bind ?_
  unfold bindSpecial
  refine wpAny_bind ((PySem.W.looks_typeIn X2 (beq_iff_eq.mp x.fn)).at ?_)
  rw [if_pos (by decide)]
  refine wpAny_pure (wpAny_bind (wpAny_mono (hq h2 (h.objs.size + 1) ⟨fun b o e => k2' b o (k1' b o e), Heap.get?_none_of_le (Nat.le_succ _), h.objs.size, he, Heap.get?_none_of_le (Nat.le_refl _), ht⟩ (Nat.le_succ _)) (fun r s' hr => ?_) fun _ _ z => z))
  obtain ⟨rfl, hQ⟩ := hr
  wp_walk
  exact hQ
theorem exc_call (x : ExC K C T fI) (X : K.In h) {us : List Value} {Q : Value → Shared → Prop}
    (hq : ∀ h' e, Heap.MadeExcOf h h' e (.ref C) us → h.objs.size ≤ e → wpAny (model prog w) (A.under (.builtin "type.__call__" ⟨.ref C :: us, []⟩)) (call (.ref fI) (.ref e :: us)) (fun r s' => r = .none ∧ Q (.ref e) s') E ⟨h', g, d, t, os⟩) (hz : us.length ≤ sizeLine) :
    wpAny (model prog w) A (call (.ref C) us) Q E ⟨h, g, d, t, os⟩ := by
  obtain ⟨nm, q, N, bs, hdct, sn, sub, ab, col, dd, k0, k1, k2, k3, k5, lk⟩ := x.cls
  have hC := X _ _ lk
  have f1 := tc_lookup
  have f2 := tc_bind (.ref C)
  have ty : Shared.TypeIs ⟨h, g, d, t, os⟩ (.ref C) "type" := ⟨_, hC, rfl⟩
  refine wpAny_call ?_
  refine codeAny_of_tree ?_
  show wpAny (model prog w) _ (callAny (.ref C) _) _ _ _
  repeat (any_goals (first
    | assumption
    | with_reducible refine wpAny_loadPart_at hC ?_
    | wp_step))
  refine ⟨rfl, ?_⟩
  exact codeAny_call_builtin_at (Code.quiet_builtin _ (by decide +kernel)) entry_typeCall (wpAny_check_type_call_sub hC (exc_tc x X hq hz))
end
end L2
set_option Elab.async false
set_option linter.all false
set_option maxRecDepth 100000
namespace L2
open PySem PySem.Spec PyProof.Rows PySem.Builtin.ObjectAttr
def tbV (tb : Option Addr) : Value := match tb with | none => .none | some b => .ref b
def ExAt (C e : Addr) (dx ar tb : Option Addr) (h : Heap) : Prop := ∃ (o : Obj) (vs : Array Value), h.get? e = some o ∧ o.cls = .ref C ∧ o.dict = dx ∧ o.data = .fields vs ∧ 0 < vs.size ∧ (∀ t, ar = some t → vs[0]? = some (.ref t)) ∧ vs[1]? = some (tbV tb)
def ExO (C e : Addr) (dx ar tb : Option Addr) : HO := .ext (ExAt C e dx ar tb)
def XdAt (a : Addr) (fs : List (Str × V)) (h : Heap) : Prop := fs.length ≤ 1000 ∧ ∃ mA, h.Ns1 a mA ∧ (∀ f, RelO (fs.lookup f) (mA f)) ∧ PySem.Within mA (fs.map (·.1))
def XdO (a : Addr) (fs : List (Str × V)) : HO := .ext (XdAt a fs)
theorem ExAt.stay {C e : Addr} {dx ar tb : Option Addr} {h h' : Heap} (x : ExAt C e dx ar tb h) (k : ∀ o, h.get? e = some o → h'.get? e = some o) : ExAt C e dx ar tb h' :=
  let ⟨o, vs, e1, r⟩ := x; ⟨o, vs, k o e1, r⟩
theorem XdAt.stay {a : Addr} {fs : List (Str × V)} {h h' : Heap} (x : XdAt a fs h) (k : ∀ o, h.get? a = some o → h'.get? a = some o) : XdAt a fs h' :=
  let ⟨z, mA, hn, r⟩ := x; ⟨z, mA, hn.at k, r⟩
section
variable {P : Program} {w : World} {H : Hp} {h : Heap}
theorem exO_ok {C e : Addr} {dx ar tb : Option Addr} (x : ExAt C e dx ar tb h) : ObjOk P w H h e (ExO C e dx ar tb) := by
  refine ⟨x, ?_, fun h1 h2 q k => q.stay k⟩
  obtain ⟨o, _, e1, _⟩ := x
  exact ⟨o, e1⟩
theorem xdO_ok {a : Addr} {fs : List (Str × V)} (x : XdAt a fs h) : ObjOk P w H h a (XdO a fs) := by
  refine ⟨x, ?_, fun h1 h2 q k => q.stay k⟩
  obtain ⟨_, _, ⟨o, _, _, e, _⟩, _⟩ := x
  exact ⟨o, e⟩
end
structure ExF (K : PySem.W.Frag) (C T fI : Addr) : Prop extends ExC K C T fI where
  hd : PySem.W.hasDictIn K C = true
  sa : PySem.W.findIn K (.ref C) "__setattr__" = some (some (.builtin "object.__setattr__"))
section
variable {X : Cx} {pins : List (Addr × Obj)} {σ : St} {H : Hp} {s : Shared} {C T fI e : Addr} {A : Around} {E : Value → Shared → Prop}
theorem ex_get {dx ar tb : Option Addr} (I : Inv X pins σ H s) (he : H e = some (ExO C e dx ar tb)) : ExAt C e dx ar tb s.heap := (I.hok e _ he).1
structure BaseInit (K : PySem.W.Frag) (T : Addr) : Prop where
  ga : PySem.W.specialIn K (.ref T) "__getattribute__" = some (some (.builtin "type.__getattribute__"))
  rd : PySem.W.readsIn K T (.type "type") = true
  at_ : PySem.W.findCls K (.ref T) (.type "type") "__init__" = some (.val (.builtin "ValueError.__init__"))
theorem init_text {dx ar tb : Option Addr} {us : List Value} {rest : List V} {Q : Value → Shared → Prop} (x : ExF X.K C T fI) (I : Inv X pins σ H s) (he : H e = some (ExO C e dx ar tb)) (rv : Vals rest us) (hz : us.length ≤ sizeLine)
    (hq : ∀ t s', H t = none → t ≠ e → Inv X pins σ (upd (upd H t (.tup rest)) e (ExO C e dx (some t) tb)) s' → Q .none s') : wpAny (model X.prog X.w) A (call (.builtin "ValueError.__init__") (.ref e :: us)) Q E s := by
  have F := PySem.F.excBase_ValueError
  have OT := x.tail I.kIn
  obtain ⟨nm, q, N, bs, hdct, sn, sub, ab, col, dd, k0, k1, k2, k3, k5, lk⟩ := x.cls
  have hC := I.kIn _ _ lk
  obtain ⟨o, vs, e1, e2, e3, e4, e5, e6, eT⟩ := ex_get I he
  rcases s with ⟨hp, g, d, tk, os⟩
  refine wpAny_call (codeAny_call_builtin F.init.plain F.initEntry (wpAny_check_init_subU F OT hC e1 e2 ?_))
  show wpAny _ _ (Builtin.«BaseException.__init__» ⟨.ref e :: us, []⟩) _ _ _
  delta Builtin.«BaseException.__init__»
  dsimp only
  rw [if_neg (by simp)]
  unfold Builtin.BaseException.bexcPut newTuple
  have h0 : vs[0]? = some vs[0] := by simp [e5]
  have e1' := Heap.get?_push_of_some (h := hp) { cls := .type "tuple", data := .seq us.toArray } e1
  refine wpAny_bind (wpAny_newObj_type (wpAny_bind (wpAny_bind (wpAny_field e1' e4 h0 (wpAny_bind (wpAny_setField e1' e4 e5 ?_))))) hz)
  have nt : hp.objs.size ≠ e := Nat.ne_of_gt (Heap.lt_size e1)
  have ft : H hp.objs.size = none := I.hok.fresh (Nat.le_refl _)
  have key : Inv X pins σ (upd (upd H hp.objs.size (.tup rest)) e (ExO C e dx (some hp.objs.size) tb)) ⟨(hp.push { cls := .type "tuple", data := .seq us.toArray }).update e (Obj.mapFields (·.setIfInBounds 0 (.ref hp.objs.size))), g, d, tk, os⟩ := by
    have I1 := I.laid (a := hp.objs.size) (o := .tup rest) (h' := hp.push { cls := .type "tuple", data := .seq us.toArray }) (t' := tk) (fun b o q => Heap.get?_push_of_some _ q) (Nat.le_refl _) ⟨by rw [rv.length]; exact hz, _, rv, (by first | exact ⟨IsTup.new _ _, tup_nodict⟩ | exact IsTup.new _ _)⟩
    have e7 : ((hp.push { cls := .type "tuple", data := .seq us.toArray }).update e (Obj.mapFields (·.setIfInBounds 0 (.ref hp.objs.size)))).get? e = some (Obj.mapFields (·.setIfInBounds 0 (.ref hp.objs.size)) o) :=
      Heap.get?_update_self _ e1' (Obj.isFreed_of_fields (Obj.data_mapFields e4 _))
    refine I1.write (x := e) (e := e) (t' := tk) (by rw [upd_ne (Ne.symm nt), he]; trivial) (.inl rfl) (fun b u hb q => (Heap.get?_update_other _ _ (Ne.symm hb)).trans q) ⟨_, e7⟩ (exO_ok ⟨_, _, e7, (Obj.cls_mapFields ..).trans e2, ?_, Obj.data_mapFields e4 _, by simpa using e5, fun t ht => ?_, by rw [Array.getElem?_setIfInBounds_ne (by decide)]; exact eT⟩)
    · have : (Obj.mapFields (·.setIfInBounds 0 (.ref hp.objs.size)) o).dict = o.dict := by
        rcases o with ⟨oc, od, odt, osl⟩
        cases (show odt = _ from e4)
        rfl
      rw [this, e3]
    · cases ht
      simp [e5]
  have fin : wpAny (model X.prog X.w) A.in1 (ret Value.none) (fun fin s' => match fin with
      | Fin.done f => match (Except.ok f : Result) with
        | Except.ok (Flow.ret v) => Q v s'
        | Except.ok a => False
        | Except.error e => E e s'
      | Fin.again c' => c'.quiet = true ∧ codeAny (model X.prog X.w) A c' (fun r s' => match r with
        | Except.ok (Flow.ret v) => Q v s'
        | Except.ok a => False
        | Except.error e => E e s') s') (fun e s' => E e s') _ := wpAny_pure (hq _ _ ft nt key)
  cases vs[0] <;> first
    | exact wpAny_letGo fin
    | exact wpAny_pure fin
theorem exc_refuse (self : Value) : refuseLoop self "__setattr__" (.ref C :: .ref T :: bmV) = pure () := by
  rw [refuseLoop_ref, refuseLoop_ref]
  first
    | kernel_rfl
    | rfl
theorem exset_ok {ar tb : Option Addr} {f : Str} {y : V} {u : Value} {Q : Unit → Shared → Prop} (x : ExF X.K C T fI) (I : Inv X pins σ H s) (he : H e = some (ExO C e none ar tb)) (n : NoAttr X.K C f) (ry : RelV y u)
    (hq : ∀ dx s', H dx = none → dx ≠ e → Inv X pins σ (upd (upd H dx (XdO dx [(f, y)])) e (ExO C e (some dx) ar tb)) s' → Q () s') : wpAny (model X.prog X.w) A (setAttr (.ref e) f u) Q E s := by
  obtain ⟨o, vs, e1, e2, e3, e4, e5, e6, eT⟩ := ex_get I he
  have J : PySem.W.InstAt s.heap e o C none := ⟨e1, e2, by unfold PySem.W.notCls; rw [e4], by rw [e3]; trivial⟩
  refine PySem.W.set_plain I.kIn J x.sa ?_
  have SF : _ := PySem.F.store_object
  obtain ⟨cd, hc, hd'⟩ := PySem.W.any_some x.hd
  obtain ⟨nm, q, N, bs, hdct, sn, sub, ab, col, dd, k0, k1, k2, k3, k5, lk⟩ := x.cls
  have hcd : cd.mro = .ref C :: .ref T :: bmV := by
    unfold PySem.W.clsIn at hc
    rw [lk] at hc
    cases hc
    rfl
  have hm : PySem.W.Looks (model X.prog X.w) s.heap (mroOf (.ref C)) cd.mro := (PySem.W.looks_clsIn I.kIn hc).andThen .now
  have sub : PySem.W.Looks (model X.prog X.w) s.heap (isInstance (.ref e) (.type "object")) true :=
    J.type.andThen (PySem.W.looks_mroIn I.kIn (by unfold PySem.W.mroIn; rw [hc, Option.bind_some, hcd]; rfl))
  have hat := PySem.W.looks_findIn (M := model X.prog X.w) I.kIn (show PySem.W.findIn X.K (.ref C) f = some none from n)
  refine codeAny_call_builtin SF.slot.plain SF.entry (@PySem.W.check_slot (model X.prog X.w) _ _ { s with toks := s.toks + 1 } "object.__setattr__" "object" "__setattr__" (.ref e) [.str f s.toks, u] [] _ SF.kind SF.split sub (SF.args (.ref e) (.str f s.toks) u) ?_)
  rw [PySem.W.osa_eq, refuse_eq]
  refine wpAny_bind (wpAny_bind (PySem.W.Looks.here (s := { s with toks := s.toks + 1 }) J.type (wpAny_bind (PySem.W.Looks.here (s := { s with toks := s.toks + 1 }) hm ?_))))
  rw [hcd, exc_refuse]
  refine wpAny_pure (wpAny_bind (PySem.W.Looks.here (s := { s with toks := s.toks + 1 }) J.type (wpAny_bind (PySem.W.Looks.here (s := { s with toks := s.toks + 1 }) hat (wpAny_bind (wpAny_pure ?_))))))
  show wpAny _ _ (storeInOwnDict (.ref e) (.ref C) (.str f s.toks) f u false) _ _ _
  have e1b : s.heap.get? e = some ⟨.ref C, none, .fields vs, o.slots⟩ := by
    rcases o with ⟨oc, od, odt, osl⟩
    cases (show oc = _ from e2)
    cases (show od = _ from e3)
    cases (show odt = _ from e4)
    exact e1
  unfold storeInOwnDict
  refine wpAny_bind (wpAny_pure ?_)
  dsimp only
  rw [if_neg (by intro z; cases z)]
  refine wpAny_bind ?_
  unfold ownDictForStores instanceDict
  refine wpAny_bind (wpAny_loadPart (s := { s with toks := s.toks + 1 }) e1b ?_)
  dsimp only
  refine wpAny_bind (PySem.W.Looks.here (s := { s with toks := s.toks + 1 }) (PySem.W.looks_clsIn I.kIn hc) ?_)
  rw [hd', if_neg (by decide), if_neg (show ¬ (!true || !typeHasDict (.ref C)) = true from Bool.false_ne_true)]
  have nd : s.heap.objs.size ≠ e := Nat.ne_of_gt (Heap.lt_size e1)
  refine wpAny_bind (wpAny_alloc (wpAny_bind (wpAny_update (Heap.get?_push_of_some _ e1b) (wpAny_pure ?_))))
  show wpAny _ _ (storeInDict s.heap.objs.size (.str f s.toks) f u) _ _ _
  generalize hg1 : s.heap.push { cls := .type "dict", data := .dict #[] } = g1
  have p1 : ∀ b o, s.heap.get? b = some o → g1.get? b = some o := fun b o q => by rw [← hg1]; exact Heap.get?_push_of_some _ q
  have q1 : g1.get? s.heap.objs.size = some { cls := .type "dict", data := .dict #[] } := by rw [← hg1]; exact Heap.get?_push_size _ rfl
  have z1 : g1.objs.size = s.heap.objs.size + 1 := by rw [← hg1]; exact Heap.size_push _ _
  generalize hg2 : g1.update e (fun o => { cls := o.cls, dict := some s.heap.objs.size, data := o.data, slots := o.slots }) = g2
  have q2 : g2.get? s.heap.objs.size = some { cls := .type "dict", data := .dict #[] } := by rw [← hg2, Heap.get?_update_other _ _ (Ne.symm nd)]; exact q1
  have q2e : g2.get? e = some ⟨.ref C, some s.heap.objs.size, .fields vs, o.slots⟩ := by rw [← hg2, Heap.get?_update_self _ (p1 _ _ e1b) rfl]
  have q2o : ∀ b, b ≠ e → g2.get? b = g1.get? b := fun b hb => by rw [← hg2]; exact Heap.get?_update_other _ _ (Ne.symm hb)
  have n2 : g2.Ns s.heap.objs.size (fun _ => none) := ⟨_, #[], _, q2, rfl, (fun e he => absurd he (by simp)), fun _ => rfl⟩
  unfold storeInDict
  refine wpAny_bind (wpAny_pure (wpAny_bind (wpAny_nsSet1 (s := ⟨g2, s.gens, s.drawn, s.toks + 1, s.os⟩) (Heap.Ns1.of_empty n2) fun h3 hn3 hs3 => ?_)))
  have wi : PySem.Within (fun z => if z = f then some u else none) [f] := fun z hz => by
    by_cases q : z = f
    · simp [q]
    · exact absurd (if_neg q) hz
  obtain ⟨oD, esD, epD, hoD, hdD, hcD⟩ := hn3.count wi
  refine wpAny_bind (wpAny_lookBehind hoD (by rw [hdD]; exact pastItsLine_dict (Nat.le_trans hcD (by rw [sizeLine_eq, List.length_singleton]; decide))) ?_)
  refine wpAny_pure (hq s.heap.objs.size _ (I.hok.fresh (Nat.le_refl _)) nd ?_)
  -- the dict first, with what it holds; then the error that has it
  have kA : (s.heap.push oD).get? s.heap.objs.size = some oD := Heap.get?_push_size _ (Obj.isFreed_of_dict hdD)
  have I1 := I.laid (a := s.heap.objs.size) (o := XdO s.heap.objs.size [(f, y)]) (h' := s.heap.push oD) (t' := s.toks + 1 + 1) (fun b u q => Heap.get?_push_of_some _ q) (Nat.le_refl _)
    (xdO_ok ⟨Nat.le_of_ble_eq_true rfl, _, hn3.at fun o q => by rw [hoD] at q; cases q; exact kA, fun z => ?_, wi⟩)
  · refine I1.write (x := e) (e := e) (t' := s.toks + 1 + 1) (by rw [upd_ne (Ne.symm nd), he]; trivial) (.inl rfl) (fun b v hb q => ?_) ⟨_, hs3.extBut _ _ (Ne.symm nd) q2e⟩ (exO_ok ⟨_, vs, hs3.extBut _ _ (Ne.symm nd) q2e, rfl, rfl, rfl, e5, e6, eT⟩)
    by_cases hbd : b = s.heap.objs.size
    · subst hbd
      rw [kA] at q
      cases q
      exact hoD
    · have hlt : b < s.heap.objs.size := by
        have z := Heap.lt_size q
        have z2 : (s.heap.push oD).objs.size = s.heap.objs.size + 1 := Heap.size_push _ _
        have z3 : b < s.heap.objs.size + 1 := by rw [← z2]; exact z
        exact Nat.lt_of_le_of_ne (Nat.le_of_lt_succ z3) hbd
      have q' : s.heap.get? b = some v := by
        obtain ⟨a1, a2⟩ := Heap.get?_some_iff.mp q
        refine Heap.get?_some_iff.mpr ⟨?_, a2⟩
        have : (s.heap.objs.push oD)[b]? = some v := a1
        rw [Array.getElem?_push_lt hlt] at this
        simpa [hlt] using this
      exact hs3.extBut _ _ hbd (by rw [q2o b hb]; exact p1 _ _ q')
  · show RelO ([(f, y)].lookup z) (if z = f then some u else none)
    by_cases q : z = f
    · subst q
      rw [if_pos rfl, List.lookup_cons]
      simp
      exact ry
    · rw [if_neg q, List.lookup_cons]
      have : (z == f) = false := beq_eq_false_iff_ne.mpr q
      rw [this]
      trivial
theorem exget_ok {dx : Addr} {ar tb : Option Addr} {fs : List (Str × V)} {f : Str} {y : V} {b : Bool} {Q : Value → Shared → Prop} (g : PySem.W.hasDictIn X.K C = true) (I : Inv X pins σ H s) (he : H e = some (ExO C e (some dx) ar tb)) (hx : H dx = some (XdO dx fs)) (n : NoAttr X.K C f)
    (l : fs.lookup f = some y) (ga : ∀ {o : Obj} {od : Option Obj} {v : Value}, PySem.W.InstAt s.heap e o C od → PySem.W.findObj X.K C od f = some (.value v) → PySem.W.handedIn v = true → Q v { s with toks := s.toks + 1 } → wpAny (model X.prog X.w) A (getAttr (.ref e) f b) Q E s)
    (hq : ∀ u s', Inv X pins σ H s' → RelV y u → Q u s') : wpAny (model X.prog X.w) A (getAttr (.ref e) f b) Q E s := by
  obtain ⟨o, vs, e1, e2, e3, e4, e5, e6, eT⟩ := ex_get I he
  obtain ⟨hzl, mA, hn, rA, wA⟩ := (show XdAt dx fs s.heap from (I.hok dx _ hx).1)
  obtain ⟨oD, q, hl⟩ := lookIn_ns hn
  obtain ⟨u, hu, ru⟩ := RelO.some_of (v := y) (o := mA f) (by rw [← l]; exact rA f)
  exact ga ⟨e1, e2, by unfold PySem.W.notCls; rw [e4], by rw [e3]; exact q⟩ (PySem.W.findObj_own g n rfl (by rw [hl, hu])) (handed_of ru) (hq u _ (I.tok _) ru)
end
end L2
set_option Elab.async false
set_option linter.all false
set_option maxRecDepth 100000
namespace L2
open PySem PySem.Spec PyProof.Rows PySem.Builtin.ObjectAttr
structure ExG (K : PySem.W.Frag) (C : Addr) : Prop where
  ga : PySem.W.findIn K (.ref C) "__getattribute__" = some (some (.builtin "BaseException.__getattribute__"))
  no : PySem.W.findIn K (.ref C) "__getattr__" = some none
  be : PySem.W.mroIn K C (.type "BaseException") = some true
  hd : PySem.W.hasDictIn K C = true
  ca : PySem.W.findIn K (.ref C) "__class__" = some (some (.builtin "object.__class__"))
  cn : PySem.W.specialIn K (.builtin "object.__class__") "__get__" = some (some (.builtin "getset_descriptor.__get__"))
  ct : PySem.W.takesIn K (.builtin "object.__class__") = some true
  ob : PySem.W.mroIn K C (.type "object") = some true
  ki : PySem.W.subIn K (.ref C) (.type "int") = some false
  kb : PySem.W.subIn K (.ref C) (.type "bool") = some false
  kl : PySem.W.subIn K (.ref C) (.type "list") = some false
  kt : PySem.W.subIn K (.ref C) (.type "tuple") = some false
def foundRun (r : Found) (e C : Addr) (name : Str) : Sem PySem.Fin := match r with
  | .value v => ret v
  | .bind g a => bindTo g a (.ref e) (.ref C)
  | .missing => noSuchAttribute (.ref e) name
section
variable {prog : Program} {w : World} {A : Around} {E : Value → Shared → Prop} {s : Shared} {K : PySem.W.Frag} {e C : Addr} {o : Obj} {od : Option Obj} {name : Str}
theorem exga_by {fill expr : Bool} {tk : Tok} {r : Found} {Q : Value → Shared → Prop} (x : ExG K C) (X : K.In s.heap) (I : PySem.W.InstAt s.heap e o C od) (hf : PySem.W.findObj K C od name = some r) (hr : r ≠ .missing)
    (h : wpAny (model prog w) A.in1 (foundRun r e C name) (fun fin s' => match fin with | .done (.ret v) => wpAny (model prog w) A (handedOut v) Q E s' | _ => False) (fun _ _ => False) s) :
    wpAny (model prog w) A (getAttrBy (.ref e) (.str name tk) fill expr) Q E s := by
  have SL := PySem.F.attr_ValueError.ga
  unfold getAttrBy
  refine wpAny_holding (wpAny_bind (I.type.here (wpAny_bind ((PySem.W.looks_findIn X x.ga).here ?_))))
  dsimp only
  rw [if_neg (by rw [show (Value.builtin "BaseException.__getattribute__" == Value.builtin "object.__getattribute__") = false from by decide +kernel, Bool.and_false]; decide)]
  unfold getAttrByItsOwn
  refine wpAny_bind ((PySem.W.looks_hook (mc := .ref C) X (r := none) (by rw [if_pos (by rfl)]; exact x.no)).here (wpAny_bind (wpAny_attempt (wpAny_holding ?_))))
  unfold callGetattribute
  rw [if_neg (by rw [show onTheHeap (Value.builtin "BaseException.__getattribute__") = false from rfl, Bool.and_false]; decide)]
  unfold boundAndCalled
  rw [SL.bind]
  refine wpAny_bind (wpAny_pure ?_)
  show wpAny _ _ (call (.builtin "BaseException.__getattribute__") [.ref e, .str name tk]) _ _ _
  refine wpAny_call (codeAny_call_builtin SL.plain PySem.F.entry_bexc_ga ?_)
  refine @PySem.W.check_slot (model prog w) _ _ s "BaseException.__getattribute__" "BaseException" "__getattribute__" (.ref e) [.str name tk] [] _ (by decide +kernel) (by decide +kernel) (I.type.andThen (PySem.W.looks_mroIn X x.be)) (PySem.F.args_bexc_ga (.ref e) (.str name tk)) ?_
  delta Builtin.«object.__getattribute__»
  refine wpAny_bind (wpAny_pure (wpAny_bind (wpAny_pure (wpAny_bind (I.type.here (wpAny_bind ((PySem.W.looks_find X I hf).here ?_)))))))
  refine wpAny_mono (show wpAny (model prog w) A.in1 _ (fun fin s' => match fin with | .done (.ret v) => wpAny (model prog w) A (handedOut v) Q E s' | _ => False) (fun _ _ => False) s from ?_) (fun fin s' z => ?_) fun _ _ z => z.elim
  · cases r with
    | value v => exact h
    | bind g a => exact h
    | missing => exact absurd rfl hr
  · rcases fin with (_ | _ | _ | _) | _ <;> first | exact z | exact z.elim
theorem exga_value {v : Value} {expr : Bool} {Q : Value → Shared → Prop} (x : ExG K C) (X : K.In s.heap) (I : PySem.W.InstAt s.heap e o C od) (hf : PySem.W.findObj K C od name = some (.value v)) (hh : PySem.W.handedIn v = true)
    (h : Q v { s with toks := s.toks + 1 }) : wpAny (model prog w) A (getAttr (.ref e) name expr) Q E s := by
  unfold getAttr
  refine wpAny_bind (wpAny_mkText (exga_by (s := { s with toks := s.toks + 1 }) x X I hf (fun z => nomatch z) (wpAny_pure ?_)))
  show wpAny (model prog w) _ (handedOut v) _ _ _
  rw [PySem.W.handedOut_of hh]
  exact wpAny_pure h
theorem exga_class {Q : Option Value → Shared → Prop} (x : ExG K C) (X : K.In s.heap) (I : PySem.W.InstAt s.heap e o C od) (h : Q (some (.ref C)) { s with toks := s.toks + 1 }) : wpAny (model prog w) A (getAttr? (.ref e) "__class__") Q E s := by
  have hf : PySem.W.findObj K C od "__class__" = some (.bind (.builtin "getset_descriptor.__get__") (.builtin "object.__class__")) := by
    obtain ⟨cd, hc, _⟩ := PySem.W.any_some x.hd
    unfold PySem.W.findObj
    rw [hc, Option.bind_some, x.ca, Option.bind_some]
    simp [x.cn, x.ct]
  unfold getAttr? getAttrBy?
  refine wpAny_bind (wpAny_mkText (wpAny_bind (wpAny_attempt (exga_by (s := { s with toks := s.toks + 1 }) x X I hf (fun z => nomatch z) ?_))))
  show wpAny _ _ (holding [.builtin "object.__class__"] (call (.builtin "getset_descriptor.__get__") [.builtin "object.__class__", .ref e, .ref C]) >>= ret) _ _ _
  refine wpAny_bind (wpAny_holding (wpAny_call (PySem.W.class_get (s := { s with toks := s.toks + 1 }) X I x.ob ?_)))
  refine wpAny_pure ?_
  show wpAny _ _ (handedOut (.ref C)) _ _ _
  rw [PySem.W.handedOut_of rfl]
  refine wpAny_pure ?_
  exact wpAny_pure h
theorem kitx_exc {dx ar tb : Option Addr} (x : ExG K C) : PySem.W.KitX K (.ref e) (.ref C) (fun h => ExAt C e dx ar tb h ∧ ∀ d, dx = some d → ∃ oD, h.get? d = some oD) where
  ty := fun _ h X p => by
    obtain ⟨⟨o, vs, e1, e2, _⟩, _⟩ := p
    exact e2 ▸ (PySem.W.Looks.ld e1).andThen .now
  it := fun _ _ X _ => by
    obtain ⟨cdD, hcD, _⟩ := PySem.W.any_some x.hd
    unfold PySem.W.clsIn at hcD
    split at hcD
    · rename_i c' d' cd' sl' ho
      intro A' Q' E' s' k q
      have hk := k _ _ (X _ _ ho)
      unfold isType loadHead
      exact wpAny_bind (wpAny_loadPart hk (wpAny_pure q))
    · cases hcD
  ne := fun _ tp _ _ _ _ X htp => by
    obtain ⟨cdD, hcD, _⟩ := PySem.W.any_some x.hd
    by_cases z : C = tp
    case neg => exact Bool.eq_false_iff.mpr (fun q => z (Value.ref.inj (beq_iff_eq.mp q)))
    subst z
    unfold PySem.W.clsIn at hcD
    split at hcD
    · rename_i c' d' cd' sl' ho
      exact nomatch (X _ _ ho).symm.trans htp
    · cases hcD
  ca := fun X p k => by
    obtain ⟨⟨o, vs, e1, e2, e3, e4, _⟩, hD⟩ := p
    cases dx with
    | none => exact exga_class (od := none) x X ⟨e1, e2, by unfold PySem.W.notCls; rw [e4], by rw [e3]; trivial⟩ k
    | some d =>
      obtain ⟨oD, q⟩ := hD d rfl
      exact exga_class (od := some oD) x X ⟨e1, e2, by unfold PySem.W.notCls; rw [e4], by rw [e3]; exact q⟩ k
end
end L2
set_option Elab.async false
set_option linter.all false
set_option maxRecDepth 100000
namespace L2
open PySem PySem.Spec PyProof.Rows
inductive Thg (K : PySem.W.Frag) (H : Hp) : V → Value → Prop where
  | non : Thg K H .non (.type "NoneType")
  | bl (x : Bool) : Thg K H (.bl x) (.type "bool")
  | int (i : Int) : Thg K H (.int i) (.type "int")
  | str (x : Str) : Thg K H (.str x) (.type "str")
  | lst {a : Addr} {xs : List V} (e : H a = some (.lst xs)) : Thg K H (.ref a) (.type "list")
  | frz {a : Addr} {o : Obj} {xs : List V} (e : H a = some (.frz o (.lst xs))) : Thg K H (.ref a) (.type "list")
  | tup {a : Addr} {xs : List V} (e : H a = some (.tup xs)) : Thg K H (.ref a) (.type "tuple")
  | dK {a : Addr} {kvs : List (Key × V)} (e : H a = some (.dK kvs)) : Thg K H (.ref a) (.type "dict")
  | exc {a C : Addr} {dx : Addr} {ar tb : Option Addr} {u : HO} (e : H a = some (ExO C a (some dx) ar tb)) (d : H dx = some u) (x : ExG K C) : Thg K H (.ref a) (.ref C)
  | exn {a C : Addr} {ar tb : Option Addr} (e : H a = some (ExO C a none ar tb)) (x : ExG K C) : Thg K H (.ref a) (.ref C)
theorem Thg.keep {K : PySem.W.Frag} {H H' : Hp} {v : V} {t : Value} (x : Thg K H v t) (k : ∀ a o, H a = some o → H' a = some o) : Thg K H' v t := by
  cases x with
  | non => exact .non
  | bl x => exact .bl x
  | int i => exact .int i
  | str x => exact .str x
  | lst e => exact .lst (k _ _ e)
  | frz e => exact .frz (k _ _ e)
  | tup e => exact .tup (k _ _ e)
  | dK e => exact .dK (k _ _ e)
  | exc e d x => exact .exc (k _ _ e) (k _ _ d) x
  | exn e x => exact .exn (k _ _ e) x
section
variable {X : Cx} {pins : List (Addr × Obj)} {σ : St} {H : Hp} {s : Shared}
theorem ObjOk.there {P : Program} {w : World} {H : Hp} {h : Heap} {a : Addr} {o : HO} (x : ObjOk P w H h a o) : ∃ ob, h.get? a = some ob := by
  cases o with
  | lst xs => obtain ⟨_, _, _, _, e⟩ := x; exact ⟨_, e⟩
  | tup xs => obtain ⟨_, _, _, ⟨ob, e, _⟩, _⟩ := x; exact ⟨ob, e⟩
  | dK kvs => obtain ⟨_, _, _, _, o, _, _, e, _⟩ := x; exact ⟨o, e⟩
  | dT kvs => obtain ⟨_, _, _, _, o, _, _, e, _⟩ := x; exact ⟨o, e⟩
  | set S n => obtain ⟨o, _, _, _, e, _⟩ := x; exact ⟨o, e⟩
  | ins C dx fs => obtain ⟨_, _, _, e, _⟩ := x; exact ⟨_, e⟩
  | own y => exact x
  | xd fs => obtain ⟨_, ⟨o, _, _, e, _⟩, _⟩ := x; exact ⟨o, e⟩
  | rng lo hi => obtain ⟨_, _, _, e⟩ := x; exact ⟨_, e⟩
  | frz ob u => obtain ⟨e, _⟩ := x; exact ⟨ob, e⟩
  | tbl ps => exact ⟨_, x⟩
  | met f y => exact ⟨_, x⟩
  | ext φ => exact x.2.1
theorem Thg.kit {v : V} {u t : Value} (I : Inv X pins σ H s) (r : RelV v u) (x : Thg X.K H v t) : u ≠ .builtin "__main__.__loader__#opaque" ∧ ∃ φ, PySem.W.KitX X.K u t φ ∧ φ s.heap := by
  cases x with
  | non => cases (show u = Value.none from r); exact ⟨(fun z => nomatch z), _, PySem.W.kitx_none, True.intro⟩
  | bl y => cases (show u = Value.bool y from r); exact ⟨(fun z => nomatch z), _, PySem.W.kitx_bool, True.intro⟩
  | int i => obtain ⟨t, q⟩ := (show ∃ t, u = Value.int i t from r); cases q; exact ⟨(fun z => nomatch z), _, PySem.W.kitx_int, True.intro⟩
  | str y => obtain ⟨t, q⟩ := (show ∃ t, u = Value.str y t from r); cases q; exact ⟨(fun z => nomatch z), _, PySem.W.kitx_str, True.intro⟩
  | @lst a xs ea =>
    cases (show u = Value.ref a from r)
    obtain ⟨_, _, n, _, h1⟩ := (show ObjOk X.prog X.w H s.heap a (.lst xs) from I.hok a _ ea)
    exact ⟨(fun z => nomatch z), _, PySem.W.kitx_list, ⟨_, h1, rfl⟩⟩
  | @frz a ob xs ea =>
    cases (show u = Value.ref a from r)
    obtain ⟨_, _, _, n, _, h1⟩ := (show ObjOk X.prog X.w H s.heap a (.frz ob (.lst xs)) from I.hok a _ ea)
    exact ⟨(fun z => nomatch z), _, PySem.W.kitx_list, ⟨_, h1, rfl⟩⟩
  | @tup a xs ea =>
    cases (show u = Value.ref a from r)
    obtain ⟨_, _, _, p, _⟩ := (show ObjOk X.prog X.w H s.heap a (.tup xs) from I.hok a _ ea)
    obtain ⟨o, h1, h2, _⟩ := p
    exact ⟨(fun z => nomatch z), _, PySem.W.kitx_tuple, ⟨o, h1, h2⟩⟩
  | @dK a kvs ea =>
    cases (show u = Value.ref a from r)
    obtain ⟨_, _, vs, _, p⟩ := (show ObjOk X.prog X.w H s.heap a (.dK kvs) from I.hok a _ ea)
    obtain ⟨o, es, ep, h1, h2, _⟩ := p
    exact ⟨(fun z => nomatch z), _, PySem.W.kitx_dict, ⟨o, h1, h2.1⟩⟩
  | @exc a C dx ar tb w ea ed x =>
    cases (show u = Value.ref a from r)
    refine ⟨(fun z => nomatch z), _, kitx_exc (dx := some dx) x, (I.hok a _ ea).1, fun d hd => ?_⟩
    cases hd
    exact (I.hok dx _ ed).there
  | @exn a C ar tb ea x =>
    cases (show u = Value.ref a from r)
    exact ⟨(fun z => nomatch z), _, kitx_exc (dx := none) x, (I.hok a _ ea).1, fun d hd => nomatch hd⟩
def vOf : V → Value
  | .ty n => .type n
  | .ref a => .ref a
  | _ => .none
theorem vals_vOf : ∀ {cs : List V} {us : List Value}, Vals cs us → (∀ c ∈ cs, (∃ n, c = .ty n) ∨ ∃ a, c = .ref a) → us = cs.map vOf
  | _, _, .nil, _ => rfl
  | c :: cs, u :: us, .cons r t, h => by
    rw [List.map_cons, vals_vOf t fun c hc => h c (List.mem_cons_of_mem _ hc)]
    rcases h c List.mem_cons_self with ⟨n, rfl⟩ | ⟨a, rfl⟩
    · cases (show u = Value.type n from r); rfl
    · cases (show u = Value.ref a from r); rfl
def rInst (K : PySem.W.Frag) : List V → Hp → VK → Prop := fun xs H Q => ∃ v c t b, xs = [v, c] ∧ Thg K H v t ∧
  ((∃ T, c = .ty T ∧ PySem.W.kitOne K t (.type T) = some b) ∨ (∃ C, c = .ref C ∧ PySem.W.kitOne K t (.ref C) = some b) ∨
    ∃ tp cs, c = .ref tp ∧ H tp = some (.tup cs) ∧ (∀ c ∈ cs, (∃ n, c = .ty n) ∨ ∃ a, c = .ref a) ∧ PySem.W.kitAny K t (cs.map vOf) = some b) ∧ Q (.bl b) H
theorem call_inst : CallR X (.builtin "isinstance") (rInst X.K) := by
  intro pins s σ H xs us Q I r h
  obtain ⟨v, c, t, b, rfl, x, hc, q⟩ := h
  obtain ⟨u, u', rfl, ru, ru'⟩ := vals2 r
  obtain ⟨hx, φ, Z, p⟩ := x.kit I ru
  have fin : ∀ tk, EP X pins σ Q (.bool b) { s with toks := tk } := fun tk => ⟨.bl b, H, I.tok tk, rfl, q⟩
  rcases hc with ⟨T, rfl, e⟩ | ⟨C, rfl, e⟩ | ⟨tp, cs, rfl, ht, hcs, e⟩
  · cases (show u' = Value.type T from ru')
    exact PySem.W.kia_one Z I.kIn p e hx fin
  · cases (show u' = Value.ref C from ru')
    exact PySem.W.kia_one Z I.kIn p e hx fin
  · cases (show u' = Value.ref tp from ru')
    obtain ⟨_, its, rv, ⟨o, h1, h2, n, h3⟩, _⟩ := (show ObjOk X.prog X.w H s.heap tp (.tup cs) from I.hok tp _ ht)
    rcases o with ⟨oc, od, odt, osl⟩
    cases (show oc = _ from h2)
    cases (show odt = _ from h3)
    rw [← vals_vOf rv hcs] at e
    exact PySem.W.kia_tup Z I.kIn p h1 e hx fin
end
section
variable {X : Cx} {C T fI : Addr}
def tEx (C : Addr) (sp : Sp) (t : TA) : TE := fun σ H Q => t σ H fun vs H1 => vs.length ≤ sizeLine ∧ ∀ e, H1 e = none → sp (.ref e :: vs) (upd H1 e (ExO C e none none none)) (fun v H2 => v = .non ∧ Q (.ref e) H2) E0
theorem pe_exc {k : Nat} {fd : FuncData} {ps : List Str} {sp : Sp} {x : Str} {p pos : Pos} {e : Expr} {es : List Expr} {t : TA} (M : ExF X.K C T fI) (F : FnOk X.prog X.w X.K X.mg X.base CX0 k fI fd ps sp) (hr : Room (k + 1) X.A) (hg : Gl X x) (hm : X.mg x = some (.ref C))
    (hb : Binds X.K fd ps []) (ha : PA X (e :: es) t) (hdb : (x == ("__debug__" : Str)) = false := by decide) (he : starEach (e :: es) X.env = (false, eval e X.env) :: starEach es X.env := by rfl) (hpl : (backTo pos (starEach es X.env)).any (·.1) = false := by rfl) :
    PE X (.Call (.Name x p) (e :: es) [] pos) (tEx C sp t) := by
  intro pins s σ H Q I h
  refine wpAny_Call_Name_kw (ld_glob I hg hm ?_ hdb)
  refine PySem.W.callWith_K (h₀ := X.base) I.ok.mod.kin M.kp (thn (ha pos pins s σ H _ I h) fun us s1 ⟨vs, H1, I1, r, hz, q⟩ => ⟨I1.kIn, ?_⟩) he hpl
  obtain ⟨hp, g, d, tk, os⟩ := s1
  refine exc_call M.toExC I1.kIn (fun h' e hm hle => ?_) (by rw [List.nil_append, ← r.length]; exact hz)
  obtain ⟨hk, hn, tt, h1, _, h2⟩ := hm
  have I2 : Inv X pins σ (upd H1 e (ExO C e none none none)) ⟨h', g, d, tk, os⟩ := I1.laid (a := e) (o := ExO C e none none none) (h' := h') (t' := tk) hk hle (exO_ok ⟨_, _, h1, rfl, rfl, rfl, by show 0 < 6; decide, (fun t z => nomatch z), rfl⟩)
  have hq := q e (I1.hok.fresh hle)
  have r2 : Vals (V.ref e :: vs) (Value.ref e :: us) := .cons rfl r
  have hl : (Value.ref e :: us ++ []).length = ps.length := by
    have e1 := r2.length
    rw [F.len _ _ _ _ hq] at e1
    rw [List.append_nil]
    exact e1.symm
  have hbb := hb ⟨h', g, d, tk, os⟩ (Value.ref e :: us) I2.kIn hl
  rw [List.append_nil] at hbb
  refine wpAny_call (codeAny_mono (F.run _ X.stack _ _ ⟨Value.ref e :: us, []⟩ (Value.ref e :: us) _ _ E0 (hr.make C us []) (I2.env0.make C us []) hbb r2 hq) fun rr s' hq' => ?_)
  cases rr with
  | error e => exact False.elim hq'
  | ok fl =>
    cases fl with
    | ret u =>
      obtain ⟨v, H', I3, rv, ev, q3⟩ := I2.after hq'
      subst ev
      exact ⟨rv, ⟨V.ref e, H', I3, rfl, q3⟩⟩
    | next => exact False.elim hq'
    | brk => exact False.elim hq'
    | cont => exact False.elim hq'
def tBI (C : Addr) (t : TA) : TE := fun σ H Q => t σ H fun vs H1 => ∃ e dx ar tb rest, vs = .ref e :: rest ∧ rest.length ≤ sizeLine ∧ H1 e = some (ExO C e dx ar tb) ∧ ∀ t, H1 t = none → t ≠ e → Q .non (upd (upd H1 t (.tup rest)) e (ExO C e dx (some t) tb))
theorem pe_baseInit {pl : Sem Bool} {x : Str} {p apos pos : Pos} {e : Expr} {es : List Expr} {t : TA} (M : ExF X.K C T fI) (B : BaseInit X.K T) (hg : Gl X x) (hm : X.mg x = some (.ref T)) (ha : PA X (e :: es) t)
    (hdb : (x == ("__debug__" : Str)) = false := by decide) (he : starEach (e :: es) X.env = (false, eval e X.env) :: starEach es X.env := by rfl) (hpl : (backTo pos (starEach es X.env)).any (·.1) = false := by rfl)
    (ht : eval (.Call (.Attribute (.Name x p) "__init__" apos) (e :: es) [] pos) X.env = (do
      let ov ← eval (.Name x p) X.env
      standAt apos.atName
      let (f, first) ← holding [ov] (getMethod ov "__init__" pl)
      callWith pos f first (backTo pos (starEach (e :: es) X.env)) (backToKw pos (keywordEach [] X.env))) := by rfl) :
    PE X (.Call (.Attribute (.Name x p) "__init__" apos) (e :: es) [] pos) (tBI C t) := by
  intro pins s σ H Q I h
  refine PySem.W.methodCall_KW (pl := pl) (ld_glob I hg hm ?_ hdb) ht
  refine PySem.W.method_cls I.kIn B.ga (PySem.W.cls_value I.kIn B.rd B.at_ (by decide +kernel) ?_)
  refine PyProof.Rows.callWith_builtin1 (thn (ha pos pins { s with toks := s.toks + 1 } σ H _ (I.tok _) h) fun us s1 ⟨vs, H1, I1, r, q⟩ => ?_) he hpl
  obtain ⟨e', dx, ar, tb, rest, rfl, hz, hE, q⟩ := q
  cases r with
  | cons r1 r2 =>
    cases r1
    exact init_text M I1 hE r2 (by rw [← r2.length]; exact hz) fun t s' f1 f2 I' => ⟨.non, _, I', rfl, q t f1 f2⟩
def sExF (K : PySem.W.Frag) (C : Addr) (ta tv : TE) (f : Str) : TS := fun D σ H => tv σ H fun y H1 => ta σ H1 fun x H2 => ∃ e ar tb, x = .ref e ∧ H2 e = some (ExO C e none ar tb) ∧ NoAttr K C f ∧
  ∀ dx, H2 dx = none → dx ≠ e → D.nx σ (upd (upd H2 dx (XdO dx [(f, y)])) e (ExO C e (some dx) ar tb))
theorem ps_exf {o value : Expr} {f : Str} {pos pos' : Pos} {ta tv : TE} (M : ExF X.K C T fI) (ha : PE X o ta) (hv : PE X value tv) (hs : swapsWith value (some (.Attribute o f pos')) pos.line X.env = pure false) : PS X (.Assign [.Attribute o f pos'] value pos) (sExF X.K C ta tv f) := by
  intro pins s σ H D I h
  refine plainObj_wpAny_Assign_Attribute (thn (hv pins s σ H _ I h) fun u s1 ⟨y, H1, I1, ry, q⟩ => thn (ha pins s1 σ H1 _ I1 q) fun ov s2 ⟨x, H2, I2, rx, e, ar, tb, ex, ea, n, q2⟩ => ?_) hs
  subst ex
  obtain rfl : ov = Value.ref e := rx
  exact exset_ok M I2 ea n ry fun dx s3 h1 h2 I3 => ⟨σ, _, I3, q2 dx h1 h2⟩
def tExFld (K : PySem.W.Frag) (ta : TE) (f : Str) : TE := fun σ H Q => ta σ H fun x H1 => ∃ e C dx ar tb fs y, x = .ref e ∧ H1 e = some (ExO C e (some dx) ar tb) ∧ H1 dx = some (XdO dx fs) ∧ ExG K C ∧ NoAttr K C f ∧ fs.lookup f = some y ∧ Q y H1
theorem pe_exfld {e : Expr} {f : Str} {pos : Pos} {ta : TE} (he : PE X e ta) (hb : attributeBase e f X.env (eval e X.env) = eval e X.env) : PE X (.Attribute e f pos) (tExFld X.K ta f) := by
  intro pins s σ H Q I h
  refine attr_of hb (thn (he pins s σ H _ I h) fun u s1 ⟨x, H1, I1, rx, a, C, dx, ar, tb, fs, y, ex, ea, ed, g, n, l, q⟩ => ?_)
  subst ex
  obtain rfl : u = Value.ref a := rx
  exact exget_ok g.hd I1 ea ed n l (fun J hf hh hq => exga_value g I1.kIn J hf hh hq) fun u' s2 I2 ru => ⟨y, H1, I2, ru, q⟩
end
end L2
set_option Elab.async false
set_option linter.all false
set_option maxRecDepth 100000
namespace L2
open PySem PySem.Spec PyProof.Rows
section
variable {prog : Program} {w : World} {A : Around} {E : Value → Shared → Prop} {s : Shared} {K : PySem.W.Frag} {e C t : Addr} {o : Obj} {od : Option Obj} {vs : Array Value} {m : Str} {tk : Tok} {nm : String}
variable {P : Program} {p : Addr} {H H' : Hp} {as as' : List Addr} {d d' : Nat} {v : V} {tx : Str}
end
end L2
set_option Elab.async false
set_option linter.all false
set_option maxRecDepth 100000
namespace L2
open PySem PySem.Spec PyProof.Rows
section
variable {w : World} {K : PySem.W.Frag} {P : Program} {p : Addr} {H H' : Hp} {as as' : List Addr} {d d' : Nat} {v : V} {tx : Str}
end
end L2
set_option Elab.async false
set_option linter.all false
set_option maxRecDepth 100000
namespace L2
open PySem PySem.Spec PyProof.Rows
section
variable {prog : Program} {w : World} {A : Around} {E : Value → Shared → Prop} {K : PySem.W.Frag} {T : Addr} {h : Heap} {g : Array GenState} {d : Drawn} {t : Nat} {os : OsState}
end
section
variable {X : Cx} {pins : List (Addr × Obj)} {σ : St} {H : Hp} {s : Shared} {T e : Addr} {A : Around} {E : Value → Shared → Prop}
end
end L2
set_option Elab.async false
set_option linter.all false
set_option maxRecDepth 100000
namespace L2
open PySem PySem.Spec PyProof.Rows
section
variable {X : Cx} {pins : List (Addr × Obj)} {σ : St} {H : Hp} {s : Shared} {h' : Heap} {C e : Addr} {A : Around} {E : Value → Shared → Prop}
theorem Inv.slots (I : Inv X pins σ H s) (x : Heap.SlotsOnly (frs X.stack) s.heap h') : Inv X pins σ H { s with heap := h' } := by
  have nf : ∀ b o, H b = some o → b ∉ frs X.stack := fun b o q m => by rw [I.stkFree b m] at q; cases q
  refine I.call (g' := s.gens) (t' := s.toks) (d' := s.drawn) (ch := []) ⟨fun b o q n hb _ => (x.2.1 b hb).trans q, fun b o q _ _ _ => x.2.2 b o q, fun _ _ _ n _ => n, fun b o q _ => let ⟨_, z⟩ := x.2.2 b o q; ⟨_, z⟩, fun _ _ q => q, fun _ _ _ q => q, fun b ps q => ⟨#[], by rw [q]; simp⟩⟩ (fun a o q => ?_) I.bare (fun _ z => nomatch z)
  refine (I.hok a o q).stay (fun b u hb z => ?_) (fun _ z => z) fun _ _ z => z
  rcases hb with rfl | hb
  · exact (x.2.1 _ (nf _ _ q)).trans z
  · exact (x.2.1 _ (nf _ _ hb)).trans z
def TbAt (b : Addr) (h : Heap) : Prop := ∃ (o : Obj) (ts : Array Value), h.get? b = some o ∧ o.data = .fields ts ∧ ts[3]? = some .none
def TbO (b : Addr) : HO := .ext (TbAt b)
theorem tbO_ok {P : Program} {w : World} {H : Hp} {h : Heap} {b : Addr} (x : TbAt b h) : ObjOk P w H h b (TbO b) := by
  refine ⟨x, ?_, fun h1 h2 q k => ?_⟩
  · obtain ⟨o, _, e1, _⟩ := x
    exact ⟨o, e1⟩
  · obtain ⟨o, ts, e1, r⟩ := q
    exact ⟨o, ts, k o e1, r⟩
theorem note_ok {dx ar tb : Option Addr} {Q : Unit → Shared → Prop} (hst : X.stack = X.env :: X.outer) (hfr : X.env.frame = some X.env.locals) (I : Inv X pins σ H s) (he : H e = some (ExO C e dx ar tb)) (ht : ∀ b, tb = some b → H b = some (TbO b) ∧ b ≠ e)
    (hA : A.frames = some X.stack) (hq : ∀ b' s', H b' = none → b' ≠ e → Inv X pins σ (upd (upd H b' (TbO b')) e (ExO C e dx ar (some b'))) s' → Q () s') : wpAny (model X.prog X.w) A (noteFrame (.ref e) X.env) (fun _ s' => wpAny (model X.prog X.w) A (setFlight (.ref e) none) Q E s') E s := by
  obtain ⟨o, vs, e1, e2, e3, e4, e5, e6, eT⟩ := ex_get I he
  have h1 : 1 < vs.size := (Array.getElem?_eq_some_iff.mp eT).1
  -- the entry is made, stored, and its flight is ended
  have tail : ∀ {s1 : Shared} {hd : Value} {nx : Bool}, Inv X pins σ H s1 → s1.heap.get? e = some o → wpAny (model X.prog X.w) A (do let a ← frameOf X.env; let pl ← entryPlaceOf X.env.locals nx; let b ← EntryCells.newEntry hd a .none (rawInt X.env.locals) .none pl; setField (.ref e) 1 b)
      (fun _ s2 => wpAny (model X.prog X.w) A (setFlight (.ref e) none) Q E s2) E s1 := fun {s1 hd nx} I1 q1 => by
    rw [hst] at hA
    have fr : s1.heap.FunFrames X.base (X.env :: X.outer) := by have := I1.stack; rw [hst] at this; exact this
    refine wpAny_bind (wpAny_frameOf_fun hA fr hfr fun h2 hs2 => ?_)
    have I2 : Inv X pins σ H { s1 with heap := h2 } := I1.slots (by rw [hst]; exact hs2)
    have ne : e ∉ (X.env :: X.outer).filterMap (·.frame) := fun m => by
      have := I1.stkFree e (by rw [hst]; exact m)
      rw [he] at this
      cases this
    have q2 : h2.get? e = some o := (hs2.2.1 e ne).trans q1
    refine wpAny_bind (wpAny_entryPlaceOf fun pl hpl => ?_)
    unfold EntryCells.newEntry newFields
    refine wpAny_bind (wpAny_newObj_type ?_ (hpl.sizeOk5 _ _ _ _ _))
    generalize hob : ({ cls := .type "traceback", data := .fields ([hd, .ref X.env.locals, .none, rawInt X.env.locals, .none] ++ (if pl.isEmpty then List.replicate 6 Value.none else pl)).toArray } : Obj) = ob
    have obd : ∃ ts, ob.data = .fields ts ∧ 3 < ts.size := by
      rw [← hob]
      exact ⟨_, rfl, by simp⟩
    obtain ⟨ts, d1, d2⟩ := obd
    have nb : h2.objs.size ≠ e := Nat.ne_of_gt (Heap.lt_size q2)
    have q3 := Heap.get?_push_of_some (h := h2) ob q2
    refine wpAny_setField q3 e4 h1 ?_
    have d3 := Obj.data_mapFields e4 (·.setIfInBounds 1 (Value.ref h2.objs.size))
    have q4 := Heap.get?_update_self (Obj.mapFields (·.setIfInBounds 1 (Value.ref h2.objs.size))) q3 (Obj.isFreed_of_fields d3)
    have q5 : ((h2.push ob).update e (Obj.mapFields (·.setIfInBounds 1 (Value.ref h2.objs.size)))).get? h2.objs.size = some ob := (Heap.get?_update_other _ _ (Ne.symm nb)).trans (Heap.get?_push_size h2 (Obj.isFreed_of_fields d1))
    unfold setFlight
    refine wpAny_bind (wpAny_field q4 d3 (x := .ref h2.objs.size) (by simp [h1]) ?_)
    rw [if_pos (show (Value.ref h2.objs.size != Value.none) = true from by simp)]
    refine wpAny_setField q5 d1 d2 ?_
    generalize hh3 : (h2.push ob).update e (Obj.mapFields (·.setIfInBounds 1 (Value.ref h2.objs.size))) = h3 at q4 q5
    have d5 := Obj.data_mapFields d1 (·.setIfInBounds 3 Value.none)
    have q6 := Heap.get?_update_self (Obj.mapFields (·.setIfInBounds 3 Value.none)) q5 (Obj.isFreed_of_fields d5)
    have q7 : (h3.update h2.objs.size (Obj.mapFields (·.setIfInBounds 3 Value.none))).get? e = some (Obj.mapFields (·.setIfInBounds 1 (Value.ref h2.objs.size)) o) := (Heap.get?_update_other _ _ nb).trans q4
    have fb : H h2.objs.size = none := I2.hok.fresh (Nat.le_refl _)
    refine hq h2.objs.size _ fb nb ?_
    -- first the entry, as it stands at last; then the error
    have obf : (Obj.mapFields (·.setIfInBounds 3 Value.none) ob).isFreed = false := Obj.isFreed_of_fields d5
    have I3 := I2.laid (a := h2.objs.size) (o := TbO h2.objs.size) (h' := h2.push (Obj.mapFields (·.setIfInBounds 3 Value.none) ob)) (t' := s1.toks) (fun b u q => Heap.get?_push_of_some _ q) (Nat.le_refl _)
      (tbO_ok ⟨_, _, Heap.get?_push_size h2 obf, d5, by simp [d2]⟩)
    refine I3.write (x := e) (e := e) (t' := s1.toks) (by rw [upd_ne (Ne.symm nb), he]; trivial) (.inl rfl) (fun b u hb q => ?_) ⟨_, q7⟩ (exO_ok ⟨_, _, q7, (Obj.cls_mapFields ..).trans e2, ?_, d3, by simpa using e5, fun t z => ?_, by simp [h1, tbV]⟩)
    · by_cases hbd : b = h2.objs.size
      · subst hbd
        rw [Heap.get?_push_size h2 obf] at q
        cases q
        exact q6
      · rw [Heap.get?_update_other _ _ (Ne.symm hbd), ← hh3, Heap.get?_update_other _ _ (Ne.symm hb)]
        have hlt : b < h2.objs.size := by
          have z := Heap.lt_size q
          have z2 : (h2.push (Obj.mapFields (·.setIfInBounds 3 Value.none) ob)).objs.size = h2.objs.size + 1 := Heap.size_push _ _
          have z3 : b < h2.objs.size + 1 := by rw [← z2]; exact z
          exact Nat.lt_of_le_of_ne (Nat.le_of_lt_succ z3) hbd
        have q' : h2.get? b = some u := by
          obtain ⟨a1, a2⟩ := Heap.get?_some_iff.mp q
          refine Heap.get?_some_iff.mpr ⟨?_, a2⟩
          have : (h2.objs.push (Obj.mapFields (·.setIfInBounds 3 Value.none) ob))[b]? = some u := a1
          rw [Array.getElem?_push_lt hlt] at this
          simpa [hlt] using this
        exact Heap.get?_push_of_some _ q'
    · have : (Obj.mapFields (·.setIfInBounds 1 (Value.ref h2.objs.size)) o).dict = o.dict := by
        rcases o with ⟨oc, od, odt, osl⟩
        cases (show odt = _ from e4)
        rfl
      rw [this, e3]
    · rw [Array.getElem?_setIfInBounds_ne (by decide)]
      exact e6 t z
  unfold noteFrame
  simp only [hfr]
  refine wpAny_bind (wpAny_field e1 e4 eT ?_)
  cases tb with
  | none =>
    rw [if_neg (show ¬ ((tbV none != Value.none) = true) from by simp [tbV])]
    exact tail I e1
  | some b =>
    obtain ⟨hb, nb⟩ := ht b rfl
    obtain ⟨ob, ts, b1, b2, b3⟩ := (show TbAt b s.heap from (I.hok b _ hb).1)
    have b4 : 3 < ts.size := (Array.getElem?_eq_some_iff.mp b3).1
    rw [if_pos (show (tbV (some b) != Value.none) = true from by simp [tbV])]
    refine wpAny_bind (wpAny_field b1 b2 b3 ?_)
    rw [if_neg (show ¬ ((Value.none == rawInt X.env.locals) = true) from by simp [rawInt])]
    refine wpAny_bind (wpAny_setField b1 b2 b4 ?_)
    have d5 := Obj.data_mapFields b2 (·.setIfInBounds 3 Value.none)
    have q6 := Heap.get?_update_self (Obj.mapFields (·.setIfInBounds 3 Value.none)) b1 (Obj.isFreed_of_fields d5)
    have I1 := I.write (x := b) (e := b) (o := TbO b) (t' := s.toks) (h' := s.heap.update b (Obj.mapFields (·.setIfInBounds 3 Value.none))) (by rw [hb]; trivial) (.inl rfl) (fun c u hc q => (Heap.get?_update_other _ _ (Ne.symm hc)).trans q) ⟨_, q6⟩ (tbO_ok ⟨_, _, q6, d5, by simp [b4]⟩)
    have eH : upd H b (TbO b) = H := by
      funext c
      by_cases hc : c = b
      · rw [hc, upd_same, hb]
      · rw [upd_ne hc]
    rw [eH] at I1
    exact tail I1 ((Heap.get?_update_other _ _ nb).trans e1)
theorem leave_ok {dx ar tb : Option Addr} {Q : Unit → Shared → Prop} (hst : X.stack = X.env :: X.outer) (hfr : X.env.frame = some X.env.locals) (I : Inv X pins σ H s) (he : H e = some (ExO C e dx ar tb)) (ht : ∀ b, tb = some b → H b = some (TbO b) ∧ b ≠ e)
    (hA : A.frames = some X.stack) (hq : ∀ b' s', H b' = none → b' ≠ e → Inv X pins σ (upd (upd H b' (TbO b')) e (ExO C e dx ar (some b'))) s' → Q () s') : wpAny (model X.prog X.w) A (leaving X.env (.ref e)) Q E s := by
  unfold leaving
  exact wpAny_bind (note_ok hst hfr I he ht hA hq)
end
end L2
set_option Elab.async false
set_option linter.all false
set_option maxRecDepth 100000
namespace L2
open PySem PySem.Spec PyProof.Rows
def CXo (P : Program) (w : World) : CXT := fun outer H s E e s' => CE outer P w H s (fun v H' => (∃ a, v = .ref a) ∧ E e none H') e s'
def Fly (C e : Addr) (dx ar tb : Option Addr) (H : Hp) : Prop := H e = some (ExO C e dx ar tb) ∧ ∀ b, tb = some b → H b = some (TbO b) ∧ b ≠ e
def past (H : Hp) (C e : Addr) (dx ar : Option Addr) (b : Addr) : Hp := upd (upd H b (TbO b)) e (ExO C e dx ar (some b))
def Outs (X : Cx) (E : XK) : Prop := ∀ (pins : List (Addr × Obj)) (σ : St) (H : Hp) (s : Shared) (C e : Addr) (dx ar tb : Option Addr), Inv X pins σ H s → Fly C e dx ar tb H → (∀ b, H b = none → b ≠ e → E (.ref e) none (past H C e dx ar b)) → X.xe (.ref e) s
theorem outs_def {P : Program} {w : World} {K : PySem.W.Frag} {mg : Str → Option Value} {base : Heap} {N : List Str} {qual : Str} {scope : Scope} {f : Addr} {cd : Value} {A : Around} {outer : List Env} {s₀ : Shared} {H₀ : Hp} {E : XK} :
    Outs (cxOf (CXo P w) P w K mg base N qual scope f cd A outer s₀ H₀ E) E := fun pins σ H s C e dx ar tb I fl h => by
  refine leave_ok (X := cxOf (CXo P w) P w K mg base N qual scope f cd A outer s₀ H₀ E) rfl rfl I fl.1 fl.2 I.ok.frames fun b s' f1 f2 J => ?_
  exact ⟨.ref e, _, J.os, J.bare, J.base, J.hok, rfl, ⟨e, rfl⟩, h b f1 f2⟩
def goOn (E : XK) : XK := fun v _ H => ∃ C e dx ar tb, v = .ref e ∧ Fly C e dx ar tb H ∧ ∀ b, H b = none → b ≠ e → E (.ref e) none (past H C e dx ar b)
theorem Outs.pass {X : Cx} {E : XK} (o : Outs X E) : Passes (CXo X.prog X.w) X (goOn E) := fun pins σ H s e s' I h => by
  obtain ⟨v, H', I', rv, q⟩ := I.after h
  obtain ⟨⟨a, rfl⟩, C, e', dx, ar, tb, ee, fl, k⟩ := q
  cases (show e = Value.ref a from rv)
  cases ee
  exact o pins σ H' s' C _ dx ar tb I' fl k
structure ExR (K : PySem.W.Frag) (C : Addr) : Prop where
  be : PySem.W.mroIn K C (.type "BaseException") = some true
  ty : PySem.W.typeIn K (.ref C) = some (.type "type")
section
variable {X : Cx} {E : XK} {x : Expr} {tx : TE} {pos : Pos}
def tRaise (K : PySem.W.Frag) (E : XK) (tx : TE) : TS := fun D σ H => tx σ H fun v H1 => ∃ C e dx ar, v = .ref e ∧ ExR K C ∧ Fly C e dx ar none H1 ∧ ∀ b, H1 b = none → b ≠ e → E (.ref e) none (past H1 C e dx ar b)
theorem ps_raise (o : Outs X E) (hc : X.calm = true) (h : PE X x tx) : PS X (.Raise (some x) none pos) (tRaise X.K E tx) := by
  intro pins s σ H D I q
  rw [arm_exec_Raise]
  refine wpAny_bind (wpAny_standAt ?_)
  show wpAny _ _ (raiseStmt X.env (some (do let v ← eval x X.env; standAt pos; pure v)) none) _ _ _
  unfold raiseStmt
  refine wpAny_bind (wpAny_bind (thn (h pins s σ H _ I q) fun v s1 ⟨y, H1, I1, ry, C, e, dx, ar, ey, r, fl, k⟩ => wpAny_bind (wpAny_standAt (wpAny_pure ?_))))
  subst ey
  obtain rfl : v = Value.ref e := ry
  obtain ⟨ob, vs, e1, e2, e3, e4, e5, e6, eT⟩ := ex_get I1 fl.1
  have J : PySem.W.Looks (model X.prog X.w) s1.heap (typeOf (.ref e)) (.ref C) := e2 ▸ (PySem.W.Looks.ld e1).andThen .now
  have nt : ∀ {A : Around} {R : Bool → Shared → Prop} {E' : Value → Shared → Prop}, R false s1 → wpAny (model X.prog X.w) A (isType (.ref e)) R E' s1 := fun {A R E'} hr => by
    unfold isType loadHead
    refine wpAny_bind (wpAny_loadPart e1 ?_)
    rw [e4]
    exact wpAny_pure hr
  have inst : PySem.W.Looks (model X.prog X.w) s1.heap (isInstance (.ref e) (.type "BaseException")) true := J.andThen (PySem.W.looks_mroIn I1.kIn r.be)
  dsimp only
  refine wpAny_bind (wpAny_pure (wpAny_bind (wpAny_holding ?_)))
  unfold excFromValue isExcClass
  refine wpAny_bind (wpAny_bind (nt ?_))
  rw [if_neg Bool.false_ne_true]
  refine wpAny_pure ?_
  rw [if_neg Bool.false_ne_true]
  refine wpAny_bind (inst.here ?_)
  rw [if_pos rfl]
  refine wpAny_pure (wpAny_bind (nt ?_))
  rw [if_neg Bool.false_ne_true]
  refine wpAny_bind ?_
  unfold raisedInstance
  refine wpAny_bind (J.here (wpAny_bind ((PySem.W.looks_typeIn I1.kIn r.ty).here ?_)))
  rw [if_pos (by decide)]
  refine wpAny_pure (wpAny_bind ?_)
  unfold setFlight
  refine wpAny_bind (wpAny_field e1 e4 eT ?_)
  rw [if_neg (show ¬ ((tbV none != Value.none) = true) from by simp [tbV])]
  refine wpAny_pure ?_
  unfold raiseNew
  refine wpAny_bind (wpAny_handled ?_)
  rw [I1.ok.hd hc]
  have fin := o pins σ H1 s1 C e dx ar none I1 fl k
  first
    | exact wpAny_throw fin
    | exact wpAny_bind (wpAny_pure (wpAny_throw fin))
end
end L2
set_option Elab.async false
set_option linter.all false
set_option maxRecDepth 100000
namespace L2
open PySem PySem.Spec PyProof.Rows
def Cx.held (X : Cx) (e : Addr) : Cx := { X with A := X.A.mark (some (.ref e)), calm := false, xe := fun _ _ => False }
def Cx.tried (X : Cx) (pins : List (Addr × Obj)) (xe : Value → Shared → Prop) : Cx := { X with pn := X.pn ++ pins, xe := xe }
section
variable {X : Cx} {pins : List (Addr × Obj)} {σ : St} {H : Hp} {s : Shared} {h' : Heap} {e : Addr}
theorem Inv.held (I : Inv X pins σ H s) (e : Addr) : Inv (X.held e) pins σ H s :=
  ⟨{ I.ok with hd := fun z => nomatch (show false = true from z) }, I.os, I.bare, I.base, I.loc, I.cell, I.free, I.freeC, I.pin, I.hok, I.len⟩
theorem Inv.unheld (k : X.Ok) (I : Inv (X.held e) pins σ H s) : Inv X pins σ H s := ⟨k, I.os, I.bare, I.base, I.loc, I.cell, I.free, I.freeC, I.pin, I.hok, I.len⟩
theorem Inv.tried {xe : Value → Shared → Prop} (I : Inv X pins σ H s) : Inv (X.tried pins xe) [] σ H s :=
  ⟨{ I.ok with }, I.os, I.bare, I.base, I.loc, I.cell, I.free, I.freeC, fun p hp => I.pin p (by have : p ∈ (X.pn ++ pins) ++ [] := hp; rwa [List.append_nil] at this), I.hok, I.len⟩
theorem Inv.untried {xe : Value → Shared → Prop} {pins' : List (Addr × Obj)} (I : Inv (X.tried pins xe) pins' σ H s) : Inv X pins σ H s :=
  ⟨{ I.ok with }, I.os, I.bare, I.base, I.loc, I.cell, I.free, I.freeC, fun p hp => I.pin p (List.mem_append_left _ hp), I.hok, I.len⟩
theorem Inv.bare_frame {m' : Str → Option Value} {t' : Nat} (I : Inv X pins σ H s) (hn : h'.Ns X.env.locals m') (hs : Heap.SameBut X.env.locals s.heap h') : Inv X pins (List.replicate X.N.length none) H { s with heap := h', toks := t' } := by
  obtain ⟨m, ⟨oL, _, _, hoL, _⟩, _⟩ := id I.loc
  have lt : ∀ {b : Addr} {o : Obj}, X.s₀.heap.get? b = some o → b ≠ X.env.locals := fun e => Nat.ne_of_lt (Nat.lt_of_lt_of_le (Heap.lt_size e) I.ok.above)
  refine ⟨I.ok, I.os, I.bare, ⟨fun b o e n hb hx => (hs.2 b (lt e)).trans (I.base.keep b o e n hb hx), fun b o e n hb hx => ?_, I.base.free, fun b o e hx => ?_, I.base.tups, I.base.frzs, I.base.tbls⟩, ⟨m', hn, fun j y v e1 e2 _ => ?_⟩, fun y c q => ?_, I.free, I.freeC, fun p hp => ?_, fun b ob q => ?_, by simp⟩
  · obtain ⟨sl, e1⟩ := I.base.slot b o e n hb hx
    exact ⟨sl, (hs.2 b (lt e)).trans e1⟩
  · obtain ⟨o', e1⟩ := I.base.there b o e hx
    exact ⟨o', (hs.2 b (lt e)).trans e1⟩
  · simp [List.getElem?_replicate] at e2
  · obtain ⟨v, o, ho, hd⟩ := I.cell y c q
    exact ⟨v, o, (hs.2 c (I.cne y c q)).trans ho, hd⟩
  · obtain ⟨p1, p2, p3, p4, p5⟩ := I.pin p hp
    exact ⟨(hs.2 _ p3).trans p1, p2, p3, p4, p5⟩
  · refine (I.hok b ob q).stay (fun c w' hc z => (hs.2 c ?_).trans z) (fun _ z => z) fun _ _ z => z
    rintro rfl
    rcases hc with rfl | hc
    · rw [I.free] at q; cases q
    · rw [I.free] at hc; cases hc
structure ExM (K : PySem.W.Frag) (D : Addr) : Prop where
  be : PySem.W.mroIn K D (.type "BaseException") = some true
  ty : PySem.W.typeIn K (.ref D) = some (.type "type")
  cl : (PySem.W.clsIn K D).isSome = true
theorem matches_ok {A : Around} {E : Value → Shared → Prop} {C D : Addr} {dx ar tb : Option Addr} {b : Bool} {Q : Bool → Shared → Prop} (I : Inv X pins σ H s) (he : H e = some (ExO C e dx ar tb)) (m : ExM X.K D) (hb : PySem.W.mroIn X.K C (.ref D) = some b) (q : Q b s) :
    wpAny (model X.prog X.w) A (excMatches (.ref e) (.ref D)) Q E s := by
  obtain ⟨ob, vs, e1, e2, e3, e4, e5, e6, eT⟩ := ex_get I he
  have J : PySem.W.Looks (model X.prog X.w) s.heap (typeOf (.ref e)) (.ref C) := e2 ▸ (PySem.W.Looks.ld e1).andThen .now
  obtain ⟨cd, hc⟩ := Option.isSome_iff_exists.mp m.cl
  have isT : ∀ {A : Around} {R : Bool → Shared → Prop} {E' : Value → Shared → Prop}, R true s → wpAny (model X.prog X.w) A (isType (.ref D)) R E' s := fun {A R E'} hr => by
    unfold PySem.W.clsIn at hc
    split at hc
    · rename_i c' d' cd' sl' ho
      unfold isType loadHead
      exact wpAny_bind (wpAny_loadPart (I.kIn _ _ ho) (wpAny_pure hr))
    · cases hc
  have nt : PySem.W.Looks (model X.prog X.w) s.heap (isInstance (.ref D) (.type "tuple")) false := (PySem.W.looks_typeIn I.kIn m.ty).andThen (PySem.W.looks_subIn I.kIn (K := X.K) (t := .type "type") (base := .type "tuple") (by rfl))
  unfold excMatches
  refine wpAny_bind (nt.here ?_)
  dsimp only
  rw [if_neg Bool.false_ne_true]
  refine wpAny_bind (wpAny_pure ?_)
  refine wpAny_bind ?_
  rw [List.forIn_cons]
  refine wpAny_bind (wpAny_bind ?_)
  unfold isExcClass
  refine wpAny_bind (isT ?_)
  rw [if_pos rfl]
  refine (PySem.W.looks_mroIn I.kIn m.be).here ?_
  rw [if_neg (by decide)]
  refine wpAny_pure ?_
  dsimp only
  rw [List.forIn_nil]
  refine wpAny_pure (wpAny_bind (J.here (wpAny_bind ?_)))
  rw [List.forIn_cons]
  refine wpAny_bind (wpAny_bind ((PySem.W.looks_mroIn I.kIn hb).here ?_))
  cases b with
  | true =>
    rw [if_pos rfl]
    exact wpAny_pure (wpAny_pure (wpAny_pure q))
  | false =>
    rw [if_neg Bool.false_ne_true]
    refine wpAny_pure ?_
    dsimp only
    rw [List.forIn_nil]
    exact wpAny_pure (wpAny_pure q)
abbrev TH := Addr → Addr → Option Addr → Option Addr → Addr → Ends → St → Hp → Prop
def PHs (X : Cx) (hs : List ExceptHandler) (t : TH) : Prop := ∀ (pins : List (Addr × Obj)) (s : Shared) (σ : St) (H : Hp) (D : Ends) (C e : Addr) (dx ar : Option Addr) (b : Addr), Inv X pins σ H s → Fly C e dx ar (some b) H → t C e dx ar b D σ H → wpAny (model X.prog X.w) X.A (handleBy (.ref e) X.env hs) (SP X pins D) X.xe s
def thNil : TH := fun _ _ _ _ _ _ _ _ => False
theorem phs_nil : PHs X [] thNil := fun _ _ _ _ _ _ _ _ _ _ _ _ z => z.elim
def retOnly (D : Ends) : Ends := { nx := fun _ _ => False, rt := D.rt }
def thAs (K : PySem.W.Frag) (Dc : Addr) (i : Nat) (tb : TS) (rest : TH) : TH := fun C e dx ar b D σ H => ∃ hit, PySem.W.mroIn K C (.ref Dc) = some hit ∧ if hit = true then tb (retOnly D) (σ.set i (some (.ref e))) H else rest C e dx ar b D σ H
def thPlain (K : PySem.W.Frag) (Dc : Addr) (tb : TS) (rest : TH) : TH := fun C e dx ar b D σ H => ∃ hit, PySem.W.mroIn K C (.ref Dc) = some hit ∧ if hit = true then tb D σ H else rest C e dx ar b D σ H
theorem fly_none {A : Around} {E : Value → Shared → Prop} {C : Addr} {dx ar : Option Addr} {b : Addr} {Q : Unit → Shared → Prop} (I : Inv X pins σ H s) (f : Fly C e dx ar (some b) H) (q : ∀ s', Inv X pins σ H s' → Q () s') : wpAny (model X.prog X.w) A (setFlight (.ref e) none) Q E s := by
  obtain ⟨ob, vs, e1, e2, e3, e4, e5, e6, eT⟩ := ex_get I f.1
  obtain ⟨hb, nb⟩ := f.2 b rfl
  obtain ⟨oT, ts, b1, b2, b3⟩ := (show TbAt b s.heap from (I.hok b _ hb).1)
  have b4 : 3 < ts.size := (Array.getElem?_eq_some_iff.mp b3).1
  refine wpAny_setFlight_none e1 e4 eT b1 b2 b4 (q _ ?_)
  have d5 := Obj.data_mapFields b2 (·.setIfInBounds 3 Value.none)
  have q6 := Heap.get?_update_self (Obj.mapFields (·.setIfInBounds 3 Value.none)) b1 (Obj.isFreed_of_fields d5)
  have I1 := I.write (x := b) (e := b) (o := TbO b) (t' := s.toks) (h' := s.heap.update b (Obj.mapFields (·.setIfInBounds 3 Value.none))) (by rw [hb]; trivial) (.inl rfl) (fun c u hc q => (Heap.get?_update_other _ _ (Ne.symm hc)).trans q) ⟨_, q6⟩ (tbO_ok ⟨_, _, q6, d5, by simp [b4]⟩)
  have eH : upd H b (TbO b) = H := by
    funext c
    by_cases hc : c = b
    · rw [hc, upd_same, hb]
    · rw [upd_ne hc]
  rwa [eH] at I1
theorem phs_as {x n : Str} {xp pos : Pos} {b₀ : Stmt} {suite : List Stmt} {rest : List ExceptHandler} {Dc : Addr} {i : Nat} {tb : TS} {tr : TH} (m : ExM X.K Dc) (hg : Gl X x) (hm : X.mg x = some (.ref Dc)) (hN : X.N.Nodup) (hi : X.N[i]? = some n) (hl : X.env.scope.names.lookup n = some .local) (hk : X.env.kindOf n = some .local)
    (hb : ∀ e, PSs (X.held e) (b₀ :: suite) tb) (hr : PHs X rest tr) (hdb : (x == ("__debug__" : Str)) = false := by decide) : PHs X (.ExceptHandler (some (.Name x xp)) (some n) (b₀ :: suite) pos :: rest) (thAs X.K Dc i tb tr) := by
  intro pins s σ H D C e dx ar b I f h
  obtain ⟨hit, hc, h⟩ := h
  refine wpAny_handleBy_cons (codeAny_handlers_test (ld_glob (X := X.held e) (I.held e) hg hm ?_ hdb)) (by intro z; cases z)
  refine matches_ok I f.1 m hc ?_
  cases hit with
  | false =>
    rw [if_neg Bool.false_ne_true] at h ⊢
    exact hr pins s σ H D C e dx ar b I f h
  | true =>
    rw [if_pos rfl] at h ⊢
    refine codeAny_handlers_suite_as (fly_none I f fun s1 I1 => ?_)
    refine store_ok I1 hN hi (.inl hl) (v := .ref e) rfl (fun s2 I2 => ?_) (.inr hl)
    refine wpAny_mono (hb e pins s2 _ H (retOnly D) (I2.held e) h) (fun fl s3 q => ?_) fun _ _ z => z.elim
    have hp : (X.env.scope.kind == .class || (X.env.scope.kind == .module && X.env.locals != X.env.globals)) = false := by rw [I.ok.kind]; rfl
    cases fl with
    | ret u =>
      obtain ⟨v, σ', H', I3, rv, q⟩ := q
      obtain ⟨m', hn, _⟩ := I3.loc
      refine wpAny_nameGoes hk hn hp fun h4 m4 hn4 hs4 => ?_
      exact ⟨v, _, H', (I3.unheld I.ok).bare_frame hn4 hs4, rv, q⟩
    | next =>
      obtain ⟨_, _, _, q⟩ := q
      exact q.elim
    | brk =>
      obtain ⟨_, _, _, q⟩ := q
      exact q.elim
    | cont =>
      obtain ⟨_, _, _, q⟩ := q
      exact q.elim
theorem SP.unheld {D : Ends} {fl : Flow} (k : X.Ok) (q : SP (X.held e) pins D fl s) : SP X pins D fl s := by
  cases fl with
  | ret u =>
    obtain ⟨v, σ', H', I3, rv, q⟩ := q
    exact ⟨v, σ', H', I3.unheld k, rv, q⟩
  | next =>
    obtain ⟨σ', H', I3, q⟩ := q
    exact ⟨σ', H', I3.unheld k, q⟩
  | brk =>
    obtain ⟨σ', H', I3, q⟩ := q
    exact ⟨σ', H', I3.unheld k, q⟩
  | cont =>
    obtain ⟨σ', H', I3, q⟩ := q
    exact ⟨σ', H', I3.unheld k, q⟩
theorem SP.untried {xe : Value → Shared → Prop} {D : Ends} {fl : Flow} (q : SP (X.tried pins xe) [] D fl s) : SP X pins D fl s := by
  cases fl with
  | ret u =>
    obtain ⟨v, σ', H', I3, rv, q⟩ := q
    exact ⟨v, σ', H', I3.untried, rv, q⟩
  | next =>
    obtain ⟨σ', H', I3, q⟩ := q
    exact ⟨σ', H', I3.untried, q⟩
  | brk =>
    obtain ⟨σ', H', I3, q⟩ := q
    exact ⟨σ', H', I3.untried, q⟩
  | cont =>
    obtain ⟨σ', H', I3, q⟩ := q
    exact ⟨σ', H', I3.untried, q⟩
theorem phs_plain {x : Str} {xp pos : Pos} {b₀ : Stmt} {suite : List Stmt} {rest : List ExceptHandler} {Dc : Addr} {tb : TS} {tr : TH} (m : ExM X.K Dc) (hg : Gl X x) (hm : X.mg x = some (.ref Dc))
    (hb : ∀ e, PSs (X.held e) (b₀ :: suite) tb) (hr : PHs X rest tr) (hdb : (x == ("__debug__" : Str)) = false := by decide) : PHs X (.ExceptHandler (some (.Name x xp)) none (b₀ :: suite) pos :: rest) (thPlain X.K Dc tb tr) := by
  intro pins s σ H D C e dx ar b I f h
  obtain ⟨hit, hc, h⟩ := h
  refine wpAny_handleBy_cons (codeAny_handlers_test (ld_glob (X := X.held e) (I.held e) hg hm ?_ hdb)) (by intro z; cases z)
  refine matches_ok I f.1 m hc ?_
  cases hit with
  | false =>
    rw [if_neg Bool.false_ne_true] at h ⊢
    exact hr pins s σ H D C e dx ar b I f h
  | true =>
    rw [if_pos rfl] at h ⊢
    refine codeAny_handlers_suite (fly_none I f fun s1 I1 => ?_)
    exact wpAny_mono (hb e pins s1 _ H D (I1.held e) h) (fun fl s3 q => q.unheld I.ok) fun _ _ z => z.elim
def caught (n : Nat) (th : TH) (D : Ends) : XK := fun v _ H => ∃ C e dx ar tb, v = .ref e ∧ Fly C e dx ar tb H ∧ ∀ σ : St, σ.length = n → ∀ b, H b = none → b ≠ e → th C e dx ar b D σ (past H C e dx ar b)
def tTry (n : Nat) (tb : XK → TS) (th : TH) : TS := fun D σ H => tb (caught n th D) D σ H
theorem fly_past {C : Addr} {dx ar : Option Addr} {b : Addr} (h : b ≠ e) : Fly C e dx ar (some b) (past H C e dx ar b) := by
  refine ⟨upd_same, fun b' z => ?_⟩
  cases z
  exact ⟨by show upd _ _ _ _ = _; rw [upd_ne h, upd_same], h⟩
theorem ps_try {body : List Stmt} {h₀ : ExceptHandler} {hs : List ExceptHandler} {pos : Pos} {tb : XK → TS} {th : TH} (hst : X.stack = X.env :: X.outer) (hfr : X.env.frame = some X.env.locals)
    (hb : ∀ (E : XK) (ps : List (Addr × Obj)) (xe : Value → Shared → Prop), Passes (CXo X.prog X.w) (X.tried ps xe) E → PSs (X.tried ps xe) body (tb E)) (hh : PHs X (h₀ :: hs) th) : PS X (.Try body (h₀ :: hs) [] [] pos) (tTry X.N.length tb th) := by
  intro pins s σ H D I h
  refine wpAny_Try_except ?_
  have run := hb (caught X.N.length th D) pins (fun v s' => ∃ σ' H', Inv X pins σ' H' s' ∧ caught X.N.length th D v none H') (fun pins' σ' H' s' v s'' I' q => ?_) [] s σ H D I.tried h
  · refine wpAny_mono run (fun fl s1 q => ?_) fun v s1 q => ?_
    · have q' := q.untried
      cases fl with
      | next => exact wpAny_pure q'
      | ret u => exact q'
      | brk => exact q'
      | cont => exact q'
    · obtain ⟨σ', H', I', C, e, dx, ar, tb', rfl, fl, k⟩ := q
      exact note_ok hst hfr I' fl.1 fl.2 I'.ok.frames fun b s2 f1 f2 J => hh pins s2 σ' _ D C e dx ar b J (fly_past f2) (k σ' I'.len b f1 f2)
  · obtain ⟨u, H2, I2, rv, ⟨a, ea⟩, q⟩ := I'.after q
    exact ⟨_, H2, I2.untried, q⟩
end
end L2
set_option Elab.async false
set_option linter.all false
set_option maxRecDepth 100000
namespace L2
open PySem PySem.Spec PyProof.Rows
section
variable {prog : Program} {w : World} {A : Around} {E : Value → Shared → Prop} {s : Shared}
def TNext (it t : Addr) (i : Nat) (s : Shared) (Q : Value → Shared → Prop) (E : Value → Shared → Prop) : Option Value → Prop
  | some x => ∀ h', h'.IsTupleIter it t (i + 1) → Heap.SameBut it s.heap h' → Q x { s with heap := h' }
  | none => ∀ h' e, Heap.ExtBut it s.heap h' → (∃ o, h'.get? e = some o ∧ o.cls = .type "StopIteration") → E (.ref e) { s with heap := h' }
theorem tnext {it t : Addr} {i : Nat} {its : Array Value} {o : Option Value} {Q : Value → Shared → Prop} (hh : A.handled = none) (ti : s.heap.IsTupleIter it t i) (tt : s.heap.IsTuple t its) (hx : its[i]? = o) (hk : TNext it t i s Q E o) : wpAny (model prog w) A (Builtin.SmallTypes.nextOf (.ref it)) Q E s := by
  have h0 : A.in1.handled = none := hh
  have nn : ¬ (Value.ref t == Value.none) = true := fun z => Bool.false_ne_true z
  have me := PySem.F.entry_tuple_iterator_next
  rcases id ti with ⟨ob, e1, e2, e3⟩
  rcases tt with ⟨ol, f1, _, nl, f2⟩
  delta Builtin.SmallTypes.nextOf
  refine wpAny_bind (wpAny_callSpecial?_slot (name := Str.ofString "__next__") ti.typeIs PySem.F.slot_tuple_iterator_next (wpAny_call_entry PySem.F.slot_tuple_iterator_next ti.typeIs me ?_ (PySem.F.args_tuple_iterator_next_1 _)))
  refine wpAny_bind (m := field (.ref it) 0) (wpAny_field e1 e3 (x := .ref t) rfl ?_)
  rw [if_neg nn]
  refine wpAny_bind (m := field (.ref it) 1) (wpAny_field e1 e3 (x := .int i 0) rfl (wpAny_bind (m := seqItems? (.ref t)) (wpAny_seqItems f1 f2 ?_)))
  simp only [hx, Int.toNat_natCast]
  cases o with
  | some x =>
    refine wpAny_bind (wpAny_setField e1 e3 (by simp) (wpAny_pure ⟨x, rfl, wpAny_pure (hk _ ⟨_, Heap.get?_update_self _ e1 (Obj.isFreed_of_fields (Obj.data_mapFields e3 _)), (Obj.cls_mapFields ..).trans e2, ?_⟩ (Heap.SameBut.update ..))⟩))
    simp [rawInt, Obj.data_mapFields e3]
  | none =>
    refine wpAny_bind (wpAny_rule (wpAny_bind (wpAny_setField e1 e3 (by simp) (wpAny_bind (m := newExc (.type "StopIteration") []) ?_))))
    simp only [newExc, newTuple]
    refine wpAny_bind (wpAny_newObj_type (wpAny_bind (m := firstArgMember _ _) (wpAny_of_eq (a := Value.none) (by first | rfl | (simp only [firstArgMember]; rfl)) (wpAny_newObj_type ?_ (by size_fits)))) (by size_fits))
    simp only [raiseNew]
    have last : ∀ {h1 : Heap} (x : Heap.ExtBut it s.heap h1) {e : Addr} {o : Obj} (_ : h1.get? e = some o) (_ : o.cls = .type "StopIteration"), E (.ref e) { s with heap := h1 } := fun {_} x {_ _} q1 q2 => hk _ _ x ⟨_, q1, q2⟩
    refine wpAny_bind ?_
    refine wpAny_handled ?_
    rw [h0]
    refine wpAny_bind (wpAny_pure (wpAny_throw (last (((Heap.SameBut.update ..).extBut.push _).push _) (Heap.get?_push_size _ rfl) rfl)))
theorem drawsT (hh : A.handled = none) (it l : Addr) (hne : l ≠ it) (its : Array Value) : Draws prog w A it [it, l] its.size (fun i v => its[i]? = some v) (fun i h => h.IsTupleIter it l i ∧ h.IsTuple l its) where
  live := fun _ _ ⟨⟨o, ho, _⟩, _⟩ => ⟨o, ho⟩
  frame := fun _ _ _ ⟨p, q⟩ hk => ⟨p.at (hk it (by simp)), q.at (hk l (by simp))⟩
  item := fun i s Q E hi st hQ => tnext hh st.1 st.2 (o := some its[i]) (by simp [hi]) fun h' hit' hs' => hQ _ h' s.toks (by simp [hi]) ⟨hit', st.2.extBut hs'.extBut hne⟩ hs'
  done := fun s Q E st hE => tnext hh st.1 st.2 (o := none) (by simp) hE
theorem enum_newT (l : Addr) (its : Array Value) (n : Nat) (dct : Option Addr) (sl : Array (Option Value)) :
    Meets (Builtin.«enumerate.__new__» ⟨[.type "enumerate", .ref l], []⟩) (fun _ R s => s.heap.get? l = some { cls := .type "tuple", dict := dct, data := .seq its n, slots := sl } ∧
      R (.ok (.ret (.ref (s.heap.push { cls := .type "tuple_iterator", data := .fields #[.ref l, .int 0 0] }).objs.size)))
        { s with heap := (s.heap.push { cls := .type "tuple_iterator", data := .fields #[.ref l, .int 0 0] }).push { cls := .type "enumerate", data := .fields #[.none, .bool false, .ref s.heap.objs.size, rawInt 0, .none, .none] } }) :=
  .of_wp fun prog w A R s h => by
    rcases s with ⟨hp, g, d, tk, os⟩
    rcases h with ⟨hl, h⟩
    have sb := sub_enumerate
    have hL : Heap.IsTuple (Shared.heap ⟨hp, g, d, tk, os⟩) l its := ⟨_, hl, rfl, n, rfl⟩
    wp_walk using AutoSeq1.wpAny_loadPart' hl
    refine wpAny_stack_any ?_
    intro st
    refine wpAny_pure ?_
    split
    · rename_i c _ _ _ _ _
      cases (c == Value.type "enumerate") <;> (wp_walk using AutoSeq1.wpAny_loadPart' hl, wpAny_pyIter_tuple hL; exact ⟨_, rfl, h⟩)
    · wp_walk using AutoSeq1.wpAny_loadPart' hl, wpAny_pyIter_tuple hL
      exact ⟨_, rfl, h⟩
theorem call_enumT {l : Addr} {its : Array Value} {Q : Value → Shared → Prop} (hL : s.heap.IsTuple l its)
    (h : ∀ h', IsEnum h' (s.heap.objs.size + 1) s.heap.objs.size 0 .none → h'.IsTupleIter s.heap.objs.size l 0 → h'.objs.size = s.heap.objs.size + 2 → (∀ b o, s.heap.get? b = some o → h'.get? b = some o) → Q (.ref (s.heap.objs.size + 1)) { s with heap := h' }) : wpAny (model prog w) A (call (.type "enumerate") [.ref l]) Q E s := by
  rcases hL with ⟨⟨c, dct, dt, sl⟩, hl, hc, n, hd⟩
  replace hc : c = .type "tuple" := hc
  replace hd : dt = .seq its n := hd
  subst hc hd
  refine callType_new PySem.F.called_enumerate (by decide) (PySem.F.typeCall_enumerate_1 _) (PySem.F.newCall_enumerate_1 _) (fun obj => PySem.F.args_object_init_2 obj _) PySem.F.entry_enumerate_new (enum_newT l its n dct sl) ⟨hl, ?_⟩
  have hz : (s.heap.push { cls := .type "tuple_iterator", data := .fields #[.ref l, .int 0 0] }).objs.size = s.heap.objs.size + 1 := Heap.size_push ..
  show _ ∧ _
  rw [hz]
  have he : IsEnum ((s.heap.push { cls := .type "tuple_iterator", data := .fields #[.ref l, .int 0 0] }).push { cls := .type "enumerate", data := .fields #[.none, .bool false, .ref s.heap.objs.size, rawInt 0, .none, .none] }) (s.heap.objs.size + 1) s.heap.objs.size 0 .none := by
    have z := Heap.get?_push_size (s.heap.push { cls := .type "tuple_iterator", data := .fields #[.ref l, .int 0 0] }) (o := { cls := .type "enumerate", data := .fields #[.none, .bool false, .ref s.heap.objs.size, rawInt 0, .none, .none] }) rfl
    rw [hz] at z
    exact z
  exact ⟨⟨_, he, rfl⟩, h _ he ⟨_, Heap.get?_push_of_some _ (Heap.get?_push_size _ rfl), rfl, rfl⟩ (by rw [Heap.size_push, hz]) fun b o x => Heap.get?_push_of_some _ (Heap.get?_push_of_some _ x)⟩
end
def SqB (K : PySem.W.Frag) (tp : Bool) (H : Hp) (a : Addr) (xs : List V) : Prop := if tp then SqT K H a xs else SqL K H a xs
def Ite (K : PySem.W.Frag) (tp : Bool) (a : Addr) : It :=
  ⟨fun i H => ∃ xs x, SqB K tp H a xs ∧ xs[i]? = some x, fun i H v H' => ∃ t x, v = .ref t ∧ H t = none ∧ (∀ xs, SqB K tp H a xs → xs[i]? = some x) ∧ H' = upd H t (.tup [.int i, x]), fun i H => ∃ xs, SqB K tp H a xs ∧ xs.length = i⟩
def ItS (tp : Bool) (h : Heap) (it a : Addr) (i : Nat) : Prop := if tp then h.IsTupleIter it a i else h.IsListIter it a i
theorem seqB_lt {X : Cx} {pins : List (Addr × Obj)} {σ : St} {H : Hp} {s : Shared} {tp : Bool} {a : Addr} {xs : List V} (I : Inv X pins σ H s) (h : SqB X.K tp H a xs) :
    ∃ its : List Value, Vals xs its ∧ (if tp then s.heap.IsTuple a its.toArray else s.heap.IsList a its.toArray) ∧ xs.length ≤ sizeLine := by
  cases tp with
  | true => obtain ⟨its, r, p, z⟩ := I.tuple h; exact ⟨its, r, p, z⟩
  | false => obtain ⟨its, r, p, z⟩ := I.list h; exact ⟨its, r, p.isList, z⟩
end L2
set_option Elab.async false
set_option linter.all false
set_option maxRecDepth 100000
namespace L2
open PySem PySem.Spec PyProof.Rows
theorem Inv.turn2 {X : Cx} {pins : List (Addr × Obj)} {σ : St} {H : Hp} {s : Shared} {h' : Heap} {t' : Nat} {e it : Addr} {xs : List V} {us : List Value} (I : Inv X pins σ H s) (f1 : FpOk X pins H e) (f2 : FpOk X pins H it)
    (k : ∀ b o, b ≠ e → b ≠ it → s.heap.get? b = some o → h'.get? b = some o) (there : ∀ b o, s.heap.get? b = some o → ∃ o', h'.get? b = some o')
    (r : Vals xs us) (hz : xs.length ≤ sizeLine) (hT : h'.get? s.heap.objs.size = some { cls := .type "tuple", data := .seq us.toArray }) :
    Inv X pins σ (upd H s.heap.objs.size (.tup xs)) { s with heap := h', toks := t' } := by
  have fT : H s.heap.objs.size = none := I.hok.fresh (Nat.le_refl _)
  have nT : ∀ b o, s.heap.get? b = some o → b ≠ s.heap.objs.size := fun b o q => Nat.ne_of_lt (Heap.lt_size q)
  have nH : ∀ b u, H b = some u → b ≠ e ∧ b ≠ it := fun b u q => ⟨fun z => (by rw [z, f1.1] at q; cases q), fun z => (by rw [z, f2.1] at q; cases q)⟩
  have mem : ∀ b, b ∉ [e, it] → b ≠ e ∧ b ≠ it := fun b hb => ⟨fun z => hb (by simp [z]), fun z => hb (by simp [z])⟩
  refine I.step (g' := s.gens) (d' := s.drawn) (ch := [e, it]) (fun b hb => ?_) (fun b o _ _ hc q _ => k b o (mem b hc).1 (mem b hc).2 q) (fun b o _ _ hc q _ => ⟨o.slots, k b o (mem b hc).1 (mem b hc).2 q⟩)
    (fun b o _ q n => by rw [upd_ne (nT b o q)]; exact n) (fun b o _ q => there b o q) (fun b ys q => by rw [upd_ne (ne_of_none q fT)]; exact q) (fun b o u q => by rw [upd_ne (ne_of_none q fT)]; exact q)
    (fun b ps q => ⟨#[], by rw [upd_ne (ne_of_none q fT), q]; simp⟩) (fun m hm => ?_) (fun b u q => ?_) I.bare
  · have hb' : b = e ∨ b = it := by simpa using hb
    rcases hb' with rfl | rfl
    · exact ⟨f1.2.2.2.1, f1.2.1, f1.2.2.2.2.1, f1.2.2.2.2.2⟩
    · exact ⟨f2.2.2.2.1, f2.2.1, f2.2.2.2.2.1, f2.2.2.2.2.2⟩
  · obtain ⟨o, es, ep, ho, r⟩ := hm
    exact ⟨o, es, ep, k _ o (Ne.symm f1.2.1) (Ne.symm f2.2.1) ho, r⟩
  · by_cases hb : b = s.heap.objs.size
    · subst hb
      rw [upd_same] at q
      cases q
      exact ⟨hz, us, r, ⟨_, hT, rfl, _, rfl⟩, fun o z => by rw [hT] at z; cases z; rfl⟩
    · rw [upd_ne hb] at q
      refine (I.hok b u q).stay (fun c v hc z => ?_) (fun c z => by rw [upd_ne (ne_of_none z fT)]; exact z) fun c ys z => by rw [upd_ne (ne_of_none z fT)]; exact z
      rcases hc with rfl | hc
      · exact k _ v (nH _ _ q).1 (nH _ _ q).2 z
      · exact k _ v (nH _ _ hc).1 (nH _ _ hc).2 z
theorem turn_enum {P : Program} {w : World} {K : PySem.W.Frag} {elts : List Expr} {kk : Nat} {tpos : Pos} (tp : Bool) (a e it : Addr) (h1 : e ≠ it) (h2 : a ≠ e) (h3 : a ≠ it) :
    Turn P w K (.Tuple elts kk tpos) (Ite K tp a) [e, it] e (fun i h => (∃ old, IsEnum h e it i old) ∧ ItS tp h it a i) where
  mem := by simp
  obj := fun i h st b hb => by
    obtain ⟨⟨old, he⟩, hi⟩ := st
    have hb' : b = e ∨ b = it := by simpa using hb
    rcases hb' with rfl | rfl
    · exact ⟨_, he, fun v z => by have z' : Data.fields _ = Data.cell v := z; cases z'⟩
    · cases tp with
      | true => obtain ⟨o, q, c, d⟩ := (show h.IsTupleIter b a i from hi); exact ⟨o, q, fun v z => by rw [d] at z; cases z⟩
      | false => obtain ⟨o, q, c, d⟩ := (show h.IsListIter b a i from hi); exact ⟨o, q, fun v z => by rw [d] at z; cases z⟩
  keep := fun i h h' st k => by
    obtain ⟨⟨old, he⟩, hi⟩ := st
    refine ⟨⟨old, k e (by simp) _ he⟩, ?_⟩
    cases tp with
    | true => exact (show h.IsTupleIter it a i from hi).at fun o q => k it (by simp) o q
    | false => exact (show h.IsListIter it a i from hi).at fun o q => k it (by simp) o q
  item := by
    intro X hP hw hK hc i pins s σ H E I hf st hg
    subst hP hw hK
    obtain ⟨⟨old, he⟩, hi⟩ := st
    obtain ⟨xs, x, hq, hx⟩ := hg
    obtain ⟨its, rv, p, hz⟩ := seqB_lt I hq
    obtain ⟨u, hu, ru⟩ := rv.get hx
    have hlt : i < its.toArray.size := by
      have := (List.getElem?_eq_some_iff.mp hx).1
      rw [List.size_toArray, ← rv.length]
      exact this
    have hh : X.A.in1.handled = none := I.ok.hd hc
    have fin : ∀ (x' : Value) (h' : Heap) (tk : Nat), its.toArray[i]? = some x' → IsEnumOut h' e it ((i : Int) + 1) x' s.heap.objs.size → ItS tp h' it a (i + 1) → h'.get? s.heap.objs.size = some { cls := .type "tuple", data := .seq #[.int i tk, x'] } →
        (∀ b o, b ≠ e → b ≠ it → s.heap.get? b = some o → h'.get? b = some o) → ∃ u, some (Value.ref s.heap.objs.size) = some u ∧
          wpAny (model X.prog X.w) X.A (letOwnedTupleGo (.Tuple elts kk tpos) (.ref e) u) (fun _ s2 => ∃ x H', Inv X pins σ H' s2 ∧ RelV x u ∧ (Ite X.K tp a).yld i H x H' ∧ ((∃ old, IsEnum s2.heap e it ((i + 1 : Nat) : Int) old) ∧ ItS tp s2.heap it a (i + 1)) ∧ ∀ b ∈ [e, it], H' b = none) E { s with heap := h', toks := tk + 1 } := by
      intro x' h' tk hP hout hS hT hk
      have ex : x' = u := by
        have : its[i]? = some x' := by simpa using hP
        rw [hu] at this
        exact Eq.symm (Option.some.inj this)
      subst ex
      refine ⟨_, rfl, wpAny_letOwnedTupleGo_enum (s := { s with heap := h', toks := tk + 1 }) hout fun h2' he2 hs2 => ?_⟩
      have nTe : s.heap.objs.size ≠ e := Nat.ne_of_gt (Heap.lt_size he)
      have itlt : it < s.heap.objs.size := by
        cases tp with
        | true => obtain ⟨o, q, _⟩ := (show s.heap.IsTupleIter it a i from hi); exact Heap.lt_size q
        | false => obtain ⟨o, q, _⟩ := (show s.heap.IsListIter it a i from hi); exact Heap.lt_size q
      have S2 : ItS tp h2' it a (i + 1) := by
        cases tp with
        | true => exact (show h'.IsTupleIter it a (i + 1) from hS).extBut hs2.extBut (Ne.symm h1)
        | false => exact (show h'.IsListIter it a (i + 1) from hS).extBut hs2.extBut (Ne.symm h1)
      have J : Inv X pins σ (upd H s.heap.objs.size (.tup [.int i, x])) { s with heap := h2', toks := tk + 1 } := by
        refine I.turn2 (xs := [.int i, x]) (us := [.int i tk, x']) (hf e (by simp)) (hf it (by simp)) (fun b o q1 q2 q => hs2.extBut b o q1 (hk b o q1 q2 q)) (fun b o q => ?_) (.cons ⟨tk, rfl⟩ (.cons ru .nil)) (by show 2 ≤ sizeLine; decide) (hs2.extBut _ _ nTe hT)
        by_cases q1 : b = e
        · rw [q1]; exact ⟨_, he2⟩
        · by_cases q2 : b = it
          · rw [q2]
            cases tp with
            | true => obtain ⟨o', z, _⟩ := (show h2'.IsTupleIter it a (i + 1) from S2); exact ⟨o', z⟩
            | false => obtain ⟨o', z, _⟩ := (show h2'.IsListIter it a (i + 1) from S2); exact ⟨o', z⟩
          · exact ⟨o, hs2.extBut b o q1 (hk b o q1 q2 q)⟩
      refine ⟨.ref s.heap.objs.size, _, J, rfl, ⟨_, x, rfl, I.hok.fresh (Nat.le_refl _), fun ys hy => ?_, rfl⟩, ⟨⟨_, by simpa using he2⟩, S2⟩, fun b hb => ?_⟩
      · have e2 : ys = xs := by
          cases tp with
          | true => exact I.tuple_inj hy hq
          | false => exact I.list_inj hy hq
        rw [e2]
        exact hx
      have hb' : b = e ∨ b = it := by simpa using hb
      rcases hb' with rfl | rfl
      · rw [upd_ne (Ne.symm nTe)]; exact (hf b (by simp)).1
      · rw [upd_ne (Nat.ne_of_lt itlt)]; exact (hf b (by simp)).1
    have hef : e ∉ [it, a] := fun z => by
      have z' : e = it ∨ e = a := by simpa using z
      rcases z' with z | z
      · exact h1 z
      · exact h2 z.symm
    cases tp with
    | true => exact wpAny_pyNext_enum_itemD (drawsT hh it a h3 its.toArray) he ⟨hi, p⟩ hlt h1 hef fun x' h' tk hP hout hSt hT hsz hk => fin x' h' tk hP hout hSt.1 hT hk
    | false => exact wpAny_pyNext_enum_itemD (Draws.list hh it a h3 its.toArray) he ⟨hi, p⟩ hlt h1 hef fun x' h' tk hP hout hSt hT hsz hk => fin x' h' tk hP hout hSt.1 hT hk
  done := by
    intro X hP hw hK hc i pins s σ H E I hf st hg
    subst hP hw hK
    obtain ⟨⟨old, he⟩, hi⟩ := st
    obtain ⟨xs, hq, hx⟩ := hg
    obtain ⟨its, rv, p, hz⟩ := seqB_lt I hq
    have en : i = its.toArray.size := by rw [List.size_toArray, ← rv.length]; exact hx.symm
    subst en
    have hh : X.A.in1.handled = none := I.ok.hd hc
    obtain ⟨f0, f1, f2, f3, f4, f5⟩ := hf it (by simp)
    cases tp with
    | true => exact wpAny_pyNext_enum_endD (drawsT hh it a h3 its.toArray) he ⟨hi, p⟩ fun h' eb => ⟨rfl, I.turned (t' := s.toks) (fun b o hb q => eb b o hb q) f0 f1 f3 f4 f5⟩
    | false => exact wpAny_pyNext_enum_endD (Draws.list hh it a h3 its.toArray) he ⟨hi, p⟩ fun h' eb => ⟨rfl, I.turned (t' := s.toks) (fun b o hb q => eb b o hb q) f0 f1 f3 f4 f5⟩
  self := fun _ _ _ _ _ st h => by
    obtain ⟨⟨old, he⟩, _⟩ := st
    exact wpAny_pyIter_enum he h
section
variable {X : Cx}
def iEnum (K : PySem.W.Frag) (tp : Bool) (ta : TA) : TI := fun σ H R => ta σ H fun vs H1 => ∃ a, vs = [.ref a] ∧ (∃ xs, SqB K tp H1 a xs) ∧ R (Ite K tp a) H1
theorem pi_enum {elts : List Expr} {kk : Nat} {tpos p pos : Pos} {l : Expr} {ta : TA} (tp : Bool) (hg : Gl X "enumerate") (hm : X.mg "enumerate" = none) (hv : bootBuiltins "enumerate" = some (.type "enumerate")) (ha : PA X [l] ta) (hs : starEach [l] X.env = [(false, eval l X.env)] := by rfl) :
    PI X (.Tuple elts kk tpos) (.Call (.Name "enumerate" p) [l] [] pos) (iEnum X.K tp ta) := by
  intro pins s σ H R I h
  refine Call_ (ld_blt I hg hm hv (PyProof.Rows.callWith_type1 (thn (ha pos pins s σ H _ I h) fun us s1 ⟨vs, H1, I1, r1, q1⟩ => ?_) hs rfl))
  obtain ⟨a, rfl, ⟨xs, hq⟩, q⟩ := q1
  obtain ⟨u, rfl, ru⟩ := vals1 r1
  cases (show u = Value.ref a from ru)
  obtain ⟨its, rv, p, hz⟩ := seqB_lt I1 hq
  have alt : a < s1.heap.objs.size := by
    cases tp with
    | true => obtain ⟨o, z, _⟩ := (show s1.heap.IsTuple a its.toArray from p); exact Heap.lt_size z
    | false => obtain ⟨o, z, _⟩ := (show s1.heap.IsList a its.toArray from p); exact Heap.lt_size z
  have fin : ∀ h', IsEnum h' (s1.heap.objs.size + 1) s1.heap.objs.size 0 .none → ItS tp h' s1.heap.objs.size a 0 → (∀ b o, s1.heap.get? b = some o → h'.get? b = some o) →
      wpAny (model X.prog X.w) X.A (pyIter (.ref (s1.heap.objs.size + 1))) (PIE X pins σ (.Tuple elts kk tpos) R) X.xe { s1 with heap := h' } := fun h' he hS hk => by
    refine wpAny_pyIter_enum (s := { s1 with heap := h' }) he ?_
    refine ⟨s1.heap.objs.size + 1, [s1.heap.objs.size + 1, s1.heap.objs.size], _, _, H1, rfl, I1.kept (t' := s1.toks) hk, turn_enum tp a _ _ (Nat.ne_of_gt (Nat.lt_succ_self _)) (Nat.ne_of_lt (Nat.lt_succ_of_lt alt)) (Nat.ne_of_lt alt), ⟨⟨_, by simpa using he⟩, hS⟩, fun b hb => ?_, q⟩
    have hb' : b = s1.heap.objs.size + 1 ∨ b = s1.heap.objs.size := by simpa using hb
    rcases hb' with rfl | rfl
    · exact I1.fpOk (Nat.le_succ _) (I1.hok.fresh (Nat.le_succ _))
    · exact I1.fpOk (Nat.le_refl _) (I1.hok.fresh (Nat.le_refl _))
  cases tp with
  | true => exact call_enumT p fun h' he hS _ hk => fin h' he hS hk
  | false => exact call_enumerate_list p fun h' he hS _ hk => fin h' he hS hk
theorem for_enum {K : PySem.W.Frag} {tp : Bool} {a : Addr} {xs : List V} {g : TG} {tb : TS} {D : Ends} {σ : St} {H : Hp} (Pv : Nat → St → Hp → Prop) (h0 : Pv 0 σ H) (hl : ∀ i σ H, i ≤ xs.length → Pv i σ H → SqB K tp H a xs)
    (hs : ∀ i x t σ H, xs[i]? = some x → Pv i σ H → H t = none → g (.ref t) σ (upd H t (.tup [.int i, x])) fun σ2 H2 => tb { D with nx := Pv (i + 1), ct := Pv (i + 1), bk := D.nx } σ2 H2) (hd : ∀ σ H, Pv xs.length σ H → D.nx σ H) :
    ∃ W : Nat → Nat → St → Hp → Prop, (∃ m, W 0 m σ H) ∧ ∀ i m σ H, W i m σ H →
      ((Ite K tp a).stop i H ∧ D.nx σ H) ∨ ((Ite K tp a).go i H ∧ ∃ N : St → Hp → Prop, (∀ σ' H', N σ' H' → ∃ m', m' < m ∧ W (i + 1) m' σ' H') ∧ ∀ x H', (Ite K tp a).yld i H x H' → g x σ H' fun σ2 H2 => tb { D with nx := N, ct := N, bk := D.nx } σ2 H2) := by
  refine ⟨fun i m σ H => m = xs.length - i ∧ i ≤ xs.length ∧ Pv i σ H, ⟨xs.length, by simp, Nat.zero_le _, h0⟩, ?_⟩
  rintro i m σ H ⟨rfl, hi, p⟩
  have q := hl i σ H hi p
  by_cases hlt : i < xs.length
  · refine .inr ⟨⟨xs, xs[i], q, by simp [hlt]⟩, Pv (i + 1), fun σ' H' p' => ⟨xs.length - (i + 1), by omega, rfl, hlt, p'⟩, fun x H' y => ?_⟩
    obtain ⟨t, z, rfl, ht, hy, rfl⟩ := y
    exact hs i z t σ H (hy xs q) p ht
  · have e : i = xs.length := by omega
    subst e
    exact .inl ⟨⟨xs, q, rfl⟩, hd σ H p⟩
end
end L2
set_option Elab.async false
set_option linter.all false
set_option maxRecDepth 100000
namespace L2
open PySem PySem.Spec PyProof.Rows
section
variable {prog : Program} {w : World} {A : Around} {E : Value → Shared → Prop}
theorem drawL {it l : Addr} {its : Array Value} (hne : l ≠ it) : ∀ (n i : Nat) (s : Shared) (Q : List Value → Shared → Prop), s.heap.IsListIter it l i → s.heap.IsList l its → i + n ≤ its.size →
    (∀ h', h'.IsListIter it l (i + n) → Heap.SameBut it s.heap h' → Q ((its.toList.drop i).take n) { s with heap := h' }) → wpAny (model prog w) A (draw (.ref it) n) Q E s
  | 0, i, s, Q, hi, _, _, hQ => by
    have q := hQ s.heap hi (Heap.SameBut.refl ..)
    rw [List.take_zero] at q
    exact wpAny_pure q
  | n + 1, i, s, Q, hi, hl, hle, hQ => by
    have hlt : i < its.size := by omega
    refine wpAny_bind (m := pyNext (.ref it)) (wpAny_pyNext_list_item hi hl (x := its[i]) (by simp [hlt]) fun h1 hi1 hs1 => ?_)
    refine wpAny_bind (wpAny_holding (drawL hne n (i + 1) _ _ hi1 (hl.extBut hs1.extBut hne) (by omega) fun h2 hi2 hs2 => wpAny_pure ?_))
    have q := hQ h2 (by rw [show i + (n + 1) = i + 1 + n by omega]; exact hi2) (hs1.trans hs2)
    rw [show its.toList.drop i = its[i] :: its.toList.drop (i + 1) by simp [List.drop_eq_getElem_cons, hlt], List.take_succ_cons] at q
    exact q
theorem unpackL {s : Shared} {l : Addr} {its : Array Value} {Q : List Value → Shared → Prop} (hh : A.handled = none) (hl : s.heap.IsList l its)
    (hQ : ∀ h', Heap.ExtBut s.heap.objs.size s.heap h' → Q its.toList { s with heap := h' }) : wpAny (model prog w) A (unpackItems (.ref l) its.size none) Q E s := by
  have hlt : l ≠ s.heap.objs.size := let ⟨_, ho, _⟩ := hl; Nat.ne_of_lt (Heap.lt_size ho)
  have hp : (s.heap.push { cls := .type "list_iterator", data := .fields #[.ref l, .int 0 0] }).IsList l its := hl.push _
  unfold unpackItems
  refine wpAny_bind ?_
  unfold notIterableAtAll
  refine wpAny_bind (wpAny_specialOf hl.typeIs slot_list_iter.lookup (wpAny_pure ?_))
  rw [if_neg Bool.false_ne_true]
  refine wpAny_bind (wpAny_holding (wpAny_pyIter_list hl (wpAny_bind (wpAny_holding (drawL hlt its.size 0 _ _ ⟨_, Heap.get?_push_size _ rfl, rfl, rfl⟩ hp (by omega) fun h1 hi1 hs1 => ?_)))))
  rw [show List.take its.size (List.drop 0 its.toList) = its.toList by rw [List.drop_zero]; exact List.take_of_length_le (by simp)]
  first
    | rw [if_neg (by simp)]
    | skip
  have hl1 : h1.IsList l its := hp.extBut hs1.extBut hlt
  refine wpAny_bind (wpAny_holding (wpAny_pyNext_list_end hh hi1 hl1 (by simp) fun h2 he2 => ?_))
  rw [if_neg (by simp)]
  exact wpAny_pure (hQ h2 fun b o hb e => he2 b o hb (hs1.extBut b o hb (Heap.get?_push_of_some _ e)))
end
section
variable {X : Cx} {pos : Pos}
def gTupL (K : PySem.W.Frag) (n : Nat) (t : TGs) : TG := fun v σ H Q => ∃ a xs, v = .ref a ∧ SqL K H a xs ∧ xs.length = n ∧ t xs σ H Q
theorem pg_tupL {es : List Expr} {k : Nat} {t : TGs} {n : Nat} (hc : X.calm = true) (h : PGs X es t)
    (hn : (assignEach es X.env).length = n := by rfl) (hst : (assignEach es X.env).findIdx? (·.1) = none := by rfl) : PG X (.Tuple es k pos) (gTupL X.K n t) := by
  intro pins s σ H v u Q I r hw
  obtain ⟨a, xs, e1, hq, hl, hw⟩ := hw
  subst e1
  cases r
  obtain ⟨its, rv, ht, hz⟩ := I.list hq
  rw [assign_Tuple]
  refine wpAny_bind (wpAny_standAt ?_)
  unfold unpack
  have e2 : (assignEach es X.env).length = its.toArray.size := by simp [hn, ← hl, rv.length]
  rw [e2, hst]
  refine wpAny_bind (wpAny_holding (unpackL (I.ok.hd hc) ht.isList fun h' hx => ?_))
  have I1 : Inv X pins σ H { s with heap := h' } := I.kept (t' := s.toks) fun b o e => hx b o (Nat.ne_of_lt (Heap.lt_size e)) e
  exact h pins _ σ H xs _ Q I1 (by simpa using rv) hw
end
end L2
set_option Elab.async false
set_option linter.all false
set_option maxRecDepth 100000
namespace L2
open PySem PySem.Spec PyProof.Rows
theorem bt_len : bootBuiltins "len" = some (.builtin "len") := by decide +kernel
theorem bt_max : bootBuiltins "max" = some (.builtin "max") := by decide +kernel
theorem bt_min : bootBuiltins "min" = some (.builtin "min") := by decide +kernel
theorem bt_isinstance : bootBuiltins "isinstance" = some (.builtin "isinstance") := by decide +kernel
theorem bt_list : bootBuiltins "list" = some (.type "list") := by decide +kernel
theorem bt_tuple : bootBuiltins "tuple" = some (.type "tuple") := by decide +kernel
theorem bt_int : bootBuiltins "int" = some (.type "int") := by decide +kernel
theorem bt_bool : bootBuiltins "bool" = some (.type "bool") := by decide +kernel
theorem bt_enumerate : bootBuiltins "enumerate" = some (.type "enumerate") := by decide +kernel
structure Dn (K : PySem.W.Frag) (mg : Str → Option Value) (x qual : Str) (st : Stmt) (ps : List Str) (f : Addr) (fd : FuncData) : Prop where
  fn : Fun K x qual st f fd
  b : Binds K fd ps []
  m : mg x = some (.ref f)
theorem dn_mk {K : PySem.W.Frag} {h : Heap} {mg : Str → Option Value} (X : K.In h) (G : h.Ns mainGlobals mg) {x : Str} {st : Stmt} {ps : List Str} {f : Addr} {oc : Value} {od an : Option Addr} {osl : Array (Option Value)} {kV doc pm cdv ct : Value}
    (a : PySem.W.nsIn K mainGlobals x = some (some (.ref f))) (l : K.lookup f = some ⟨oc, od, .func (PySem.W.fnOf x x (defArgs st) (defBody st) (defScope st) .none kV doc pm an cdv ct), osl⟩)
    (c : PySem.W.codeIn K cdv x = true) (k : PySem.W.keepIn K (.ref f) = true)
    (b : ∀ (kV doc pm : Value) (an : Option Addr) (cdv ct : Value) (us : List Value), us.length = ps.length → bindArgs (PySem.W.fnOf x x (defArgs st) (defBody st) (defScope st) .none kV doc pm an cdv ct) ⟨us, []⟩ = pure (ps.zip us)) :
    ∃ f fd, Dn K mg x x st ps f fd := ⟨f, _, fun_mk (st := st) l c k, (fun_mk (st := st) l c k).binds b, PySem.W.mg_of X G a⟩
def isStar : Expr → Bool
  | .Starred _ _ => true
  | _ => false
theorem star_cons {e : Expr} {es : List Expr} {env : Env} (h : isStar e = false) : starEach (e :: es) env = (false, eval e env) :: starEach es env := by
  cases e with
  | Starred a b => exact Bool.noConfusion h
  | _ => kernel_rfl
theorem pa_c {X : Cx} {e : Expr} {es : List Expr} {te : TE} {t : TA} (ha : PE X e te) (hr : PA X es t) (h : isStar e = false := by rfl) : PA X (e :: es) (tCons te t) := pa_cons ha hr (star_cons h)
section
variable {X : Cx} {es : List Expr} {t : TA} {j : Nat} {p : Pos}
theorem pa_ofE {e : Expr} {te : TE} (ha : PE X e te) (hs : isStar e = false) (h : PA X es t) : PA X (e :: es) (tCons te t) := pa_c ha h hs
theorem pa_non (h : PA X es t) : PA X (.Constant .none j p :: es) (tCons (tC .non) t) := pa_ofE pe_non rfl h
theorem pa_bl {b : Bool} (h : PA X es t) : PA X (.Constant (.bool b) j p :: es) (tCons (tC (.bl b)) t) := pa_ofE pe_bl rfl h
theorem pa_str {x : Str} (h : PA X es t) : PA X (.Constant (.str x) j p :: es) (tCons (tC (.str x)) t) := pa_ofE pe_str rfl h
theorem pa_int {i : Int} (h : PA X es t) : PA X (.Constant (.int i) j p :: es) (tCons (tC (.int i)) t) := pa_ofE pe_int rfl h
theorem pa_lst {es' : List Expr} {t' : TA} (h' : PA X es' t') (h : PA X es t) : PA X (.List es' p :: es) (tCons (tLst t') t) := pa_ofE (pe_lst h') rfl h
theorem pa_tup {es' : List Expr} {t' : TA} {k : Nat} (h' : PA X es' t') (h : PA X es t) : PA X (.Tuple es' k p :: es) (tCons (tTup t') t) := pa_ofE (pe_tup h') rfl h
theorem pa_dnew (h : PA X es t) : PA X (.Dict [] [] p :: es) (tCons tDNewK t) := pa_ofE pe_dnewK rfl h
end
def blkOk (fs : Scope) (scope : Scope) (N : List Str) (x : Str) (Nf : List Str) (js : List Nat) : Bool :=
  (scope.kind == .function) && scope.names.all (fun y => y.2 != .cell) && scope.names.all (fun y => y.2 != .local || scope.names.lookup y.1 == some .local) && (scope.names.lookup x == some .local) &&
    decide (x :: Nf).Nodup && scope.names.all (fun y => y.2 != .free || fs.names.lookup y.1 == some .cell) && (Nf.length == js.length) &&
    (Nf.zip js).all (fun p => N[p.2]? == some p.1 && scope.names.lookup p.1 == some .free && fs.names.lookup p.1 == some .cell)
theorem blk_mk {X : Cx} {scope : Scope} {x : Str} (Nf : List Str) (js : List Nat) (h : blkOk X.env.scope scope X.N x Nf js = true := by kernel_rfl) : BlkScope X scope x Nf js := by
  unfold blkOk at h
  simp only [Bool.and_eq_true, beq_iff_eq, decide_eq_true_eq] at h
  obtain ⟨⟨⟨⟨⟨⟨⟨h1, h2⟩, h3⟩, h4⟩, h5⟩, h6⟩, h7⟩, h8⟩ := h
  refine ⟨h1, fun y hy => ?_, fun y hy hl => ?_, h4, h5, fun y hy hf => ?_, h7, fun i z hz => ?_⟩
  · have := List.all_eq_true.mp h2 y hy
    simpa using this
  · have := List.all_eq_true.mp h3 y hy
    rw [hl] at this
    simpa using this
  · have := List.all_eq_true.mp h6 y hy
    rw [hf] at this
    show X.env.scope.names.lookup y.1 = some .cell
    simpa using this
  · have hi : i < js.length := by rw [← h7]; exact (List.getElem?_eq_some_iff.mp hz).1
    have hm : (z, js[i]) ∈ Nf.zip js := by
      have e : (Nf.zip js)[i]? = some (z, js[i]) := by
        rw [List.getElem?_zip_eq_some]
        exact ⟨hz, by simp [hi]⟩
      exact List.mem_of_getElem? e
    have q := List.all_eq_true.mp h8 _ hm
    rw [Bool.and_eq_true, Bool.and_eq_true, beq_iff_eq, beq_iff_eq, beq_iff_eq] at q
    exact ⟨js[i], by simp [hi], q.1.1, q.1.2, q.2⟩
def ItB (K : PySem.W.Frag) (tp : Bool) (a : Addr) : It := if tp then Itt K a else Itl K a
def iSeq (K : PySem.W.Frag) (tp : Bool) (tl : TE) : TI := fun σ H R => tl σ H fun x H1 => ∃ a, x = .ref a ∧ (∃ xs, SqB K tp H1 a xs) ∧ R (ItB K tp a) H1
theorem pi_seq {X : Cx} {tg l : Expr} {tl : TE} (tp : Bool) (hl : PE X l tl) : PI X tg l (iSeq X.K tp tl) := by
  cases tp with
  | true => exact pi_tup hl
  | false => exact pi_list hl
def KB (p : Addr) (H H' : Hp) : Prop := ∀ b o, H b = some o → b ≠ p → H' b = some o
theorem KB.refl {p : Addr} {H : Hp} : KB p H H := fun _ _ h _ => h
theorem KB.trans {p : Addr} {H H1 H2 : Hp} (a : KB p H H1) (b : KB p H1 H2) : KB p H H2 := fun c o h n => b c o (a c o h n) n
theorem Same.kb {p : Addr} {H H' : Hp} (a : Same H H') : KB p H H' := fun b o h _ => a b o h
theorem Same.upd {H : Hp} {p : Addr} {o : HO} (h : H p = none) : Same H (upd H p o) := fun b u q => by rw [upd_ne (ne_of_none q h)]; exact q
theorem KB.updN {H H1 : Hp} {p q : Addr} {o : HO} (k : KB p H H1) (h : H1 q = none) : KB p H (upd H1 q o) := fun b u z n => by rw [upd_ne (ne_of_none (k b u z n) h)]; exact k b u z n
theorem KB.updP {H H1 : Hp} {p : Addr} {o : HO} (k : KB p H H1) : KB p H (upd H1 p o) := fun b u z n => by rw [upd_ne n]; exact k b u z n
end L2
set_option Elab.async false
set_option linter.all false
set_option maxRecDepth 100000
namespace L2
open PySem PySem.Spec PyProof.Rows
def kD : Key → PyData
  | .inl i => .int i
  | .inr x => .str x
mutual
inductive DV (N : Addr → Prop) (H : Hp) : V → PyData → Prop
  | non : DV N H .non .none
  | bl (b : Bool) : DV N H (.bl b) (.bool b)
  | int (i : Int) : DV N H (.int i) (.int i)
  | str (x : Str) : DV N H (.str x) (.str x)
  | lst {a : Addr} {xs : List V} {ds : List PyData} : ¬ N a → H a = some (.lst xs) → DVs N H xs ds → DV N H (.ref a) (.list ds)
  | tup {a : Addr} {xs : List V} {ds : List PyData} : ¬ N a → H a = some (.tup xs) → DVs N H xs ds → DV N H (.ref a) (.tuple ds)
  | dct {a : Addr} {kvs : List (Key × V)} {ds : List (PyData × PyData)} : ¬ N a → H a = some (.dK kvs) → DKs N H kvs ds → DV N H (.ref a) (.dict ds)
inductive DVs (N : Addr → Prop) (H : Hp) : List V → List PyData → Prop
  | nil : DVs N H [] []
  | cons {v : V} {d : PyData} {vs : List V} {ds : List PyData} : DV N H v d → DVs N H vs ds → DVs N H (v :: vs) (d :: ds)
inductive DKs (N : Addr → Prop) (H : Hp) : List (Key × V) → List (PyData × PyData) → Prop
  | nil : DKs N H [] []
  | cons {k : Key} {v : V} {d : PyData} {vs : List (Key × V)} {ds : List (PyData × PyData)} : DV N H v d → DKs N H vs ds → DKs N H ((k, v) :: vs) ((kD k, d) :: ds)
end
mutual
theorem DV.keep {N N' : Addr → Prop} {H H' : Hp} (k : ∀ a o, ¬ N a → H a = some o → H' a = some o) (n : ∀ a, N' a → N a) : ∀ {v : V} {d : PyData}, DV N H v d → DV N' H' v d
  | _, _, .non => .non
  | _, _, .bl b => .bl b
  | _, _, .int i => .int i
  | _, _, .str x => .str x
  | _, _, .lst na e r => .lst (fun z => na (n _ z)) (k _ _ na e) (DVs.keep k n r)
  | _, _, .tup na e r => .tup (fun z => na (n _ z)) (k _ _ na e) (DVs.keep k n r)
  | _, _, .dct na e r => .dct (fun z => na (n _ z)) (k _ _ na e) (DKs.keep k n r)
theorem DVs.keep {N N' : Addr → Prop} {H H' : Hp} (k : ∀ a o, ¬ N a → H a = some o → H' a = some o) (n : ∀ a, N' a → N a) : ∀ {vs : List V} {ds : List PyData}, DVs N H vs ds → DVs N' H' vs ds
  | _, _, .nil => .nil
  | _, _, .cons r t => .cons (DV.keep k n r) (DVs.keep k n t)
theorem DKs.keep {N N' : Addr → Prop} {H H' : Hp} (k : ∀ a o, ¬ N a → H a = some o → H' a = some o) (n : ∀ a, N' a → N a) : ∀ {vs : List (Key × V)} {ds : List (PyData × PyData)}, DKs N H vs ds → DKs N' H' vs ds
  | _, _, .nil => .nil
  | _, _, .cons r t => .cons (DV.keep k n r) (DKs.keep k n t)
end
mutual
theorem DV.one {N N' : Addr → Prop} {H : Hp} : ∀ {v : V} {d d' : PyData}, DV N H v d → DV N' H v d' → d = d'
  | _, _, _, .non, .non => rfl
  | _, _, _, .bl _, .bl _ => rfl
  | _, _, _, .int _, .int _ => rfl
  | _, _, _, .str _, .str _ => rfl
  | _, _, _, .lst _ e r, .lst _ e' r' => by rw [e] at e'; cases e'; rw [DVs.one r r']
  | _, _, _, .tup _ e r, .tup _ e' r' => by rw [e] at e'; cases e'; rw [DVs.one r r']
  | _, _, _, .dct _ e r, .dct _ e' r' => by rw [e] at e'; cases e'; rw [DKs.one r r']
  | _, _, _, .lst _ e _, .tup _ e' _ => by rw [e] at e'; cases e'
  | _, _, _, .lst _ e _, .dct _ e' _ => by rw [e] at e'; cases e'
  | _, _, _, .tup _ e _, .lst _ e' _ => by rw [e] at e'; cases e'
  | _, _, _, .tup _ e _, .dct _ e' _ => by rw [e] at e'; cases e'
  | _, _, _, .dct _ e _, .lst _ e' _ => by rw [e] at e'; cases e'
  | _, _, _, .dct _ e _, .tup _ e' _ => by rw [e] at e'; cases e'
theorem DVs.one {N N' : Addr → Prop} {H : Hp} : ∀ {vs : List V} {ds ds' : List PyData}, DVs N H vs ds → DVs N' H vs ds' → ds = ds'
  | _, _, _, .nil, .nil => rfl
  | _, _, _, .cons r t, .cons r' t' => by rw [DV.one r r', DVs.one t t']
theorem DKs.one {N N' : Addr → Prop} {H : Hp} : ∀ {vs : List (Key × V)} {ds ds' : List (PyData × PyData)}, DKs N H vs ds → DKs N' H vs ds' → ds = ds'
  | _, _, _, .nil, .nil => rfl
  | _, _, _, .cons r t, .cons r' t' => by rw [DV.one r r', DKs.one t t']
end
mutual
theorem DV.avoid {N N' : Addr → Prop} {H : Hp} {a : Addr} {D : PyData} (x : DV N' H (.ref a) D) : ∀ {v : V} {d : PyData}, DV N H v d → d.depth < D.depth → DV (fun b => N b ∨ b = a) H v d
  | _, _, .non, _ => .non
  | _, _, .bl b, _ => .bl b
  | _, _, .int i, _ => .int i
  | _, _, .str y, _ => .str y
  | _, _, .lst na e r, h => .lst (fun z => z.elim na fun q => by subst q; rw [DV.one x (DV.lst na e r)] at h; exact Nat.lt_irrefl _ h) e (DVs.avoid x r (by simp only [PyData.depth] at h; omega))
  | _, _, .tup na e r, h => .tup (fun z => z.elim na fun q => by subst q; rw [DV.one x (DV.tup na e r)] at h; exact Nat.lt_irrefl _ h) e (DVs.avoid x r (by simp only [PyData.depth] at h; omega))
  | _, _, .dct na e r, h => .dct (fun z => z.elim na fun q => by subst q; rw [DV.one x (DV.dct na e r)] at h; exact Nat.lt_irrefl _ h) e (DKs.avoid x r (by simp only [PyData.depth] at h; omega))
theorem DVs.avoid {N N' : Addr → Prop} {H : Hp} {a : Addr} {D : PyData} (x : DV N' H (.ref a) D) : ∀ {vs : List V} {ds : List PyData}, DVs N H vs ds → PyData.depthAll ds < D.depth → DVs (fun b => N b ∨ b = a) H vs ds
  | _, _, .nil, _ => .nil
  | _, _, .cons r t, h => .cons (DV.avoid x r (by simp only [PyData.depthAll] at h; omega)) (DVs.avoid x t (by simp only [PyData.depthAll] at h; omega))
theorem DKs.avoid {N N' : Addr → Prop} {H : Hp} {a : Addr} {D : PyData} (x : DV N' H (.ref a) D) : ∀ {vs : List (Key × V)} {ds : List (PyData × PyData)}, DKs N H vs ds → PyData.depthKv ds < D.depth → DKs (fun b => N b ∨ b = a) H vs ds
  | _, _, .nil, _ => .nil
  | _, _, .cons r t, h => .cons (DV.avoid x r (by simp only [PyData.depthKv] at h; omega)) (DKs.avoid x t (by simp only [PyData.depthKv] at h; omega))
end
def tyD : PyData → Value
  | .none => .type "NoneType" | .bool _ => .type "bool" | .int _ => .type "int" | .str _ => .type "str" | .list _ => .type "list" | .tuple _ => .type "tuple" | .dict _ => .type "dict"
theorem DV.thg {K : PySem.W.Frag} {N : Addr → Prop} {H : Hp} {v : V} {d : PyData} (x : DV N H v d) : Thg K H v (tyD d) := by
  cases x with
  | non => exact .non
  | bl b => exact .bl b
  | int i => exact .int i
  | str x => exact .str x
  | lst _ e _ => exact .lst e
  | tup _ e _ => exact .tup e
  | dct _ e _ => exact .dK e
theorem DVs.things {K : PySem.W.Frag} {N : Addr → Prop} {H : Hp} {vs : List V} {ds : List PyData} (x : DVs N H vs ds) : ∀ v ∈ vs, ∃ t, Thg K H v t := by
  induction vs generalizing ds with
  | nil => intro v hv; cases hv
  | cons v vs ih =>
    cases x with
    | cons r t =>
      intro u hu
      rcases List.mem_cons.mp hu with rfl | hu
      · exact ⟨_, r.thg⟩
      · exact ih t u hu
theorem DVs.length {N : Addr → Prop} {H : Hp} : ∀ {vs : List V} {ds : List PyData}, DVs N H vs ds → vs.length = ds.length
  | _, _, .nil => rfl
  | _, _, .cons _ t => by rw [List.length_cons, List.length_cons, DVs.length t]
theorem DVs.append {N : Addr → Prop} {H : Hp} : ∀ {vs us : List V} {ds es : List PyData}, DVs N H vs ds → DVs N H us es → DVs N H (vs ++ us) (ds ++ es)
  | _, _, _, _, .nil, q => q
  | _, _, _, _, .cons r t, q => .cons r (t.append q)
theorem DVs.mem {N : Addr → Prop} {H : Hp} : ∀ {vs : List V} {ds : List PyData}, DVs N H vs ds → ∀ v ∈ vs, ∃ d ∈ ds, DV N H v d
  | _, _, .nil, v, hv => by cases hv
  | _, _, .cons r t, v, hv => by
    rcases List.mem_cons.mp hv with rfl | hv
    · exact ⟨_, List.mem_cons_self .., r⟩
    · obtain ⟨d, h1, h2⟩ := DVs.mem t v hv
      exact ⟨d, List.mem_cons_of_mem _ h1, h2⟩
theorem entries_more {prog : Program} {w : World} {h₀ : Heap} {as as' : List Addr} {d d' : Nat} (hsub : ∀ b ∈ as, b ∈ as') (hd : d ≤ d') : ∀ {l : List DictEntry} {ts : List Str}, ReprEntriesK prog w as h₀ d l ts → ReprEntriesK prog w as' h₀ d' l ts
  | _, _, .nil => .nil
  | _, _, .cons a b t => .cons ((a.more hsub).level_le hd) ((b.more hsub).level_le hd) (entries_more hsub hd t)
section
variable {X : Cx} {pins : List (Addr × Obj)} {σ : St} {H : Hp} {s : Shared} {N : Addr → Prop}
def Low (N : Addr → Prop) (H : Hp) (n : Nat) (bs : List Addr) : Prop := ∀ b ∈ bs, ∃ d, DV N H (.ref b) d ∧ d.depth ≤ n
theorem Low.mono {n m : Nat} {bs : List Addr} (h : Low N H n bs) (k : n ≤ m) : Low N H m bs := fun b hb => let ⟨d, r, q⟩ := h b hb; ⟨d, r, Nat.le_trans q k⟩
theorem Low.append {n : Nat} {bs cs : List Addr} (h : Low N H n bs) (k : Low N H n cs) : Low N H n (bs ++ cs) := fun b hb => (List.mem_append.mp hb).elim (h b) (k b)
theorem Low.cons {n : Nat} {a : Addr} {d : PyData} {bs : List Addr} (r : DV N H (.ref a) d) (k : n ≤ d.depth) (h : Low N H n bs) : Low N H d.depth (a :: bs) := fun b hb => by
  rcases List.mem_cons.mp hb with rfl | hb
  · exact ⟨d, r, Nat.le_refl _⟩
  · exact h.mono k b hb
theorem Low.out {n : Nat} {a : Addr} {d : PyData} {bs : List Addr} (r : DV N H (.ref a) d) (k : n < d.depth) (h : Low N H n bs) : a ∉ bs := fun hb => by
  obtain ⟨d', r', q⟩ := h a hb
  rw [DV.one r' r] at q
  omega
mutual
theorem DV.shows (I : Inv X pins σ H s) : ∀ {v : V} {d : PyData} {u : Value}, DV N H v d → RelV v u → d.showable = true → d.shown.length ≤ sizeLine → ∃ bs, Low N H d.depth bs ∧ ReprK X.prog X.w bs s.heap d.depth u d.shown
  | _, _, u, .non, r, _, _ => by cases (show u = Value.none from r); exact ⟨[], (fun _ h => nomatch h), by simp only [PyData.shown]; exact .of_is ReprIs.none _ _ _⟩
  | _, _, u, .bl b, r, _, _ => by cases (show u = Value.bool b from r); exact ⟨[], (fun _ h => nomatch h), by simp only [PyData.shown]; exact .of_is (ReprIs.bool b) _ _ _⟩
  | _, _, u, .int i, r, hs, _ => by obtain ⟨t, rfl⟩ := (show ∃ t, u = Value.int i t from r); exact ⟨[], (fun _ h => nomatch h), by simp only [PyData.shown]; exact .of_is (ReprIs.int t (by simpa [PyData.showable] using hs)) _ _ _⟩
  | _, _, u, .str x, r, _, hz => by obtain ⟨t, rfl⟩ := (show ∃ t, u = Value.str x t from r); exact ⟨[], (fun _ h => nomatch h), by simp only [PyData.shown]; exact .of_is (ReprIs.str x t (by simpa only [PyData.shown] using hz)) _ _ _⟩
  | _, _, u, .lst (a := a) (xs := xs) (ds := ds) na e q, r, hs, hz => by
    cases (show u = Value.ref a from r)
    obtain ⟨_, its, n, rv, g⟩ := (show ObjOk X.prog X.w H s.heap a (.lst xs) from I.hok a _ e)
    have hz' : (listText (PyData.shownAll ds)).length ≤ sizeLine := by simpa only [PyData.shown] using hz
    obtain ⟨bs, hb, hk⟩ := DVs.shows I q rv (by simpa [PyData.showable] using hs) (fun t ht => Nat.le_trans (listText_mem_le ht) hz')
    have R : DV N H (.ref a) (.list ds) := .lst na e q
    have hna : a ∉ bs := Low.out R (by simp only [PyData.depth]; omega) hb
    refine ⟨a :: bs, Low.cons R (by simp only [PyData.depth]; omega) hb, ?_⟩
    simp only [PyData.depth, PyData.shown]
    cases rv with
    | nil =>
      cases q
      simp only [PyData.shownAll, listText_nil]
      exact ReprK.listEmpty g rfl rfl
    | cons r1 r2 => exact ReprK.list g rfl rfl hna (by simpa using hk.length_eq) (fun i y e => hk.item i y (by simpa using e))
  | _, _, u, .tup (a := a) (xs := xs) (ds := ds) na e q, r, hs, hz => by
    cases (show u = Value.ref a from r)
    obtain ⟨_, its, rv, ⟨o, h1, h2, n, h3⟩, _⟩ := (show ObjOk X.prog X.w H s.heap a (.tup xs) from I.hok a _ e)
    have hz' : (tupleText (PyData.shownAll ds)).length ≤ sizeLine := by simpa only [PyData.shown] using hz
    obtain ⟨bs, hb, hk⟩ := DVs.shows I q rv (by simpa [PyData.showable] using hs) (fun t ht => Nat.le_trans (tupleText_mem_le ht) hz')
    have R : DV N H (.ref a) (.tuple ds) := .tup na e q
    have hna : a ∉ bs := Low.out R (by simp only [PyData.depth]; omega) hb
    refine ⟨a :: bs, Low.cons R (by simp only [PyData.depth]; omega) hb, ?_⟩
    simp only [PyData.depth, PyData.shown]
    exact ReprK.tuple h1 h2 h3 hna (by simpa using hk)
  | _, _, u, .dct (a := a) (kvs := kvs) (ds := ds) na e q, r, hs, hz => by
    cases (show u = Value.ref a from r)
    obtain ⟨_, hsys, vs, kv, o, es, ep, h1, h2, h3, h4, h5, h6⟩ := (show ObjOk X.prog X.w H s.heap a (.dK kvs) from I.hok a _ e)
    have hz' : (dictText (PyData.shownKv ds)).length ≤ sizeLine := by simpa only [PyData.shown] using hz
    obtain ⟨bs, hb, hk⟩ := DKs.shows I q kv h5 (by simpa [PyData.showable] using hs) (fun t ht => Nat.le_trans (dictText_mem_le ht) hz')
    have R : DV N H (.ref a) (.dict ds) := .dct na e q
    have hna : a ∉ bs := Low.out R (by simp only [PyData.depth]; omega) hb
    refine ⟨a :: bs, Low.cons R (by simp only [PyData.depth]; omega) hb, ?_⟩
    simp only [PyData.depth, PyData.shown]
    exact ReprK.dict h1 h2.1 h3 hsys hna hk
theorem DVs.shows (I : Inv X pins σ H s) : ∀ {vs : List V} {ds : List PyData} {us : List Value}, DVs N H vs ds → Vals vs us → PyData.showableAll ds = true → (∀ t ∈ PyData.shownAll ds, t.length ≤ sizeLine) →
    ∃ bs, Low N H (PyData.depthAll ds) bs ∧ ReprAllK X.prog X.w bs s.heap (PyData.depthAll ds) us (PyData.shownAll ds)
  | _, _, _, .nil, .nil, _, _ => ⟨[], (fun _ h => nomatch h), by simp only [PyData.shownAll]; exact .nil⟩
  | _, _, _, .cons (d := d) (ds := ds) r t, .cons r1 r2, hs, hz => by
    obtain ⟨sd, sds⟩ : d.showable = true ∧ PyData.showableAll ds = true := by rwa [PyData.showableAll, Bool.and_eq_true] at hs
    obtain ⟨b1, hb1, k1⟩ := DV.shows I r r1 sd (hz _ (by simp only [PyData.shownAll]; exact List.mem_cons_self ..))
    obtain ⟨b2, hb2, k2⟩ := DVs.shows I t r2 sds (fun t ht => hz t (by simp only [PyData.shownAll]; exact List.mem_cons_of_mem _ ht))
    refine ⟨b1 ++ b2, (hb1.mono (by simp only [PyData.depthAll]; exact Nat.le_max_left _ _)).append (hb2.mono (by simp only [PyData.depthAll]; exact Nat.le_max_right _ _)), ?_⟩
    simp only [PyData.depthAll, PyData.shownAll]
    have m1 := (k1.more fun b hb => List.mem_append_left b2 hb).level_le (Nat.le_max_left d.depth (PyData.depthAll ds))
    have m2 := k2.more_le (fun b hb => List.mem_append_right b1 hb) (Nat.le_max_right d.depth (PyData.depthAll ds))
    exact .cons m1 m2
theorem DKs.shows (I : Inv X pins σ H s) : ∀ {vs : List (Key × V)} {ds : List (PyData × PyData)} {us : List (Key × Value)} {es : List DictEntry}, DKs N H vs ds → KV vs us → Pairs (mixKind X.prog X.w) es us → PyData.showableKv ds = true →
    (∀ t ∈ PyData.shownKv ds, t.length ≤ sizeLine) → ∃ bs, Low N H (PyData.depthKv ds) bs ∧ ReprEntriesK X.prog X.w bs s.heap (PyData.depthKv ds) es (PyData.shownKv ds)
  | _, _, _, _, .nil, .nil, .nil, _, _ => ⟨[], (fun _ h => nomatch h), by simp only [PyData.shownKv]; exact .nil⟩
  | _, _, _, [], .cons _ _, .cons _ _, w, _, _ => nomatch w
  | _, _, kv :: _, e :: _, .cons (k := k) (d := d) (ds := ds) r t, .cons q1 q2, w, hs, hz => by
    cases w with
    | cons w1 w2 w3 =>
    have hs' : ((kD k).showable = true ∧ d.showable = true) ∧ PyData.showableKv ds = true := by simpa [PyData.showableKv] using hs
    have hz1 : ((kD k).shown ++ ": " ++ d.shown).length ≤ sizeLine := hz _ (by simp only [PyData.shownKv]; exact List.mem_cons_self ..)
    rw [strLen_append, strLen_append] at hz1
    obtain ⟨z1, z2⟩ := q1
    obtain ⟨b1, hb1, k1⟩ := DV.shows I r z2 hs'.1.2 (by omega)
    obtain ⟨b2, hb2, k2⟩ := DKs.shows I t q2 w3 hs'.2 (fun t ht => hz t (by simp only [PyData.shownKv]; exact List.mem_cons_of_mem _ ht))
    have hk : ∀ n, ReprK X.prog X.w (b1 ++ b2) s.heap n e.key (kD k).shown := fun n => by
      have z1' : k = kv.1 := z1
      rcases keyIs_shape (show keyIs kv.1 e.key = true from w1) with ⟨i, tk, z, w4⟩ | ⟨x, tk, z, w4⟩
      · rw [w4, z1', z]
        have hsi := hs'.1.1
        rw [z1', z] at hsi
        simp only [kD, PyData.shown]
        exact .of_is (ReprIs.int tk (by simpa [kD, PyData.showable] using hsi)) _ _ _
      · rw [w4, z1', z]
        have hzi : (kD k).shown.length ≤ sizeLine := by omega
        rw [z1', z] at hzi
        simp only [kD, PyData.shown] at hzi ⊢
        exact .of_is (ReprIs.str x tk hzi) _ _ _
    refine ⟨b1 ++ b2, (hb1.mono (by simp only [PyData.depthKv]; omega)).append (hb2.mono (by simp only [PyData.depthKv]; omega)), ?_⟩
    simp only [PyData.depthKv, PyData.shownKv]
    exact .cons (hk _) (by rw [w2]; exact (k1.more fun b hb => List.mem_append_left _ hb).level_le (by omega)) (entries_more (fun b hb => List.mem_append_right _ hb) (by omega) k2)
end
structure Okd (n : Nat) (d : PyData) : Prop where
  sh : d.showable = true
  lv : d.leavesShort 40 = true
  dp : d.depth ≤ 20
  wt : d.weight ≤ n
theorem Okd.len {n : Nat} {d : PyData} (h : Okd n d) (hn : n ≤ 100000) : d.shown.length ≤ sizeLine := by
  have := PyData.shown_le 40 (by decide) d h.lv
  have e : (40 + 2) * d.weight ≤ 42 * 100000 := Nat.mul_le_mul (by omega) (Nat.le_trans h.wt hn)
  have : sizeLine = 16777216 := by decide
  omega
theorem call_reprD {X : Cx} (hg : X.A.guards = some []) (hu : X.A.units + 64 < cLine) : CallR X (.builtin "repr") (fun xs H Q => ∃ (v : V) (N : Addr → Prop) (d : PyData), xs = [v] ∧ DV N H v d ∧ Okd 100000 d ∧ Q (.str d.shown) H) := by
  intro pins s σ H xs us Q I r h
  obtain ⟨v, N, d, rfl, x, ok, q⟩ := h
  obtain ⟨u, rfl, rx⟩ := vals1 r
  have hz := ok.len (Nat.le_refl _)
  have hs := ok.sh
  have hd := ok.dp
  cases x with
  | non => cases (show u = Value.none from rx); exact P.repr_of_none ⟨.str PyData.none.shown, H, I.tok _, ⟨_, by simp only [PyData.shown]; rfl⟩, q⟩
  | bl b => cases (show u = Value.bool b from rx); exact P.repr_of_bool ⟨.str (PyData.bool b).shown, H, I.tok _, ⟨_, by simp only [PyData.shown]; rfl⟩, q⟩
  | int i =>
    obtain ⟨t, rfl⟩ := (show ∃ t, u = Value.int i t from rx)
    exact P.repr_of_int (by simpa [PyData.showable] using hs) ⟨.str (PyData.int i).shown, H, I.tok _, ⟨_, by simp only [PyData.shown]; rfl⟩, q⟩
  | str y =>
    obtain ⟨t, rfl⟩ := (show ∃ t, u = Value.str y t from rx)
    exact P.repr_of_str ⟨.str (PyData.str y).shown, H, I.tok _, ⟨_, by simp only [PyData.shown]; rfl⟩, q⟩ (by simpa only [PyData.shown] using hz)
  | @lst a xs ds na e p =>
    cases (show u = Value.ref a from rx)
    obtain ⟨_, its, n, rv, g⟩ := (show ObjOk X.prog X.w H s.heap a (.lst xs) from I.hok a _ e)
    have hz' : (listText (PyData.shownAll ds)).length ≤ sizeLine := by simpa only [PyData.shown] using hz
    obtain ⟨bs, hb, hk⟩ := DVs.shows I p rv (by simpa [PyData.showable] using hs) (fun t ht => Nat.le_trans (listText_mem_le ht) hz')
    have hna : a ∉ bs := Low.out (DV.lst na e p) (by simp only [PyData.depth]; omega) hb
    simp only [PyData.depth] at hd
    cases rv with
    | nil =>
      cases p
      refine call_repr_slot (by omega) ⟨_, g, rfl⟩ PySem.F.slot_list_repr.toG (call_list_repr_empty ⟨_, g, rfl⟩ g rfl ?_)
      exact ⟨_, _, rfl, .str (PyData.list []).shown, H, I.kept (fun _ _ e => e), ⟨_, by simp only [PyData.shown, PyData.shownAll, listText_nil]; rfl⟩, q⟩
    | cons r1 r2 =>
      refine call_repr_slot (by omega) ⟨_, g, rfl⟩ PySem.F.slot_list_repr.toG (call_list_reprK (g := []) g rfl rfl hna (by simpa using hk.length_eq) (fun i y z => hk.item i y (by simpa using z)) hg (fun b _ => Clear.nil b) (by show X.A.units + 1 + (_ + 1) < cLine; omega) (fun _ _ e => e) (fun h' u tk hkk => ⟨_, _, rfl, ?_⟩) hz')
      exact ⟨.str (PyData.list ds).shown, H, I.kept hkk, ⟨_, by simp only [PyData.shown]; rfl⟩, q⟩
  | @tup a xs ds na e p =>
    cases (show u = Value.ref a from rx)
    obtain ⟨_, its, rv, ⟨o, h1, h2, n, h3⟩, _⟩ := (show ObjOk X.prog X.w H s.heap a (.tup xs) from I.hok a _ e)
    have hz' : (tupleText (PyData.shownAll ds)).length ≤ sizeLine := by simpa only [PyData.shown] using hz
    obtain ⟨bs, hb, hk⟩ := DVs.shows I p rv (by simpa [PyData.showable] using hs) (fun t ht => Nat.le_trans (tupleText_mem_le ht) hz')
    have hna : a ∉ bs := Low.out (DV.tup na e p) (by simp only [PyData.depth]; omega) hb
    simp only [PyData.depth] at hd
    refine call_repr_slot (by omega) ⟨_, h1, h2⟩ PySem.F.slot_tuple_repr (call_tuple_reprK (g := []) h1 h2 h3 hna (by simpa using hk) hg (fun b _ => Clear.nil b) (by show X.A.units + 1 + (_ + 1) < cLine; omega) (fun _ _ e => e) (fun h' u tk hkk => ⟨_, _, rfl, ?_⟩) hz')
    exact ⟨.str (PyData.tuple ds).shown, H, I.kept hkk, ⟨_, by simp only [PyData.shown]; rfl⟩, q⟩
  | @dct a kvs ds na e p =>
    cases (show u = Value.ref a from rx)
    obtain ⟨_, hsys, vs, kv, o, es, ep, h1, h2, h3, h4, h5, h6⟩ := (show ObjOk X.prog X.w H s.heap a (.dK kvs) from I.hok a _ e)
    have hz' : (dictText (PyData.shownKv ds)).length ≤ sizeLine := by simpa only [PyData.shown] using hz
    obtain ⟨bs, hb, hk⟩ := DKs.shows I p kv h5 (by simpa [PyData.showable] using hs) (fun t ht => Nat.le_trans (dictText_mem_le ht) hz')
    have hna : a ∉ bs := Low.out (DV.dct na e p) (by simp only [PyData.depth]; omega) hb
    simp only [PyData.depth] at hd
    refine call_repr_slot (by omega) ⟨_, h1, h2.1⟩ PySem.F.slot_dict_repr (call_dict_reprK (g := []) h1 h2.1 h3 hsys hna hk hg (fun b _ => Clear.nil b) (by show X.A.units + 1 + (_ + 1) < cLine; omega) (fun _ _ e => e) (fun h' u tk hkk => ⟨_, _, rfl, ?_⟩) hz')
    exact ⟨.str (PyData.dict ds).shown, H, I.kept hkk, ⟨_, by simp only [PyData.shown]; rfl⟩, q⟩
end
theorem bt_repr : bootBuiltins "repr" = some (.builtin "repr") := by decide +kernel
theorem bt_all : bootBuiltins "all" = some (.builtin "all") := by decide +kernel
theorem bt_set : bootBuiltins "set" = some (.type "set") := by decide +kernel
end L2
set_option Elab.async false
set_option linter.all false
set_option maxRecDepth 100000
namespace L2
open PySem PySem.Spec PyProof.Rows
section
variable {X : Cx}
theorem call_allB (hh : X.A.handled = none) : CallR X (.builtin "all") (fun xs H Q => ∃ (a : Addr) (bs : List Bool), xs = [.ref a] ∧ H a = some (.lst (bs.map V.bl)) ∧ Q (.bl (bs.all id)) H) := by
  intro pins s σ H xs us Q I r h
  obtain ⟨a, bs, rfl, hl, q⟩ := h
  obtain ⟨u, rfl, rx⟩ := vals1 r
  cases rx
  obtain ⟨hz, its, n, rv, g⟩ := (show ObjOk X.prog X.w H s.heap a (.lst (bs.map V.bl)) from I.hok a _ hl)
  have isl : s.heap.IsList a its.toArray := ⟨_, g, rfl, n, rfl⟩
  have lt := Heap.lt_size g
  refine call_all_walk (wpAny_pyIter_list isl ?_)
  have at_ : ∀ (i : Nat) (v : Value), its.toArray[i]? = some v → v = .bool (bs.getD i false) := fun i v e => by
    have e' : its[i]? = some v := by simpa using e
    obtain ⟨j1, j2⟩ := List.getElem?_eq_some_iff.mp e'
    have hi : i < bs.length := by have := rv.length; rw [List.length_map] at this; omega
    obtain ⟨u, u1, u2⟩ := rv.get (i := i) (x := .bl bs[i]) (by simp [hi])
    rw [e'] at u1
    cases u1
    rw [show v = Value.bool bs[i] from u2]
    simp [hi]
  refine ⟨_, _, _, _, _, _, fun i => bs.getD i false, rfl, Walks.list (by simp [hh]) _ a (Nat.ne_of_lt lt) its.toArray, ⟨⟨_, Heap.get?_push_size _ rfl, rfl, rfl⟩, isl.push _⟩, ?_, fun h' tk k => ?_⟩
  · intro i v s' R E' e hr
    rw [at_ i v e]
    exact wpAny_pure hr
  · have kk : ∀ b o, s.heap.get? b = some o → h'.get? b = some o := fun b o e => k b o (by
      intro z
      rw [List.mem_singleton.mp z] at e
      exact absurd (Heap.lt_size e) (Nat.lt_irrefl _)) (Heap.get?_push_of_some _ e)
    refine ⟨.bl (bs.all id), H, I.kept kk, ?_, q⟩
    show Value.bool _ = Value.bool _
    congr 1
    have e1 : its.toArray.size = bs.length := by have := rv.length; rw [List.length_map] at this; simp [← this]
    rw [e1]
    clear q rv hl isl g at_ e1
    rw [Bool.eq_iff_iff, List.all_eq_true, List.all_eq_true]
    constructor
    · intro f b hb
      obtain ⟨i, hi, e⟩ := List.getElem_of_mem hb
      have := f i (List.mem_range.mpr hi)
      simpa [hi, e] using this
    · intro f i hi
      have hi' := List.mem_range.mp hi
      have := f bs[i] (List.getElem_mem hi')
      simpa [hi'] using this
def upTo (i : Int) (n : Nat) : List V := (List.range n).map fun (k : Nat) => V.int (i + (k : Int))
end
end L2
set_option Elab.async false
set_option linter.all false
set_option maxRecDepth 100000
namespace L2
open PySem PySem.Spec PyProof.Rows
section
variable {prog : Program} {w : World} {A : Around} {E : Value → Shared → Prop} {s : Shared}
abbrev emptySet (led : Bool) : Obj := { cls := .type "set", dict := none, data := .set #[] 0 (.fresh 0 0 led) }
abbrev onceOf (ns : List Int) (n : Nat) : List Int := firstMet (fun i => ns.getD i 0) n
theorem set_init_tup {t : Addr} {items : Array Value} {ns : List Int} {led : Bool} {Q : Result → Shared → Prop} (hh : A.handled = none) (ht : s.heap.IsTuple t items) (hi : IntsAre items.toList ns) (hb : items.size + 1 < scanBound)
    (q : ∀ (h' : Heap) (tk : Nat), h'.SetOf (intKind prog w) s.heap.objs.size (fun k => (onceOf ns items.size).any (· == k)) (onceOf ns items.size).length → (∀ b o, b < s.heap.objs.size → s.heap.get? b = some o → h'.get? b = some o) →
      Q (.ok (.ret .none)) { s with heap := h', toks := tk }) :
    wpAny (model prog w) A.in1 (Builtin.«set.__init__» ⟨[.ref s.heap.objs.size, .ref t], []⟩) (fun fin s' => match fin with | .done f => Q (.ok f) s' | .again c' => c'.quiet = true ∧ codeAny (model prog w) A c' Q s') (fun e s' => Q (.error e) s')
      { s with heap := s.heap.push (emptySet led) } := by
  have lt : t < s.heap.objs.size := by
    obtain ⟨o, e, _⟩ := ht
    exact Heap.lt_size e
  generalize hg : s.heap.push (emptySet led) = g1
  have z1 : g1.objs.size = s.heap.objs.size + 1 := by rw [← hg]; exact Heap.size_push _ _
  have e1 : g1.get? s.heap.objs.size = some (emptySet led) := by rw [← hg]; exact Heap.get?_push_size _ rfl
  have kp : ∀ b o, s.heap.get? b = some o → g1.get? b = some o := fun b o e => by rw [← hg]; exact Heap.get?_push_of_some _ e
  have t1 : g1.IsTuple t items := ht.at fun o e => kp _ o e
  obtain ⟨ot, ot1, ot2, nt, ot3⟩ := id t1
  rcases ot with ⟨oc, od, odt, osl⟩
  cases (show oc = _ from ot2)
  cases (show odt = _ from ot3)
  have n1 := PySem.F.sub_tuple_set
  have n2 := PySem.F.sub_tuple_frozenset
  have n3 : (Value.type "tuple" == Value.type "dict") = false := by decide
  unfold Builtin.«set.__init__» noKeywords Builtin.Frozenset.updateFrom
  generalize hPI : pyIter = PI
  wp_walk
  subst hPI
  refine wpAny_pyIter_tuple t1 (wpAny_bind (wpAny_runValue ?_))
  have nI : t ≠ g1.objs.size := Nat.ne_of_lt (by rw [z1]; exact Nat.lt_succ_of_lt lt)
  have nS : s.heap.objs.size ∉ [g1.objs.size, t] := by
    simp only [List.mem_cons, List.not_mem_nil, or_false, not_or]
    exact ⟨Nat.ne_of_lt (by rw [z1]; exact Nat.lt_succ_self _), Nat.ne_of_gt lt⟩
  have vals : ∀ (i : Nat) (v : Value), items[i]? = some v → ∃ u, v = .int ((fun i => ns.getD i 0) i) u := fun i v e => IntsAre.int_at hi i v (by rw [Array.getElem?_toList]; exact e)
  have calm : A.in1.in1.handled = none := by simp [hh]
  refine codeAny_set_update_loopS ((Walks.tuple calm _ t nI items).toS) s.heap.objs.size nS _ vals hb (items.size - 0) 0 { s with heap := g1.push { cls := .type "tuple_iterator", data := .fields #[.ref t, .int 0 0] } } rfl (Nat.zero_le _) ⟨⟨_, Heap.get?_push_size _ rfl, rfl, rfl⟩, t1.push _⟩ ?st ?fin
  case st =>
    have e2 : (g1.push { cls := .type "tuple_iterator", data := .fields #[.ref t, .int 0 0] }).get? s.heap.objs.size = some (emptySet led) := Heap.get?_push_of_some _ e1
    exact SetOf_congr ((setObjOf_fresh (knd := intKind prog w) led).setOf e2 (by unfold scanBound; omega)) (fun _ => rfl) rfl
  case fin =>
    rintro ⟨h', g', d', tk', os'⟩ hm hS
    cases (show g' = s.gens from hm.gens)
    cases (show d' = s.drawn from hm.drawn)
    cases (show os' = s.os from hm.os)
    refine wpAny_pure (wpAny_pure (q h' tk' hS fun b o hb e => hm.heap b o ?_ (Heap.get?_push_of_some _ (kp b o e))))
    simp only [List.mem_cons, List.not_mem_nil, or_false, not_or]
    exact ⟨Nat.ne_of_lt hb, Nat.ne_of_lt (by rw [z1]; exact Nat.lt_succ_of_lt hb)⟩
set_option maxHeartbeats 1600000 in
theorem call_set_tup {t : Addr} {items : Array Value} {ns : List Int} {Q : Value → Shared → Prop} (hh : A.handled = none) (ht : s.heap.IsTuple t items) (hi : IntsAre items.toList ns) (hb : items.size + 1 < scanBound)
    (q : ∀ (h' : Heap) (tk : Nat), h'.SetOf (intKind prog w) s.heap.objs.size (fun k => (onceOf ns items.size).any (· == k)) (onceOf ns items.size).length → (∀ b o, b < s.heap.objs.size → s.heap.get? b = some o → h'.get? b = some o) →
      Q (.ref s.heap.objs.size) { s with heap := h', toks := tk }) : wpAny (model prog w) A (call (.type "set") [.ref t]) Q E s := by
  have made := PySem.F.called_set
  obtain ⟨c, tl, mro⟩ := made.mro
  have m1 := made.made
  have m2 := made.sub
  have m3 := made.notType
  have m4 := made.canCreate
  have m5 := PySem.F.typeCall_set_1 (.ref t)
  refine wpAny_call (codeAny_of_tree ?_)
  show wpAny _ _ (callAny (.type "set") _) _ _ _
  refine wpAny_pure ⟨Code.quiet_builtin _ (by decide +kernel), codeAny_builtin PySem.F.entry_type_call ?_⟩
  rw [Around.under_plain (weight_type_call_type "set" [.ref t] []) rfl]
  repeat (any_goals (first | assumption | wp_step))
  refine codeAny_mono (code_set_new_1 (.ref t) (E := E) (Q₁ := fun y s1 => ∃ led : Bool, y = .ref s.heap.objs.size ∧ s1 = { s with heap := s.heap.push (emptySet led) }) fun led => ⟨led, rfl, rfl⟩) fun r s1 hr => ?_
  cases r with
  | error e => exact hr
  | ok fl =>
    cases fl with
    | ret y =>
      obtain ⟨led, rfl, rfl⟩ := hr
      have ty : Shared.TypeIs { s with heap := s.heap.push (emptySet led) } (.ref s.heap.objs.size) "set" := ⟨_, Heap.get?_push_size _ rfl, rfl⟩
      have g1 := made.init.lookup
      have g2 := made.init.bind (.ref s.heap.objs.size)
      repeat (any_goals (first | assumption | wp_step))
      refine codeAny_mono (codeAny_call_builtin (R := wants (fun z s2 => z = .none ∧ Q (.ref s.heap.objs.size) s2) E) made.init.plain PySem.F.entry_set_init (check_set_init_1 ty (set_init_tup hh ht hi hb fun h' tk hS k => ⟨rfl, q h' tk hS k⟩))) fun r2 s2 hr2 => ?_
      cases r2 with
      | error e => exact hr2
      | ok f2 =>
        cases f2 with
        | ret z =>
          obtain ⟨rfl, hQ⟩ := hr2
          repeat (any_goals (first | assumption | wp_step))
        | _ => exact hr2.elim
    | _ => exact hr.elim
end
section
variable {X : Cx}
theorem ints_vals : ∀ {ns : List Int} {us : List Value}, Vals (ns.map V.int) us → IntsAre us ns
  | [], _, .nil => .nil
  | n :: ns, _, .cons r t => by
    obtain ⟨k, rfl⟩ := (show ∃ k, _ = Value.int n k from r)
    exact .cons _ _ (ints_vals t)
theorem call_setI (hh : X.A.handled = none) : CallR X (.type "set") (fun xs H Q => ∃ (a : Addr) (ns : List Int), xs = [.ref a] ∧ (H a = some (.lst (ns.map V.int)) ∨ H a = some (.tup (ns.map V.int))) ∧ ns.length ≤ 100 ∧
    ∀ l, H l = none → Q (.ref l) (upd H l (.set (fun k => (onceOf ns ns.length).any (· == k)) (onceOf ns ns.length).length))) := by
  intro pins s σ H xs us Q I r h
  obtain ⟨a, ns, rfl, hl, hz, q⟩ := h
  obtain ⟨u, rfl, rx⟩ := vals1 r
  cases rx
  have fin : ∀ (h' : Heap) (tk : Nat), h'.SetOf (intKind X.prog X.w) s.heap.objs.size (fun k => (onceOf ns ns.length).any (· == k)) (onceOf ns ns.length).length → (∀ b o, b < s.heap.objs.size → s.heap.get? b = some o → h'.get? b = some o) →
      EP X pins σ Q (.ref s.heap.objs.size) { s with heap := h', toks := tk } := fun h' tk hS k =>
    ⟨.ref s.heap.objs.size, _, I.laid (a := s.heap.objs.size) (o := .set (fun k => (onceOf ns ns.length).any (· == k)) (onceOf ns ns.length).length) (t' := tk) (fun b o e => k b o (Heap.lt_size e) e) (Nat.le_refl _) hS, rfl, q _ (I.hok.fresh (Nat.le_refl _))⟩
  have sb : scanBound > 200 := by decide
  rcases hl with hl | hl
  · obtain ⟨_, its, n, rv, g⟩ := (show ObjOk X.prog X.w H s.heap a (.lst (ns.map V.int)) from I.hok a _ hl)
    have e1 : its.toArray.size = ns.length := by have := rv.length; rw [List.length_map] at this; simp [← this]
    refine call_set_list (items := its.toArray) (ns := ns) hh ⟨_, g, rfl, n, rfl⟩ (by simpa using ints_vals rv) (by rw [e1]; omega) fun h' tk hS k => fin h' tk ?_ k
    rw [e1] at hS
    exact hS
  · obtain ⟨_, its, rv, ⟨o, h1, h2, n, h3⟩, _⟩ := (show ObjOk X.prog X.w H s.heap a (.tup (ns.map V.int)) from I.hok a _ hl)
    have e1 : its.toArray.size = ns.length := by have := rv.length; rw [List.length_map] at this; simp [← this]
    refine call_set_tup (items := its.toArray) (ns := ns) hh ⟨o, h1, h2, n, h3⟩ (by simpa using ints_vals rv) (by rw [e1]; omega) fun h' tk hS k => fin h' tk ?_ k
    rw [e1] at hS
    exact hS
theorem call_lenS : CallR X (.builtin "len") (fun xs H Q => ∃ (a : Addr) (S : Int → Bool) (n : Nat), xs = [.ref a] ∧ H a = some (.set S n) ∧ n ≤ 100000 ∧ Q (.int n) H) := by
  intro pins s σ H xs us Q I r h
  obtain ⟨a, S, n, rfl, hl, hz, q⟩ := h
  obtain ⟨u, rfl, rx⟩ := vals1 r
  cases rx
  obtain ⟨o, es, ep, t, h1, h2, h3, h4, h5, h6, h7, h8⟩ := (show s.heap.SetOf (intKind X.prog X.w) a S n from I.hok a _ hl)
  exact call_len_set h1 h2 h3 h7 (by omega) ⟨.int n, H, I.tok _, ⟨_, by rw [h8]⟩, q⟩
structure BaseFn (K : PySem.W.Frag) (T : Addr) (m : Str) (f : Addr) : Prop where
  ga : PySem.W.specialIn K (.ref T) "__getattribute__" = some (some (.builtin "type.__getattribute__"))
  rd : PySem.W.readsIn K T (.type "type") = true
  at_ : PySem.W.findCls K (.ref T) (.type "type") m = some (.val (.ref f))
  kp : PySem.W.keepIn K (.ref f) = true
theorem pe_base {CX : CXT} {k : Nat} {T f : Addr} {fd : FuncData} {ps : List Str} {sp : Sp} {E : XK} {pl : Sem Bool} {x m : Str} {p apos pos : Pos} {e : Expr} {es : List Expr} {t : TA} (B : BaseFn X.K T m f) (F : FnOk X.prog X.w X.K X.mg X.base CX k f fd ps sp) (hr : Room k X.A)
    (hg : Gl X x) (hm : X.mg x = some (.ref T)) (hb : Binds X.K fd ps []) (hx : Passes CX X E) (ha : PA X (e :: es) t)
    (hdb : (x == ("__debug__" : Str)) = false := by decide) (he : starEach (e :: es) X.env = (false, eval e X.env) :: starEach es X.env := by rfl) (hpl : (backTo pos (starEach es X.env)).any (·.1) = false := by rfl)
    (ht : eval (.Call (.Attribute (.Name x p) m apos) (e :: es) [] pos) X.env = (do
      let ov ← eval (.Name x p) X.env
      standAt apos.atName
      let (f, first) ← holding [ov] (getMethod ov m pl)
      callWith pos f first (backTo pos (starEach (e :: es) X.env)) (backToKw pos (keywordEach [] X.env))) := by rfl) :
    PE X (.Call (.Attribute (.Name x p) m apos) (e :: es) [] pos) (tCall sp [] E t) := by
  intro pins s σ H Q I h
  refine PySem.W.methodCall_KW (pl := pl) (ld_glob I hg hm ?_ hdb) ht
  refine PySem.W.method_cls I.kIn B.ga (PySem.W.cls_value I.kIn B.rd B.at_ rfl ?_)
  refine PySem.W.callWith_K (h₀ := X.base) I.ok.mod.kin B.kp (thn (ha pos pins { s with toks := s.toks + 1 } σ H _ (I.tok _) h) fun us s1 ⟨vs, H1, I1, r, q⟩ => ⟨I1.kIn, ?_⟩) he hpl
  exact run_fn F hr hb .nil hx I1 r (by simpa using q)
structure InsC (K : PySem.W.Frag) (C : Addr) : Prop where
  cl : Cls K C
  ha : PySem.W.findIn K (.ref C) "__class__" = some (some (.builtin "object.__class__"))
  hn : PySem.W.specialIn K (.builtin "object.__class__") "__get__" = some (some (.builtin "getset_descriptor.__get__"))
  tk : PySem.W.takesIn K (.builtin "object.__class__") = some true
  hm : PySem.W.mroIn K C (.type "object") = some true
theorem call_instO : CallR X (.builtin "isinstance") (fun xs H Q => ∃ (a C D dx : Addr) (fs : List (Str × V)) (b : Bool), xs = [.ref a, .ref D] ∧ H a = some (.ins C dx fs) ∧ InsC X.K C ∧ PySem.W.kitOne X.K (.ref C) (.ref D) = some b ∧ Q (.bl b) H) := by
  intro pins s σ H xs us Q I r h
  obtain ⟨a, C, D, dx, fs, b, rfl, hi, c, e, q⟩ := h
  obtain ⟨u, u', rfl, ru, ru'⟩ := vals2 r
  cases (show u' = Value.ref D from ru')
  exact isinst_ok I ru (.ins hi c.cl c.ha c.hn c.tk c.hm) e fun tk => ⟨.bl b, H, I.tok tk, rfl, q⟩
end
end L2
set_option Elab.async false
set_option linter.all false
set_option maxRecDepth 100000
set_option maxHeartbeats 1000000
namespace L2
open PySem PyProof PyProof.Rows
section
variable {prog : Program} {w : World} {A : Around} {E : Value → Shared → Prop} {s : Shared} {KK : Type} [DecidableEq KK] {knd : KeyKind prog w KK}
end
section
variable {X : Cx}
end
end L2
set_option Elab.async false
set_option linter.all false
set_option maxRecDepth 100000
set_option maxHeartbeats 1000000
namespace L2
open PySem PyProof PyProof.Rows
section
variable {s : Shared} {E : Value → Shared → Prop} {A : Around} {prog : Program} {w : World}
theorem cat_none {t b : Addr} {ws : List Value} {Q : Value → Shared → Prop} (ht : IsTup s.heap t #[]) (hb : IsTup s.heap b ws.toArray) (q : Q (.ref b) s) : wpAny (model prog w) A (binaryOp .Add (.ref t) (.ref b)) Q E s := by
  obtain ⟨⟨c1, d1, x1, l1⟩, o1, e1, n1, f1⟩ := id ht
  obtain ⟨⟨c2, d2, x2, l2⟩, o2, e2, n2, f2⟩ := id hb
  simp only at e1 f1 e2 f2
  subst e1 f1 e2 f2
  exact concat_meets ⟨_, o1, rfl⟩ ⟨_, o2, rfl⟩ noFill_tuple_add seq_tuple_add PySem.F.slot_tuple_add PySem.F.entry_tuple_add (PySem.F.args_tuple_add_2 _ _) (tuple_addW0 t b #[] ws.toArray n1 n2 d1 d2 l1 l2 rfl) ⟨o1, o2, q⟩
end
section
variable {X : Cx}
theorem op_catTT : OpR X (binaryOp .Add) (fun x y H Q => ∃ a b xs ys, x = .ref a ∧ y = .ref b ∧ H a = some (.tup xs) ∧ H b = some (.tup ys) ∧ xs.length + ys.length ≤ sizeLine ∧ ∀ p H', Same H H' → H' p = some (.tup (xs ++ ys)) → Q (.ref p) H') := by
  intro pins s σ H x y v u Q I rx ry h
  obtain ⟨a, b, xs, ys, rfl, rfl, ha, hb, hz, q⟩ := h
  by_cases e : xs = []
  · subst e
    cases rx
    cases ry
    obtain ⟨i1, r1, p1, _⟩ := I.tuple (SqT.of ha)
    obtain ⟨i2, r2, p2, _⟩ := I.tuple (SqT.of hb)
    cases r1
    exact cat_none p1 p2 ⟨.ref b, H, I, rfl, q b H (Same.refl _) hb⟩
  · refine op_catT pins s σ H _ _ v u Q I rx ry ⟨a, b, xs, ys, rfl, rfl, SqT.of ha, SqT.of hb, e, hz, fun z => ?_, fun _ p hp => q p _ (Same.upd hp) upd_same⟩
    subst z
    exact q a H (Same.refl _) (by rw [List.append_nil]; exact ha)
end
end L2
set_option Elab.async false
set_option linter.all false
set_option maxRecDepth 100000
set_option maxHeartbeats 1000000
namespace L2
open PySem PyProof PyProof.Rows
section
variable {s : Shared} {E : Value → Shared → Prop} {A : Around} {prog : Program} {w : World}
theorem tup_index {t : Addr} {items : Array Value} {x : Value} {e : Nat → Bool} {j : Nat} {Q : Value → Shared → Prop} (ht : IsTup s.heap t items) (hj : j < items.size) (hit : e j = true) (hno : ∀ m, m < j → e m = false)
    (he : ∀ m (hm : m < items.size), SeqAt.EqAt A.in1 s items[m] x (e m)) (q : ∀ k s', s' = { s with toks := s.toks + 1 } → Q (.int j k) s') : wpAny (model prog w) A.in1 (Builtin.«tuple.index» ⟨[.ref t, x], []⟩) (fun fin s' => ∃ v, fin = .done (.ret v) ∧ Q v s') E s := by
  obtain ⟨o, h1, h2, n, h3⟩ := id ht
  unfold Builtin.«tuple.index»
  refine wpAny_bind (m := selfAndSome _ _ _ _ _) (wpAny_pure ?c0)
  dsimp only
  refine wpAny_bind (show wpAny _ _ (seqItems? _ >>= _) _ _ _ from wpAny_bind (wpAny_seqItems h1 h3 (wpAny_pure ?c2)))
  refine wpAny_bind (wpAny_pure ?c3)
  refine wpAny_bind (wpAny_pure ?c4)
  refine wpAny_bind ?c5
  rewrite [Std.Legacy.Range.forIn_eq_forIn_range' (m := Sem)]
  have sz : ([:min items.size items.size] : Std.Legacy.Range).size = items.size := by simp [Std.Legacy.Range.size]
  show wpAny _ _ (forIn (List.range' 0 ([:min items.size items.size] : Std.Legacy.Range).size 1) _ _) _ _ _
  rw [sz]
  refine wpAny_forIn_list _ (fun l b s' => ∃ i, i ≤ j ∧ l = List.range' i (items.size - i) 1 ∧ b = (none, ()) ∧ s' = s) _ ?turn ?fin _ _ ⟨0, Nat.zero_le _, rfl, rfl, rfl⟩
  case fin =>
    rintro b s' ⟨i, hi, hl, _⟩
    have := congrArg List.length hl
    rw [List.length_range'] at this
    simp at this
    omega
  case turn =>
    rintro k rest b s' ⟨i, hi, hl, rfl, rfl⟩
    obtain ⟨m, hm⟩ : ∃ m, items.size - i = m + 1 := ⟨items.size - i - 1, by omega⟩
    rw [hm, List.range'_succ] at hl
    injection hl with ek er
    subst ek er
    have lt : k < items.size := by omega
    rw [Array.getElem?_eq_getElem lt]
    dsimp only
    refine wpAny_bind (he k lt prog w _ _ ?_)
    by_cases c : k = j
    · subst c
      rw [hit, if_pos rfl]
      refine wpAny_bind ?r0
      unfold retInt
      refine wpAny_bind (wpAny_mkInt ?r1)
      refine wpAny_pure ?r2
      exact wpAny_pure (wpAny_pure ⟨_, rfl, q _ _ rfl⟩)
    · rw [hno k (by omega), if_neg Bool.false_ne_true]
      exact wpAny_pure ⟨k + 1, by omega, by congr 1; omega, rfl, rfl⟩
end
section
variable {X : Cx} {o e : Expr} {es : List Expr} {to : TE} {t : TA} {name : Str} {apos cpos : Pos} {id : String} {r : V → List V → Hp → VK → Prop}
def tBMT (r : V → List V → Hp → VK → Prop) (to : TE) (t : TA) : TE := fun σ H Q => to σ H fun x H1 => (∃ a ys, x = .ref a ∧ H1 a = some (.tup ys)) ∧ t σ H1 fun xs H2 => r x xs H2 Q
theorem pe_bmT (slot : Slot "tuple" name id) (hty : typeOf (.builtin id) = pure (.type "method_descriptor")) (hm : MtR X id r) (ho : PE X o to) (ha : PA X (e :: es) t)
    (hbase : attributeBase o name X.env (eval o X.env) = eval o X.env := by rfl)
    (hfew : ((backTo cpos (starEach (e :: es) X.env)).all (fun x => !x.1) && (backToKw cpos (keywordEach [] X.env)).all (fun x => x.1.isSome) && decide ((e :: es).length + ([] : List Keyword).length + (if ([] : List Keyword).isEmpty then 0 else 1) < 30)) = true := by rfl)
    (hline : (apos.endLine == cpos.line) = true := by rfl) (hs : starEach (e :: es) X.env = (false, eval e X.env) :: starEach es X.env := by rfl) (hpl : (backTo cpos (starEach es X.env)).any (·.1) = false := by rfl) :
    PE X (.Call (.Attribute o name apos) (e :: es) [] cpos) (tBMT r to t) := by
  intro pins s σ H Q I h
  refine wpAny_Call_method_late hbase hfew hline rfl (thn (ho pins s σ H _ I h) fun v s1 ⟨x, H1, I1, r1, ⟨a, ys, ex, ea⟩, q1⟩ => ?_)
  subst ex
  cases r1
  obtain ⟨_, its, _, ⟨ob, g, c, _⟩, dn⟩ := (show ObjOk X.prog X.w H1 s1.heap a (.tup ys) from I1.hok a _ ea)
  refine ⟨"tuple", id, PySem.F.plainAttrs_tuple, slot, hty, ⟨ob, g, c⟩, fun b z => ?_, ?_⟩
  · cases z
    exact ⟨ob, g, dn ob g⟩
  have hA := ha cpos pins s1 σ H1 _ I1 q1
  rw [hs] at hA ⊢
  refine Calls.callWith_builtin (by show (false || (backTo cpos (starEach es X.env)).any (·.1)) = false; rw [hpl] <;> rfl) (Calls.evalArgs_plain ?_)
  exact thn hA fun us s2 ⟨vs, H2, I2, r2, q2⟩ => hm pins s2 σ H2 (.ref a) vs (.ref a) us Q I2 (show RelV (.ref a) (.ref a) from rfl) r2 q2
theorem mt_indexT : MtR X "tuple.index" (fun x vs H Q => ∃ a ys y j, x = .ref a ∧ vs = [y] ∧ H a = some (.tup ys) ∧ flatV y = true ∧ ys.all flatV = true ∧ (∃ z, ys[j]? = some z ∧ eqV z y = true) ∧ (∀ m z, m < j → ys[m]? = some z → eqV z y = false) ∧ Q (.int (j : Nat)) H) := by
  intro pins s σ H x vs v us Q I rx rv h
  obtain ⟨a, ys, y, j, rfl, rfl, ha, fy, fa, hj, hn, q⟩ := h
  cases rx
  obtain ⟨u, rfl, ru⟩ := rv.one
  obtain ⟨_, its, r, p, _⟩ := (show ObjOk X.prog X.w H s.heap a (.tup ys) from I.hok a _ ha)
  have len := r.length
  obtain ⟨z, hz, ez⟩ := hj
  have jl : j < its.toArray.size := by
    rw [List.size_toArray, ← len]
    exact (List.getElem?_eq_some_iff.mp hz).1
  have at_ : ∀ m (hm : m < its.toArray.size), ∃ w', ys[m]? = some w' ∧ RelV w' its.toArray[m] ∧ flatV w' = true := fun m hm => by
    have hm' : m < its.length := by simpa using hm
    have hy : m < ys.length := by omega
    have g := List.getElem?_eq_getElem hy
    obtain ⟨u', hu, ru'⟩ := Vals.get r g
    have e1 : its.toArray[m] = u' := by
      rw [List.getElem?_eq_getElem hm'] at hu
      simpa using hu
    exact ⟨ys[m], g, by rw [e1]; exact ru', List.all_eq_true.mp fa _ (List.getElem_mem hy)⟩
  refine wpAny_call_entry PySem.F.slot_tuple_index (by obtain ⟨ob, g, c, _⟩ := p; exact ⟨ob, g, c⟩) PySem.F.entry_tuple_index (tup_index (e := fun m => match ys[m]? with | some w' => eqV w' y | none => false) (j := j) p jl (by rw [hz]; exact ez) (fun m hm => ?_) (fun m hm => ?_) fun k s' e => ?_) (PySem.F.args_tuple_index_2 _ _)
  · cases c : ys[m]? with
    | none => rfl
    | some w' => exact hn m w' hm c
  · obtain ⟨w', g, rr, ff⟩ := at_ m hm
    rw [g]
    exact eqAt_V rr ru ff fy
  · subst e
    exact ⟨.int (j : Nat), H, I.tok _, ⟨k, rfl⟩, q⟩
end
end L2
set_option Elab.async false
set_option linter.all false
set_option maxRecDepth 100000
set_option maxHeartbeats 1000000
namespace L2
open PySem PyProof PyProof.Rows
section
variable {X : Cx}
theorem op_eqTT (hu : X.A.units < cLine) : OpR X (compareOp .Eq) (fun x y H Q => ∃ p q xs ys, x = .ref p ∧ y = .ref q ∧ SqT X.K H p xs ∧ SqT X.K H q ys ∧ (∀ (j : Nat) (x y : V), xs[j]? = some x → ys[j]? = some y → okP x y) ∧ Q (.bl (eqPs xs ys)) H) := by
  intro pins s σ H x y v u Q I rx ry h
  obtain ⟨p, q, xs, ys, rfl, rfl, hp, hq, ok, hQ⟩ := h
  cases rx
  cases ry
  obtain ⟨us, r, pl, hz⟩ := I.tuple hp
  obtain ⟨ws, r', pl', hz'⟩ := I.tuple hq
  have l1 := r.length
  have l2 := r'.length
  refine SeqAt.RcAt.tuples (e := ans xs ys) pl pl' hu (fun j h1 h2 => ?_) _ _ _ _ ⟨.bl _, H, I, rfl, ?_⟩
  · have j1 : j < xs.length := by simp at h1; omega
    have j2 : j < ys.length := by simp at h2; omega
    have e1 : xs[j]? = some xs[j] := List.getElem?_eq_getElem j1
    have e2 : ys[j]? = some ys[j] := List.getElem?_eq_getElem j2
    obtain ⟨u, eu, ru⟩ := r.get e1
    obtain ⟨w, ew, rw'⟩ := r'.get e2
    have a1 : us.toArray[j] = u := by
      have : us[j]? = some u := eu
      simp at h1
      simpa [h1] using this
    have a2 : ws.toArray[j] = w := by
      have : ws[j]? = some w := ew
      simp at h2
      simpa [h2] using this
    rw [a1, a2, show ans xs ys j = eqP xs[j] ys[j] by unfold ans; rw [e1, e2]]
    exact eqAt_P ru rw' (ok j _ _ e1 e2)
  · by_cases hl : xs.length = ys.length
    · unfold eqPs at hQ
      rw [decide_eq_true hl, Bool.true_and, ← zip_ans xs ys hl] at hQ
      rw [List.size_toArray, List.size_toArray, ← l1, ← l2, ← hl, Nat.min_self, beq_self_eq_true, Bool.and_true]
      exact hQ
    · unfold eqPs at hQ
      rw [decide_eq_false hl, Bool.false_and] at hQ
      rw [List.size_toArray, List.size_toArray, ← l1, ← l2, beq_eq_false_iff_ne.mpr hl, Bool.and_false]
      exact hQ
end
end L2
set_option Elab.async false
set_option linter.all false
set_option maxRecDepth 100000
set_option maxHeartbeats 1000000
namespace L2
open PySem PyProof PyProof.Rows
section
variable {X : Cx}
end
end L2
set_option Elab.async false
set_option linter.all false
set_option maxRecDepth 100000
set_option maxHeartbeats 400000
namespace L2
open PySem
section
variable {prog : Program} {w : World} {A : Around} {E : Value → Shared → Prop} {s : Shared} {z TI TO i1 i2 l1 l2 : Addr} {n1 n2 i : Nat} {P1 P2 : Nat → Value → Prop} {St1 St2 : Nat → Heap → Prop}
end
end L2
set_option Elab.async false
set_option linter.all false
set_option maxRecDepth 100000
set_option maxHeartbeats 400000
namespace L2
open PySem
section
variable {prog : Program} {w : World} {A : Around} {E : Value → Shared → Prop} {s : Shared} {z TI TO i1 i2 l1 l2 : Addr} {n1 n2 i : Nat} {P1 P2 : Nat → Value → Prop} {St1 St2 : Nat → Heap → Prop}
end
end L2
set_option Elab.async false
set_option linter.all false
set_option maxRecDepth 100000
set_option maxHeartbeats 400000
namespace L2
open PySem
section
variable {prog : Program} {w : World} {A : Around} {E : Value → Shared → Prop} {s : Shared} {z TI TO i1 i2 l1 l2 : Addr} {n1 n2 i : Nat} {P1 P2 : Nat → Value → Prop} {St1 St2 : Nat → Heap → Prop}
end
end L2
set_option Elab.async false
set_option linter.all false
set_option maxRecDepth 100000
set_option maxHeartbeats 1000000
namespace L2
open PySem
section
variable {prog : Program} {w : World} {A : Around} {E : Value → Shared → Prop} {s : Shared} {z TI TO : Addr} {f0 f1 : Value}
end
end L2
set_option Elab.async false
set_option linter.all false
set_option maxRecDepth 100000
set_option maxHeartbeats 1000000
namespace L2
open PySem
section
variable {s : Shared} {E : Value → Shared → Prop} {A : Around} {prog : Program} {w : World}
variable {z TI TO i1 i2 l1 l2 : Addr} {n1 n2 i : Nat} {P1 P2 : Nat → Value → Prop} {St1 St2 : Nat → Heap → Prop}
end
end L2
set_option Elab.async false
set_option linter.all false
set_option maxRecDepth 100000
set_option maxHeartbeats 1000000
namespace L2
open PySem PyProof PyProof.Rows
section
variable {prog : Program} {w : World} {A : Around} {KK : Type} [DecidableEq KK] {knd : KeyKind prog w KK} {R : Result → Shared → Prop}
variable {z TI TO i1 i2 l1 l2 : Addr} {n : Nat} {P1 P2 : Nat → Value → Prop} {St1 St2 : Nat → Heap → Prop}
end
section
variable {prog : Program} {w : World} {A : Around} {E : Value → Shared → Prop} {s : Shared} {KK : Type} [DecidableEq KK] {knd : KeyKind prog w KK}
end
section
variable {X : Cx} {a b : Expr} {t : TA} {p p' pos pos' : Pos} {tp : Bool}
end
end L2
set_option Elab.async false
set_option linter.all false
set_option maxRecDepth 100000
set_option maxHeartbeats 1000000
namespace L2
open PySem PyProof PyProof.Rows
section
variable {X : Cx}
end
end L2
set_option Elab.async false
set_option linter.all false
set_option maxRecDepth 100000
set_option maxHeartbeats 1000000
namespace L2
open PySem PyProof PyProof.Rows
section
variable {X : Cx}
end
end L2
set_option Elab.async false
set_option linter.all false
set_option maxRecDepth 100000
namespace L2
open PySem PySem.Spec PyProof.Rows
section
variable {s : Shared} {R : Result → Shared → Prop} {A : Around} {prog : Program} {w : World}
end
section
variable {X : Cx} {scope : Scope} {x x' : Str} {Nf : List Str} {js : List Nat} {C : Addr} {s₂ : Shared} {H₂ : Hp} {ex : List Addr} {pins : List (Addr × Obj)} {σ : St}
end
section
variable {X : Cx} {scope : Scope} {x x' : Str} {Nf : List Str} {js : List Nat} {pins : List (Addr × Obj)} {σ : St}
end
section
variable {X : Cx} {scope : Scope} {x x' : Str} {Nf : List Str} {js : List Nat} {wi : TI} {tc : TT} {te : TE} {elt iter : Expr} {ifs : List Expr} {px px' ptg pos : Pos} {ktg : Nat}
end
end L2
set_option Elab.async false
set_option linter.all false
set_option maxRecDepth 100000
set_option maxHeartbeats 1000000
namespace L2
open PySem PyProof PyProof.Rows
def Any1 (K : PySem.W.Frag) (H : Hp) (v : V) (t : Value) : Prop := Thg K H v t ∨ ∃ (a C dx : Addr) (fs : List (Str × V)), v = .ref a ∧ H a = some (.ins C dx fs) ∧ InsC K C ∧ t = .ref C
section
variable {X : Cx}
theorem Any1.kit {pins : List (Addr × Obj)} {σ : St} {H : Hp} {s : Shared} {v : V} {u t : Value} (I : Inv X pins σ H s) (r : RelV v u) (x : Any1 X.K H v t) : u ≠ .builtin "__main__.__loader__#opaque" ∧ ∃ φ, PySem.W.KitX X.K u t φ ∧ φ s.heap := by
  rcases x with x | ⟨a, C, dx, fs, rfl, ea, c, rfl⟩
  · exact x.kit I r
  · cases (show u = Value.ref a from r)
    obtain ⟨mA, O, _⟩ := ins_get I.hok ea
    obtain ⟨od, J, _⟩ := O.look
    exact ⟨(fun z => nomatch z), _, PySem.W.kitx_own (c.cl.get _) c.cl.hd c.ha c.hn c.tk c.hm, J⟩
theorem call_instA : CallR X (.builtin "isinstance") (fun xs H Q => ∃ v c t b, xs = [v, c] ∧ Any1 X.K H v t ∧
  ((∃ T, c = .ty T ∧ PySem.W.kitOne X.K t (.type T) = some b) ∨ (∃ C, c = .ref C ∧ PySem.W.kitOne X.K t (.ref C) = some b) ∨
    ∃ tp cs, c = .ref tp ∧ H tp = some (.tup cs) ∧ (∀ c ∈ cs, (∃ n, c = .ty n) ∨ ∃ a, c = .ref a) ∧ PySem.W.kitAny X.K t (cs.map vOf) = some b) ∧ Q (.bl b) H) := by
  intro pins s σ H xs us Q I r h
  obtain ⟨v, c, t, b, rfl, x, hc, q⟩ := h
  obtain ⟨u, u', rfl, ru, ru'⟩ := vals2 r
  obtain ⟨hx, φ, Z, p⟩ := x.kit I ru
  have fin : ∀ tk, EP X pins σ Q (.bool b) { s with toks := tk } := fun tk => ⟨.bl b, H, I.tok tk, rfl, q⟩
  rcases hc with ⟨T, rfl, e⟩ | ⟨C, rfl, e⟩ | ⟨tp, cs, rfl, ht, hcs, e⟩
  · cases (show u' = Value.type T from ru')
    exact PySem.W.kia_one Z I.kIn p e hx fin
  · cases (show u' = Value.ref C from ru')
    exact PySem.W.kia_one Z I.kIn p e hx fin
  · cases (show u' = Value.ref tp from ru')
    obtain ⟨_, its, rv, ⟨o, h1, h2, n, h3⟩, _⟩ := (show ObjOk X.prog X.w H s.heap tp (.tup cs) from I.hok tp _ ht)
    rcases o with ⟨oc, od, odt, osl⟩
    cases (show oc = _ from h2)
    cases (show odt = _ from h3)
    rw [← vals_vOf rv hcs] at e
    exact PySem.W.kia_tup Z I.kIn p h1 e hx fin
end
end L2
set_option Elab.async false
set_option linter.all false
set_option maxRecDepth 100000
set_option maxHeartbeats 1000000
namespace L2
open PySem PySem.Spec PyProof.Rows
section
variable {X : Cx} {pins : List (Addr × Obj)} {σ : St} {H : Hp} {s : Shared} {h' : Heap}
end
end L2
set_option Elab.async false
set_option linter.all false
set_option maxRecDepth 100000
set_option maxHeartbeats 1000000
namespace L2
open PySem PySem.Spec PyProof.Rows
open PySem.SeqAt
open PySem.AutoSeq1 (wpAny_loadPart')
open PySem.MeetsSeq PySem.MeetsSeq2 PySem.MeetsSeq3
section
variable {s : Shared} {E : Value → Shared → Prop} {A : Around} {prog : Program} {w : World}
theorem whole_tup {t sl : Addr} {items : Array Value} {vl vu : Value} {lo hi : Option Int} {Q : Value → Shared → Prop} (ht : IsTup s.heap t items) (hs : s.heap.IsSliceOf sl vl vu .none) (pl : IsPart vl lo) (pu : IsPart vu hi)
    (hw : HT.sIx items.size 0 lo = 0 ∧ HT.sIx items.size items.size hi = items.size) (h : Q (.ref t) s) : wpAny (model prog w) A (getItem (.ref t) (.ref sl)) Q E s := by
  obtain ⟨os, hos, hcs, hds⟩ := id hs
  have ty : s.TypeIs (.ref sl) "slice" := ⟨os, hos, hcs⟩
  unfold getItem
  try with_reducible refine wpAny_holding ?_
  first | refine wpAny_bind (wpAny_pure ?_) | skip
  refine wpAny_bind (wpAny_sequenceKey ht.typeIs (by decide) (wpAny_bind (wpAny_callSpecial?_slot (name := Str.ofString "__getitem__") ht.typeIs PyProof.Rows.slot_tuple_getitem
    (wpAny_call_entry PyProof.Rows.slot_tuple_getitem ht.typeIs entry_tuple_getitem ?_ (args_tuple_getitem _ _)))))
  show wpAny _ _ (Builtin.Tuple.tupleItemsOf (.ref t) >>= _) _ _ s
  refine wpAny_bind (tupleItemsOf_ ht (wpAny_bind (wpAny_typeOf ty ?_)))
  rw [if_pos (by decide)]
  refine wpAny_bind (HT.sliceApplied_gen hs pl pu ?_)
  rw [hw.1, hw.2]
  show wpAny _ _ (if (((0 : Nat) : Int) == 0 && (1 : Int) == 1 && (items.size - 0) == items.size) = true then _ else _) _ _ s
  rw [if_pos (by simp)]
  refine wpAny_bind (show wpAny _ _ (typeOf (.ref t) >>= fun T => pure (T == .type "tuple")) _ _ s from wpAny_bind (wpAny_typeOf ht.typeIs (wpAny_pure ?_)))
  rw [if_pos (by decide)]
  exact wpAny_bind (wpAny_rule (wpAny_pure ⟨_, rfl, wpAny_pure h⟩))
end
section
variable {X : Cx}
def rSlA (K : PySem.W.Frag) : V → Option Int → Option Int → Hp → VK → Prop := fun x lo hi H Q => ∃ a xs, x = .ref a ∧ H a = some (.tup xs) ∧ ∀ p H', Same H H' → H' p = some (.tup (cutV xs lo hi)) → Q (.ref p) H'
theorem sl_tupA : SlR X (rSlA X.K) := by
  intro pins s σ H x v vl vu lo hi sl Q I rx hs pl pu h
  obtain ⟨a, xs, rfl, hx, q⟩ := h
  by_cases hw : HT.sIx xs.length 0 lo = 0 ∧ HT.sIx xs.length xs.length hi = xs.length
  · cases rx
    obtain ⟨its, r, ht, hz⟩ := I.tuple (SqT.of (K := X.K) hx)
    have hlen : its.toArray.size = xs.length := by rw [List.size_toArray]; exact r.length.symm
    refine ⟨"tuple", _, PyProof.Rows.slot_tuple_getitem.lookup, ht.typeIs, whole_tup ht hs pl pu (by rw [hlen]; exact hw) ⟨.ref a, H, I, rfl, q a H (Same.refl _) ?_⟩⟩
    unfold cutV
    rw [hw.1, hw.2, List.drop_zero, Nat.sub_zero, List.take_length]
    exact hx
  · exact sl_tup pins s σ H (.ref a) v vl vu lo hi sl Q I rx hs pl pu ⟨a, xs, rfl, SqT.of hx, hw, fun p fp => q p _ (Same.upd fp) upd_same⟩
end
end L2
set_option Elab.async false
set_option linter.all false
set_option maxRecDepth 100000
set_option maxHeartbeats 0
namespace K14
open PySem L2
def top (i : Nat) : Stmt := PySem.Challenge.pw_nolocktree_k14_children.main.body.getD i (.Pass ⟨0, 0, 0, 0⟩)
structure Txt (K : PySem.W.Frag) (mg : Str → Option Value) : Prop where
  n_len : mg "len" = none
  n_max : mg "max" = none
  n_min : mg "min" = none
  n_isinstance : mg "isinstance" = none
  n_list : mg "list" = none
  n_tuple : mg "tuple" = none
  n_int : mg "int" = none
  n_bool : mg "bool" = none
  n_enumerate : mg "enumerate" = none
  n_range : mg "range" = none
  n_repr : mg "repr" = none
  n_all : mg "all" = none
  n_set : mg "set" = none
  n_sorted : mg "sorted" = none
  n_dict : mg "dict" = none
  n_zip : mg "zip" = none
  c_lo : ∃ t, mg "LEAST_KEY" = some (.int (-999999999) t)
  c_hi : ∃ t, mg "GREATEST_KEY" = some (.int 999999999 t)
  c_most : ∃ t, mg "MOST_KEYS" = some (.int 6 t)
def OkD (P : Program) (w : World) (K : PySem.W.Frag) (mg : Str → Option Value) (base : Heap) (x : Str) (st : Stmt) (ps : List Str) (k : Nat) (sp : Sp) : Prop :=
  ∃ f fd, Dn K mg x x st ps f fd ∧ FnOk P w K mg base CX0 k f fd ps sp
def Box (H : Hp) (p : Addr) (n : Nat) : Prop := ∃ a b c : Int, H p = some (.lst [.int a, .int b, .int c]) ∧ 0 ≤ a ∧ 0 ≤ b ∧ b < 2147483629 ∧ 0 ≤ c ∧ c ≤ n
theorem Box.lst {H : Hp} {p : Addr} {n : Nat} (x : Box H p n) : ∃ xs, H p = some (.lst xs) := let ⟨_, _, _, h, _⟩ := x; ⟨_, h⟩
theorem Box.mono {H : Hp} {p : Addr} {n m : Nat} (x : Box H p n) (h : n ≤ m) : Box H p m := let ⟨a, b, c, h1, h2, h3, h4, h5, h6⟩ := x; ⟨a, b, c, h1, h2, h3, h4, h5, by omega⟩
theorem Box.upd {H : Hp} {p q : Addr} {n : Nat} {o : HO} (x : Box H p n) (h : H q = none) : Box (upd H q o) p n := by
  obtain ⟨a, b, c, h1, r⟩ := x
  exact ⟨a, b, c, by rw [upd_ne (ne_of_none h1 h)]; exact h1, r⟩
def spTake : Sp := fun vs H Q _ => ∃ (p : Addr) (m : Int) (n : Nat), vs = [.ref p, .int m] ∧ Box H p n ∧ n ≤ 1000000 ∧ 0 < m ∧ m ≤ 1000000000000000000000000000000 ∧
  ∀ (r : Int) (H' : Hp), 0 ≤ r → r < m → Box H' p (n + 1) → KB p H H' → Q (.int r) H'
section
variable {P : Program} {w : World} {K : PySem.W.Frag} {mg : Str → Option Value} {base : Heap}
abbrev s__law_take : Stmt := top 38
theorem sc__law_take : FnScope ["_law_box_here", "_law_many", "_law_digit", "_law_number"] ["_law_box_here", "_law_many"] (defScope s__law_take) := ⟨rfl, rfl, rfl, by decide +kernel, rfl, by decide +kernel, by decide +kernel⟩
theorem log_small {m : Int} (h : 0 < m) (h2 : m ≤ 1000000000000000000000000000000) : m.natAbs.log2 < 9000 := by
  have e : m.natAbs < 2 ^ 110 := by omega
  have := (Nat.log2_lt (by omega)).mpr e
  omega
theorem small_mod {x : Int} : (x % 2147483629).natAbs < 2 ^ 64 := by omega
theorem ok_take (hd : ∃ f fd, Dn K mg "_law_take" "_law_take" s__law_take ["_law_box_here", "_law_many"] f fd) (T : Txt K mg) : OkD P w K mg base "_law_take" s__law_take ["_law_box_here", "_law_many"] 1 spTake := by
  obtain ⟨f, fd, D⟩ := hd
  refine ⟨f, fd, D, D.fn.ok sc__law_take (fun vs H Q E h => ?_) (fun cdv A outer s H vs Q E hr h => ?_)⟩
  · obtain ⟨_, _, _, rfl, _⟩ := h
    rfl
  · obtain ⟨p, m, n, rfl, ⟨a, b, c, hb, ha, hb0, hb1, hc0, hc1⟩, hn, hm, hm2, k⟩ := h
    have sc := sc__law_take
    refine ⟨_, (pss_cons (ps_if (pt_cmpR op_gt (pe_ix ix_list (pv 0) pe_int (fun _ _ => rfl)) pe_int (nomark _))
      (pss_cons (ps_set (i := 2) sc.nd rfl (Or.inl rfl) (pe_op op_mod (pe_ix ix_list (pv 0) pe_int (fun _ _ => rfl)) (pv 1)))
    (pss_cons (ps_asg (pe_op op_fdivL (pe_ix ix_list (pv 0) pe_int (fun _ _ => rfl)) (pv 1)) (pg_sub (pv 0) pe_int set_list))
    (pss_one (ps_ret (pv 2)))))
      pss_nil)
    (pss_cons (ps_asg (pe_op op_add (pe_ix ix_list (pv 0) pe_int (fun _ _ => rfl)) pe_int) (pg_sub (pv 0) pe_int set_list))
    (pss_cons (ps_set (i := 3) sc.nd rfl (Or.inl rfl) (pe_op op_mod (pe_op op_add (pe_op op_pow (pe_op op_add (pe_ix ix_list (pv 0) pe_int (fun _ _ => rfl)) (pe_op op_mul pe_int (pe_ix ix_list (pv 0) pe_int (fun _ _ => rfl)))) pe_int) (pe_op op_mul pe_int (pe_ix ix_list (pv 0) pe_int (fun _ _ => rfl)))) pe_int))
    (pss_one (ps_ret (pe_op op_mod (pe_op op_fdivL (pe_op op_mod (pe_op op_pow (pv 3) pe_int) pe_int) pe_int) (pv 1))))))), ?_⟩
    refine ⟨_, rfl, _, _, _, _, rfl, rfl, SqL.of hb, rfl, _, _, rfl, rfl, _, rfl, ?_⟩
    refine ite2 (fun h0 => ?_) (fun h0 => ?_)
    · refine ⟨_, rfl, _, _, _, _, rfl, rfl, SqL.of hb, rfl, _, rfl, _, _, rfl, rfl, hm, ?_⟩
      refine ⟨_, rfl, _, _, _, _, rfl, rfl, SqL.of hb, rfl, _, rfl, _, _, rfl, rfl, ⟨hm, log_small hm hm2⟩, ?_⟩
      refine ⟨_, rfl, _, _, _, _, rfl, rfl, hb, rfl, _, rfl, ?_⟩
      exact k _ _ (Int.emod_nonneg _ (by omega)) (Int.emod_lt_of_pos _ hm) ⟨a / m, b, c, upd_same, Int.ediv_nonneg ha (by omega), hb0, hb1, hc0, by omega⟩ (KB.refl.updP)
    · refine ⟨_, rfl, _, _, _, _, rfl, rfl, SqL.of hb, rfl, _, _, rfl, rfl, ?_⟩
      refine ⟨_, rfl, _, _, _, _, rfl, rfl, hb, rfl, ?_⟩
      have hb' : upd H p (.lst ([V.int a, V.int b, V.int c].set 2 (V.int (c + 1)))) p = some (.lst [V.int a, V.int b, V.int (c + 1)]) := upd_same
      refine ⟨_, rfl, _, _, _, _, rfl, rfl, SqL.of hb', rfl, _, rfl, _, _, _, _, rfl, rfl, SqL.of hb', rfl, _, _, rfl, rfl, .inl ⟨by decide, by decide⟩, _, _, rfl, rfl, _, _, rfl, rfl, ⟨by decide, by decide, ?_⟩, ?_⟩
      · show (b + 104729 * (c + 1)).natAbs < 2 ^ 64
        omega
      refine ⟨_, rfl, _, _, _, _, rfl, rfl, SqL.of hb', rfl, _, _, rfl, rfl, .inl ⟨by decide, by decide⟩, _, _, rfl, rfl, _, _, rfl, rfl, (by show (0 : Int) < 2147483629; decide), ?_⟩
      refine ⟨_, rfl, _, _, rfl, rfl, ⟨by decide, by decide, small_mod⟩, _, _, rfl, rfl, (by show (0 : Int) < 2147483587; decide), _, _, rfl, rfl, ⟨by decide, by decide +kernel⟩, _, rfl, _, _, rfl, rfl, hm, ?_⟩
      exact k _ _ (Int.emod_nonneg _ (by omega)) (Int.emod_lt_of_pos _ hm) ⟨a, b, c + 1, hb', ha, hb0, hb1, by omega, by omega⟩ (KB.refl.updP)
end
end K14
set_option Elab.async false
set_option linter.all false
set_option maxRecDepth 100000
set_option maxHeartbeats 0
namespace K14
open PySem L2
theorem cp {j : Int} (h0 : 0 ≤ j) (h1 : j ≤ 1000000) : CPow 10 j := ⟨h0, h1, by decide⟩
theorem atI_mem {xs : List V} {r : Int} (h0 : 0 ≤ r) (h1 : r < xs.length) : ∃ v, v ∈ xs ∧ atI xs r = some v := by
  have hj : r.toNat < xs.length := by omega
  refine ⟨xs[r.toNat], List.getElem_mem hj, ?_⟩
  have e : xs[r.toNat]? = some xs[r.toNat] := by simp [hj]
  have := atI_nat e
  rwa [show ((r.toNat : Nat) : Int) = r by omega] at this
theorem atI_ints {ns : List Int} {r : Int} (h0 : 0 ≤ r) (h1 : r < ns.length) : ∃ z, z ∈ ns ∧ atI (ns.map V.int) r = some (.int z) := by
  obtain ⟨v, hv, e⟩ := atI_mem (xs := ns.map V.int) h0 (by simpa using h1)
  obtain ⟨z, hz, rfl⟩ := List.mem_map.mp hv
  exact ⟨z, hz, e⟩
theorem Box.ne {H H1 : Hp} {p q : Addr} {n : Nat} (x : Box H p n) (h : H q = none) : q ≠ p := by
  obtain ⟨xs, e⟩ := x.lst
  exact (ne_of_none e h).symm
section
variable {P : Program} {w : World} {K : PySem.W.Frag} {mg : Str → Option Value} {base : Heap}
abbrev s__law_cell : Stmt := top 36
theorem sc__law_cell : FnScope ["_law_script", "_law_k"] ["_law_script", "_law_k"] (defScope s__law_cell) := ⟨rfl, rfl, rfl, by decide +kernel, rfl, by decide +kernel, by decide +kernel⟩
def spCell (K : PySem.W.Frag) : Sp := fun vs H Q _ => ∃ (a : Addr) (k : Nat) (ns : List Int), vs = [.ref a, .int k] ∧ SqL K H a (ns.map V.int) ∧ ∀ i : Int, Q (.int i) H
theorem ok_cell (hd : ∃ f fd, Dn K mg "_law_cell" "_law_cell" s__law_cell ["_law_script", "_law_k"] f fd) (T : Txt K mg) : OkD P w K mg base "_law_cell" s__law_cell ["_law_script", "_law_k"] 1 (spCell K) := by
  obtain ⟨f, fd, D⟩ := hd
  refine ⟨f, fd, D, D.fn.ok sc__law_cell (fun vs H Q E h => ?_) (fun cdv A outer s H vs Q E hr h => ?_)⟩
  · obtain ⟨_, _, _, rfl, _⟩ := h
    rfl
  · obtain ⟨a, j, ns, rfl, hS, k⟩ := h
    have sc := sc__law_cell
    refine ⟨_, (pss_cons (ps_if (pt_cmpR op_lt (pv 1) (pe_callB call_len_seq rfl T.n_len bt_len (pa_c (pv 0) pa_nil)) (nomark _))
      (pss_one (ps_ret (pe_ix ix_list (pv 0) (pv 1) (fun _ _ => rfl))))
      pss_nil)
    (pss_one (ps_ret (pe_op op_add (pe_op op_mul pe_int (pv 1)) pe_int)))), ?_⟩
    refine ⟨_, rfl, _, rfl, _, _, rfl, .inl hS, _, _, rfl, rfl, _, rfl, ?_⟩
    refine ite2 (fun h0 => ?_) (fun h0 => ?_)
    · have h1 : (j : Int) < ((ns.map V.int).length : Nat) := of_decide_eq_true h0
      obtain ⟨z, _, e⟩ := atI_ints (ns := ns) (r := (j : Int)) (by omega) (by simpa using h1)
      exact ⟨_, rfl, _, rfl, _, _, _, _, rfl, rfl, hS, e, k z⟩
    · exact ⟨_, rfl, _, _, rfl, rfl, .inl ⟨by decide, by decide⟩, _, _, rfl, rfl, k _⟩
abbrev s__law_box : Stmt := top 37
theorem sc__law_box : FnScope ["_law_cell_here"] ["_law_cell_here"] (defScope s__law_box) := ⟨rfl, rfl, rfl, by decide +kernel, rfl, by decide +kernel, by decide +kernel⟩
def spBox : Sp := fun vs H Q _ => ∃ (c : Int), vs = [.int c] ∧ ∀ (p : Addr) (H' : Hp), H p = none → Box H' p 0 → Same H H' → Q (.ref p) H'
theorem ok_box (hd : ∃ f fd, Dn K mg "_law_box" "_law_box" s__law_box ["_law_cell_here"] f fd) (T : Txt K mg) : OkD P w K mg base "_law_box" s__law_box ["_law_cell_here"] 1 spBox := by
  obtain ⟨f, fd, D⟩ := hd
  refine ⟨f, fd, D, D.fn.ok sc__law_box (fun vs H Q E h => ?_) (fun cdv A outer s H vs Q E hr h => ?_)⟩
  · obtain ⟨_, rfl, _⟩ := h
    rfl
  · obtain ⟨c, rfl, k⟩ := h
    have sc := sc__law_box
    refine ⟨_, (pss_one (ps_ret (pe_lst (pa_c (pe_callB (call_max2 rfl) rfl T.n_max bt_max (pa_c pe_int (pa_c (pe_op op_sub (pv 0) (pe_op op_pow pe_int pe_int)) pa_nil))) (pa_c (pe_op op_mod (pv 0) pe_int) (pa_c pe_int pa_nil)))))), ?_⟩
    refine ⟨_, rfl, _, _, rfl, rfl, cp (by decide) (by decide), _, _, rfl, rfl, _, _, rfl, _, rfl, _, _, rfl, rfl, (by show (0 : Int) < 2147483629; decide), (by show 3 ≤ sizeLine; decide), fun p hp => ?_⟩
    refine k p _ hp ⟨_, _, _, upd_same, ?_, Int.emod_nonneg _ (by decide), Int.emod_lt_of_pos _ (by decide), Int.le_refl _, Int.le_refl _⟩ (Same.upd hp)
    generalize c - 10 ^ (18 : Int).toNat = z
    by_cases hz : z > 0
    · rw [if_pos hz]; omega
    · rw [if_neg hz]; omega
end
end K14
set_option Elab.async false
set_option linter.all false
set_option maxRecDepth 100000
set_option maxHeartbeats 1000000
namespace K14
open PySem L2
def isI : V → Bool | .int _ => true | _ => false
def isB : V → Bool | .bl _ => true | _ => false
def isSq (t : Value) : Bool := t == .type "list" || t == .type "tuple"
def whole (v : V) (lo hi : Int) : Bool := match v with | .int i => decide (lo ≤ i) && decide (i ≤ hi) | _ => false
def keyV (v : V) : Bool := whole v (-999999999) 999999999
section
variable {K : PySem.W.Frag} {H : Hp} {v : V} {t : Value}
theorem meta_int : PySem.W.kitMeta "int" = true := by decide +kernel
theorem meta_bool : PySem.W.kitMeta "bool" = true := by decide +kernel
theorem meta_list : PySem.W.kitMeta "list" = true := by decide +kernel
theorem meta_tuple : PySem.W.kitMeta "tuple" = true := by decide +kernel
theorem kit_ref {C : Addr} {n : String} (hm : PySem.W.kitMeta n = true) (h : PySem.W.subIn K (.ref C) (.type n) = some false) : PySem.W.kitOne K (.ref C) (.type n) = some false := by
  unfold PySem.W.kitOne
  rw [if_neg (by intro z; cases (beq_iff_eq.mp z))]
  show (if PySem.W.kitMeta n = true then _ else _) = _
  rw [if_pos hm, h]
theorem inst_int (x : Thg K H v t) : PySem.W.kitOne K t (.type "int") = some (isI v || isB v) := by
  cases x with
  | exc e d x => exact kit_ref meta_int x.ki
  | exn e x => exact kit_ref meta_int x.ki
  | _ => kernel_rfl
theorem inst_bool (x : Thg K H v t) : PySem.W.kitOne K t (.type "bool") = some (isB v) := by
  cases x with
  | exc e d x => exact kit_ref meta_bool x.kb
  | exn e x => exact kit_ref meta_bool x.kb
  | _ => kernel_rfl
theorem inst_seq (x : Thg K H v t) : PySem.W.kitAny K t [.type "list", .type "tuple"] = some (isSq t) := by
  cases x with
  | exc e d x =>
    unfold PySem.W.kitAny
    rw [kit_ref meta_list x.kl]
    unfold PySem.W.kitAny
    rw [kit_ref meta_tuple x.kt]
    rfl
  | exn e x =>
    unfold PySem.W.kitAny
    rw [kit_ref meta_list x.kl]
    unfold PySem.W.kitAny
    rw [kit_ref meta_tuple x.kt]
    rfl
  | _ => kernel_rfl
end
section
variable {P : Program} {w : World} {K : PySem.W.Frag} {mg : Str → Option Value} {base : Heap}
abbrev s_is_number : Stmt := top 13
theorem sc_is_number : FnScope ["thing"] ["thing"] (defScope s_is_number) := ⟨rfl, rfl, rfl, by decide +kernel, rfl, by decide +kernel, by decide +kernel⟩
def spIsN (K : PySem.W.Frag) : Sp := fun vs H Q _ => ∃ (v : V) (t : Value), vs = [v] ∧ Thg K H v t ∧ Q (.bl (isI v)) H
theorem ok_isN (hd : ∃ f fd, Dn K mg "is_number" "is_number" s_is_number ["thing"] f fd) (T : Txt K mg) : OkD P w K mg base "is_number" s_is_number ["thing"] 1 (spIsN K) := by
  obtain ⟨f, fd, D⟩ := hd
  refine ⟨f, fd, D, D.fn.ok sc_is_number (fun vs H Q E h => ?_) (fun cdv A outer s H vs Q E hr h => ?_)⟩
  · obtain ⟨_, _, rfl, _⟩ := h
    rfl
  · obtain ⟨v, t, rfl, x, k⟩ := h
    refine ⟨_, (pss_one (ps_ret (pe_and (pe_callB call_inst rfl T.n_isinstance bt_isinstance (pa_c (pv 0) (pa_c (pe_bltn (v := .ty "int") rfl T.n_int bt_int rfl) pa_nil))) (pe_one (pe_not (pe_callB call_inst rfl T.n_isinstance bt_isinstance (pa_c (pv 0) (pa_c (pe_bltn (v := .ty "bool") rfl T.n_bool bt_bool rfl) pa_nil)))))))), ?_⟩
    refine ⟨_, rfl, v, _, t, _, rfl, x, .inl ⟨"int", rfl, inst_int x⟩, _, rfl, ?_⟩
    cases hv : v with
    | int i =>
      rw [hv] at k x
      exact iteT ⟨_, rfl, _, _, t, _, rfl, x, .inl ⟨"bool", rfl, inst_bool x⟩, _, rfl, k⟩
    | bl b =>
      rw [hv] at k x
      exact iteT ⟨_, rfl, _, _, t, _, rfl, x, .inl ⟨"bool", rfl, inst_bool x⟩, _, rfl, k⟩
    | _ =>
      rw [hv] at k
      exact iteF k
abbrev s_is_whole : Stmt := top 14
theorem sc_is_whole : FnScope ["thing", "low", "high"] ["thing", "low", "high"] (defScope s_is_whole) := ⟨rfl, rfl, rfl, by decide +kernel, rfl, by decide +kernel, by decide +kernel⟩
def spIsW (K : PySem.W.Frag) : Sp := fun vs H Q _ => ∃ (v : V) (t : Value) (lo hi : Int), vs = [v, .int lo, .int hi] ∧ Thg K H v t ∧ Q (.bl (whole v lo hi)) H
theorem ok_isW (hd : ∃ f fd, Dn K mg "is_whole" "is_whole" s_is_whole ["thing", "low", "high"] f fd) (T : Txt K mg) (h1 : OkD P w K mg base "is_number" s_is_number ["thing"] 1 (spIsN K)) :
    OkD P w K mg base "is_whole" s_is_whole ["thing", "low", "high"] 2 (spIsW K) := by
  obtain ⟨f, fd, D⟩ := hd
  obtain ⟨f1, fd1, Dis_number, Gis_number⟩ := h1
  refine ⟨f, fd, D, D.fn.ok sc_is_whole (fun vs H Q E h => ?_) (fun cdv A outer s H vs Q E hr h => ?_)⟩
  · obtain ⟨_, _, _, _, rfl, _⟩ := h
    rfl
  · obtain ⟨v, t, lo, hi, rfl, x, k⟩ := h
    refine ⟨_, (pss_one (ps_ret (pe_and (pe_call Gis_number (hr.mono (by decide)) rfl Dis_number.m Dis_number.fn.kp Dis_number.b .nil pass0 (pa_c (pv 0) pa_nil)) (pe_one (pe_chain op_le op_le (pv 1) (pv 0) (pv 2)))))), ?_⟩
    refine ⟨_, rfl, v, t, rfl, x, _, rfl, ?_⟩
    cases hv : v with
    | int i =>
      rw [hv] at k
      refine iteT ⟨_, rfl, _, rfl, _, _, rfl, rfl, _, rfl, ite2 (fun h1 => ?_) (fun h1 => ?_)⟩
      · refine ⟨_, rfl, _, _, rfl, rfl, ?_⟩
        have h2 : decide (lo ≤ i) = true := h1
        have k' : Q (.bl (decide (lo ≤ i) && decide (i ≤ hi))) H := k
        rw [h2, Bool.true_and] at k'
        exact k'
      · have h2 : decide (lo ≤ i) = false := Bool.eq_false_iff.mpr h1
        have k' : Q (.bl (decide (lo ≤ i) && decide (i ≤ hi))) H := k
        rw [h2, Bool.false_and] at k'
        exact k'
    | _ =>
      rw [hv] at k
      exact iteF k
abbrev s_is_key : Stmt := top 15
theorem sc_is_key : FnScope ["thing"] ["thing"] (defScope s_is_key) := ⟨rfl, rfl, rfl, by decide +kernel, rfl, by decide +kernel, by decide +kernel⟩
def spIsK (K : PySem.W.Frag) : Sp := fun vs H Q _ => ∃ (v : V) (t : Value), vs = [v] ∧ Thg K H v t ∧ Q (.bl (keyV v)) H
theorem ok_isK (hd : ∃ f fd, Dn K mg "is_key" "is_key" s_is_key ["thing"] f fd) (T : Txt K mg) (h1 : OkD P w K mg base "is_whole" s_is_whole ["thing", "low", "high"] 2 (spIsW K)) :
    OkD P w K mg base "is_key" s_is_key ["thing"] 3 (spIsK K) := by
  obtain ⟨f, fd, D⟩ := hd
  obtain ⟨f1, fd1, Dis_whole, Gis_whole⟩ := h1
  obtain ⟨t_LEAST_KEY, c_LEAST_KEY⟩ := T.c_lo
  obtain ⟨t_GREATEST_KEY, c_GREATEST_KEY⟩ := T.c_hi
  refine ⟨f, fd, D, D.fn.ok sc_is_key (fun vs H Q E h => ?_) (fun cdv A outer s H vs Q E hr h => ?_)⟩
  · obtain ⟨_, _, rfl, _⟩ := h
    rfl
  · obtain ⟨v, t, rfl, x, k⟩ := h
    refine ⟨_, (pss_one (ps_ret (pe_call Gis_whole (hr.mono (by decide)) rfl Dis_whole.m Dis_whole.fn.kp Dis_whole.b .nil pass0 (pa_c (pv 0) (pa_c (pe_glob (v := .int (-999999999)) rfl c_LEAST_KEY ⟨t_LEAST_KEY, rfl⟩) (pa_c (pe_glob (v := .int (999999999)) rfl c_GREATEST_KEY ⟨t_GREATEST_KEY, rfl⟩) pa_nil)))))), ?_⟩
    exact ⟨_, rfl, v, t, _, _, rfl, x, k⟩
abbrev s_is_good : Stmt := top 16
theorem sc_is_good : FnScope ["thing"] ["thing"] (defScope s_is_good) := ⟨rfl, rfl, rfl, by decide +kernel, rfl, by decide +kernel, by decide +kernel⟩
theorem ok_isG (hd : ∃ f fd, Dn K mg "is_good" "is_good" s_is_good ["thing"] f fd) (T : Txt K mg) (h1 : OkD P w K mg base "is_whole" s_is_whole ["thing", "low", "high"] 2 (spIsW K)) :
    OkD P w K mg base "is_good" s_is_good ["thing"] 3 (spIsK K) := by
  obtain ⟨f, fd, D⟩ := hd
  obtain ⟨f1, fd1, Dis_whole, Gis_whole⟩ := h1
  obtain ⟨t_LEAST_KEY, c_LEAST_KEY⟩ := T.c_lo
  obtain ⟨t_GREATEST_KEY, c_GREATEST_KEY⟩ := T.c_hi
  refine ⟨f, fd, D, D.fn.ok sc_is_good (fun vs H Q E h => ?_) (fun cdv A outer s H vs Q E hr h => ?_)⟩
  · obtain ⟨_, _, rfl, _⟩ := h
    rfl
  · obtain ⟨v, t, rfl, x, k⟩ := h
    refine ⟨_, (pss_one (ps_ret (pe_call Gis_whole (hr.mono (by decide)) rfl Dis_whole.m Dis_whole.fn.kp Dis_whole.b .nil pass0 (pa_c (pv 0) (pa_c (pe_glob (v := .int (-999999999)) rfl c_LEAST_KEY ⟨t_LEAST_KEY, rfl⟩) (pa_c (pe_glob (v := .int (999999999)) rfl c_GREATEST_KEY ⟨t_GREATEST_KEY, rfl⟩) pa_nil)))))), ?_⟩
    exact ⟨_, rfl, v, t, _, _, rfl, x, k⟩
abbrev s_is_row : Stmt := top 18
theorem sc_is_row : FnScope ["thing"] ["thing"] (defScope s_is_row) := ⟨rfl, rfl, rfl, by decide +kernel, rfl, by decide +kernel, by decide +kernel⟩
def spIsR (K : PySem.W.Frag) : Sp := fun vs H Q _ => ∃ (v : V) (t : Value), vs = [v] ∧ Thg K H v t ∧ ∀ H', Same H H' → Q (.bl (isSq t)) H'
theorem tys2 : ∀ c ∈ ([V.ty "list", V.ty "tuple"] : List V), (∃ n, c = .ty n) ∨ ∃ a, c = .ref a := by
  intro c hc
  simp only [List.mem_cons, List.not_mem_nil, or_false] at hc
  rcases hc with rfl | rfl <;> exact .inl ⟨_, rfl⟩
theorem ok_isR (hd : ∃ f fd, Dn K mg "is_row" "is_row" s_is_row ["thing"] f fd) (T : Txt K mg) : OkD P w K mg base "is_row" s_is_row ["thing"] 1 (spIsR K) := by
  obtain ⟨f, fd, D⟩ := hd
  refine ⟨f, fd, D, D.fn.ok sc_is_row (fun vs H Q E h => ?_) (fun cdv A outer s H vs Q E hr h => ?_)⟩
  · obtain ⟨_, _, rfl, _⟩ := h
    rfl
  · obtain ⟨v, t, rfl, x, k⟩ := h
    refine ⟨_, (pss_one (ps_ret (pe_callB call_inst rfl T.n_isinstance bt_isinstance (pa_c (pv 0) (pa_c (pe_tup (pa_c (pe_bltn (v := .ty "list") rfl T.n_list bt_list rfl) (pa_c (pe_bltn (v := .ty "tuple") rfl T.n_tuple bt_tuple rfl) pa_nil))) pa_nil))))), ?_⟩
    refine ⟨_, rfl, (by show 2 ≤ sizeLine; decide), fun p hp => ?_⟩
    exact ⟨v, _, t, _, rfl, x.keep (Same.upd hp), .inr (.inr ⟨p, _, rfl, upd_same, tys2, inst_seq x⟩), k _ (Same.upd hp)⟩
abbrev s__law_is_number : Stmt := top 43
theorem sc__law_is_number : FnScope ["_law_thing", "_law_low", "_law_high"] ["_law_thing", "_law_low", "_law_high"] (defScope s__law_is_number) := ⟨rfl, rfl, rfl, by decide +kernel, rfl, by decide +kernel, by decide +kernel⟩
theorem ok_lN (hd : ∃ f fd, Dn K mg "_law_is_number" "_law_is_number" s__law_is_number ["_law_thing", "_law_low", "_law_high"] f fd) (T : Txt K mg) : OkD P w K mg base "_law_is_number" s__law_is_number ["_law_thing", "_law_low", "_law_high"] 1 (spIsW K) := by
  obtain ⟨f, fd, D⟩ := hd
  refine ⟨f, fd, D, D.fn.ok sc__law_is_number (fun vs H Q E h => ?_) (fun cdv A outer s H vs Q E hr h => ?_)⟩
  · obtain ⟨_, _, _, _, rfl, _⟩ := h
    rfl
  · obtain ⟨v, t, lo, hi, rfl, x, k⟩ := h
    refine ⟨_, (pss_one (ps_ret (pe_and (pe_callB call_inst rfl T.n_isinstance bt_isinstance (pa_c (pv 0) (pa_c (pe_bltn (v := .ty "int") rfl T.n_int bt_int rfl) pa_nil))) (pe_and (pe_cmpR op_isnotB (pv 0) pe_bl (nomark _)) (pe_and (pe_cmpR op_isnotB (pv 0) pe_bl (nomark _)) (pe_one (pe_chain op_le op_le (pv 1) (pv 0) (pv 2)))))))), ?_⟩
    refine ⟨_, rfl, v, _, t, _, rfl, x, .inl ⟨"int", rfl, inst_int x⟩, _, rfl, ?_⟩
    cases hv : v with
    | int i =>
      rw [hv] at k
      refine iteT ⟨_, rfl, _, rfl, _, rfl, iteT ⟨_, rfl, _, rfl, _, rfl, iteT ⟨_, rfl, _, rfl, _, _, rfl, rfl, _, rfl, ite2 (fun h1 => ?_) (fun h1 => ?_)⟩⟩⟩
      · refine ⟨_, rfl, _, _, rfl, rfl, ?_⟩
        have h2 : decide (lo ≤ i) = true := h1
        have k' : Q (.bl (decide (lo ≤ i) && decide (i ≤ hi))) H := k
        rw [h2, Bool.true_and] at k'
        exact k'
      · have h2 : decide (lo ≤ i) = false := Bool.eq_false_iff.mpr h1
        have k' : Q (.bl (decide (lo ≤ i) && decide (i ≤ hi))) H := k
        rw [h2, Bool.false_and] at k'
        exact k'
    | bl b =>
      rw [hv] at k
      cases b with
      | true => exact iteT ⟨_, rfl, _, rfl, _, rfl, iteF k⟩
      | false => exact iteT ⟨_, rfl, _, rfl, _, rfl, iteT ⟨_, rfl, _, rfl, _, rfl, iteF k⟩⟩
    | _ =>
      rw [hv] at k
      exact iteF k
end
end K14
set_option Elab.async false
set_option linter.all false
set_option maxRecDepth 100000
set_option maxHeartbeats 2000000
namespace K14
open PySem L2
def okAt (xs : List V) (j : Nat) : Prop := ∃ i : Int, xs[j]? = some (.int i) ∧ -999999999 ≤ i ∧ i ≤ 999999999 ∧ (0 < j → ∃ i' : Int, xs[j - 1]? = some (.int i') ∧ i' < i)
def Rises (xs : List V) : Prop := ∀ j, j < xs.length → okAt xs j
open Classical in
noncomputable def rises (xs : List V) : Bool := decide (Rises xs)
open Classical in
theorem rises_t {xs : List V} (h : Rises xs) : rises xs = true := by unfold rises; exact decide_eq_true h
open Classical in
theorem rises_f {xs : List V} (h : ¬ Rises xs) : rises xs = false := by unfold rises; exact decide_eq_false h
theorem keyV_int {v : V} (h : keyV v = true) : ∃ i : Int, v = .int i ∧ -999999999 ≤ i ∧ i ≤ 999999999 := by
  cases v with
  | int i =>
    have h' : (decide (-999999999 ≤ i) && decide (i ≤ 999999999)) = true := h
    rw [Bool.and_eq_true] at h'
    exact ⟨i, rfl, of_decide_eq_true h'.1, of_decide_eq_true h'.2⟩
  | _ => exact absurd (show false = true from h) Bool.false_ne_true
theorem keyV_of {i : Int} (h1 : -999999999 ≤ i) (h2 : i ≤ 999999999) : keyV (.int i) = true := by
  show (decide (-999999999 ≤ i) && decide (i ≤ 999999999)) = true
  rw [decide_eq_true h1, decide_eq_true h2]
  rfl
def Things (K : PySem.W.Frag) (H : Hp) (xs : List V) : Prop := ∀ x ∈ xs, ∃ t, Thg K H x t
def RowAt (tp : Bool) (H : Hp) (a : Addr) (xs : List V) : Prop := H a = some (if tp then .tup xs else .lst xs)
theorem RowAt.sq {K : PySem.W.Frag} {tp : Bool} {H : Hp} {a : Addr} {xs : List V} (h : RowAt tp H a xs) : SqB K tp H a xs := by
  cases tp with
  | true => exact SqT.of h
  | false => exact SqL.of h
def spRise (K : PySem.W.Frag) : Sp := fun vs H Q _ => ∃ (v : V) (t : Value) (tp : Bool) (a : Addr) (xs : List V), vs = [v] ∧ Thg K H v t ∧ (isSq t = true → v = .ref a ∧ RowAt tp H a xs ∧ Things K H xs ∧ xs.length ≤ 2000) ∧
  ∀ H', Same H H' → Q (.bl (isSq t && rises xs)) H'
theorem rise_cases {K : PySem.W.Frag} {vs : List V} {H : Hp} {Q : VK} {E : XK} (h : spRise K vs H Q E) : ∃ (v : V) (t : Value) (tp : Bool), vs = [v] ∧ Thg K H v t ∧
    ((isSq t = false ∧ ∀ H', Same H H' → Q (.bl false) H') ∨ ∃ (a : Addr) (xs : List V), v = .ref a ∧ RowAt tp H a xs ∧ Things K H xs ∧ xs.length ≤ 2000 ∧ isSq t = true ∧ ∀ H', Same H H' → Q (.bl (rises xs)) H') := by
  obtain ⟨v, t, tp, a, xs, e, x, hr, k⟩ := h
  refine ⟨v, t, tp, e, x, ?_⟩
  cases hs : isSq t with
  | false => exact .inl ⟨rfl, fun H' S => by have := k H' S; rw [hs, Bool.false_and] at this; exact this⟩
  | true =>
    obtain ⟨e1, h1, h2, h3⟩ := hr hs
    exact .inr ⟨a, xs, e1, h1, h2, h3, rfl, fun H' S => by have := k H' S; rw [hs, Bool.true_and] at this; exact this⟩
section
variable {P : Program} {w : World} {K : PySem.W.Frag} {mg : Str → Option Value} {base : Heap}
abbrev s_is_rising : Stmt := top 19
theorem sc_is_rising : FnScope ["thing", "at", "key"] ["thing"] (defScope s_is_rising) := ⟨rfl, rfl, rfl, by decide +kernel, rfl, by decide +kernel, by decide +kernel⟩
theorem ok_rise (hd : ∃ f fd, Dn K mg "is_rising" "is_rising" s_is_rising ["thing"] f fd) (T : Txt K mg) (h1 : OkD P w K mg base "is_row" s_is_row ["thing"] 1 (spIsR K)) (h2 : OkD P w K mg base "is_key" s_is_key ["thing"] 3 (spIsK K)) :
    OkD P w K mg base "is_rising" s_is_rising ["thing"] 4 (spRise K) := by
  obtain ⟨f, fd, D⟩ := hd
  obtain ⟨f1, fd1, Dis_row, Gis_row⟩ := h1
  obtain ⟨f2, fd2, Dis_key, Gis_key⟩ := h2
  refine ⟨f, fd, D, D.fn.ok sc_is_rising (fun vs H Q E h => ?_) (fun cdv A outer s H vs Q E hr h => ?_)⟩
  · obtain ⟨_, _, _, _, _, rfl, _⟩ := h
    rfl
  · obtain ⟨v, t, tp, rfl, x, h⟩ := rise_cases h
    have sc := sc_is_rising
    refine ⟨_, (pss_cons (ps_if (pt_not (pt_val (pe_call Gis_row (hr.mono (by decide)) rfl Dis_row.m Dis_row.fn.kp Dis_row.b .nil pass0 (pa_c (pv 0) pa_nil))))
      (pss_one (ps_ret pe_bl))
      pss_nil)
    (pss_cons (ps_for PassesOwn.never rfl (pi_enum tp rfl T.n_enumerate bt_enumerate (pa_c (pv 0) pa_nil)) (pg_tup rfl (pgs_cons (pg_name (i := 1) sc.nd rfl (Or.inl rfl)) (pgs_cons (pg_name (i := 2) sc.nd rfl (Or.inl rfl)) pgs_nil)))
      (pss_cons (ps_if (pt_not (pt_val (pe_call Gis_key (hr.mono (by decide)) rfl Dis_key.m Dis_key.fn.kp Dis_key.b .nil pass0 (pa_c (pv 2) pa_nil))))
      (pss_one (ps_ret pe_bl))
      pss_nil)
    (pss_one (ps_if (PW.pt (pw_and (pt_cmpR op_gt (pv 1) pe_int (nomark _)) (pw_and1 (pt_cmpR op_le (pv 2) (pe_ix ix_seq (pv 0) (pe_op op_sub (pv 1) pe_int) (fun _ _ => rfl)) (nomark _)))))
      (pss_one (ps_ret pe_bl))
      pss_nil))))
    (pss_one (ps_ret pe_bl)))), ?_⟩
    refine ⟨_, rfl, v, t, rfl, x, fun H1 S1 => ⟨_, rfl, ?_⟩⟩
    rcases h with ⟨ht, k⟩ | ⟨a, xs, rfl, hR, hT, hz, ht, k⟩
    · rw [ht]
      exact iteT (k H1 S1)
    · rw [ht]
      refine iteF ?_
      have hR1 : ∀ {H2 : Hp}, Same H H2 → RowAt tp H2 a xs := fun S => S _ _ hR
      refine ⟨_, rfl, a, rfl, ⟨xs, (hR1 S1).sq⟩, for_enum (fun i σ H2 => Same H H2 ∧ (∃ o1 o2, σ = [some (.ref a), o1, o2]) ∧ ∀ j, j < i → okAt xs j) ⟨S1, ⟨none, none, rfl⟩, fun j hj => absurd hj (Nat.not_lt_zero _)⟩ (fun i σ H2 _ ⟨S2, _⟩ => (hR1 S2).sq) ?_ ?_⟩
      · rintro i y t0 σ H2 hi ⟨S2, ⟨o1, o2, rfl⟩, ok⟩ ht0
        have S3 : Same H (upd H2 t0 (.tup [.int i, y])) := S2.trans (Same.upd ht0)
        have hil : i < xs.length := (List.getElem?_eq_some_iff.mp hi).1
        obtain ⟨ty, hy⟩ := hT y (List.mem_of_getElem? hi)
        refine ⟨_, _, rfl, SqT.of upd_same, rfl, _, _, rfl, _, _, rfl, rfl, ?_⟩
        refine ⟨_, rfl, y, ty, rfl, hy.keep S3, _, rfl, ?_⟩
        cases hk : keyV y with
        | false =>
          refine iteT ?_
          have e : rises xs = false := rises_f fun hr => by
            obtain ⟨z, hz1, hz2, hz3, _⟩ := hr i hil
            rw [hi] at hz1
            cases hz1
            rw [keyV_of hz2 hz3] at hk
            cases hk
          have := k _ S3
          rw [e] at this
          exact this
        | true =>
          obtain ⟨z, rfl, hz1, hz2⟩ := keyV_int hk
          refine iteF ?_
          refine ⟨_, rfl, _, _, rfl, rfl, _, rfl, ite2 (fun hp => ?_) (fun hp => ?_)⟩
          · have hp' : (0 : Int) < (i : Int) := of_decide_eq_true hp
            have hi0 : 0 < i := by omega
            obtain ⟨z', q1, q2, q3, _⟩ := ok (i - 1) (by omega)
            have eix : atI xs ((i : Int) - 1) = some (.int z') := by
              have := atI_nat q1
              rwa [show ((i - 1 : Nat) : Int) = (i : Int) - 1 by omega] at this
            have ix : rIx K (.ref a) (.int ((i : Int) - 1)) (upd H2 t0 (.tup [.int i, .int z])) = fun Q' => rIx K (.ref a) (.int ((i : Int) - 1)) (upd H2 t0 (.tup [.int i, .int z])) Q' := rfl
            have ixk : ∀ Q' : VK, Q' (.int z') (upd H2 t0 (.tup [.int i, .int z])) → rIx K (.ref a) (.int ((i : Int) - 1)) (upd H2 t0 (.tup [.int i, .int z])) Q' := fun Q' q => by
              cases tp with
              | true => exact .inr (.inl ⟨_, _, _, _, rfl, rfl, SqT.of (hR1 S3), eix, q⟩)
              | false => exact .inl ⟨_, _, _, _, rfl, rfl, SqL.of (hR1 S3), eix, q⟩
            refine ⟨_, rfl, _, rfl, _, rfl, _, _, rfl, rfl, ixk _ ⟨_, _, rfl, rfl, _, rfl, ite2 (fun hc => ?_) (fun hc => ?_)⟩⟩
            · have hc' : z ≤ z' := of_decide_eq_true hc
              have e : rises xs = false := rises_f fun hr => by
                obtain ⟨u, hu1, _, _, hu4⟩ := hr i hil
                rw [hi] at hu1
                cases hu1
                obtain ⟨u', hu5, hu6⟩ := hu4 hi0
                rw [q1] at hu5
                cases hu5
                omega
              have := k _ S3
              rw [e] at this
              exact this
            · have hc' : ¬ z ≤ z' := fun q => hc (decide_eq_true q)
              refine ⟨S3, ⟨_, _, rfl⟩, fun j hj => ?_⟩
              by_cases hji : j < i
              · exact ok j hji
              · have ej : j = i := by omega
                subst ej
                exact ⟨z, hi, hz1, hz2, fun _ => ⟨z', q1, by omega⟩⟩
          · have hp' : ¬ (0 : Int) < (i : Int) := fun q => hp (decide_eq_true q)
            have hi0 : i = 0 := by omega
            refine iteF ?_
            refine ⟨S3, ⟨_, _, rfl⟩, fun j hj => ?_⟩
            have ej : j = i := by omega
            subst ej
            exact ⟨z, hi, hz1, hz2, fun q => by omega⟩
      · rintro σ H2 ⟨S2, ⟨o1, o2, rfl⟩, ok⟩
        have e : rises xs = true := rises_t ok
        have := k H2 S2
        rw [e] at this
        exact this
end
end K14
set_option Elab.async false
set_option linter.all false
set_option maxRecDepth 100000
set_option maxHeartbeats 2000000
namespace K14
open PySem L2
def rowD : PyData → Option (List PyData)
  | .list ds => some ds
  | .tuple ds => some ds
  | _ => none
def keyD : PyData → Bool
  | .int i => decide (-999999999 ≤ i) && decide (i ≤ 999999999)
  | _ => false
def placeD : PyData → Bool
  | .int i => decide (0 ≤ i)
  | _ => false
def okAtD (ds : List PyData) (j : Nat) : Prop := ∃ i : Int, ds[j]? = some (.int i) ∧ -999999999 ≤ i ∧ i ≤ 999999999 ∧ (0 < j → ∃ i' : Int, ds[j - 1]? = some (.int i') ∧ i' < i)
def RisesD (ds : List PyData) : Prop := ∀ j, j < ds.length → okAtD ds j
def PageKeys (d : PyData) : Prop := ∃ ds, rowD d = some ds ∧ RisesD ds ∧ ds.length ≤ 6
def PageGoods (d : PyData) (n : Int) : Prop := ∃ ds, rowD d = some ds ∧ (ds.length : Int) = n ∧ ∀ x ∈ ds, keyD x = true
def PagePlaces (d : PyData) (n : Int) : Prop := ∃ ns : List Int, rowD d = some (ns.map PyData.int) ∧ (ns.length : Int) = n ∧ (∀ i ∈ ns, 0 ≤ i) ∧ ns.Nodup
open Classical in
noncomputable def yes (p : Prop) : Bool := decide p
open Classical in
theorem yes_t {p : Prop} (h : p) : yes p = true := by unfold yes; exact decide_eq_true h
open Classical in
theorem yes_f {p : Prop} (h : ¬ p) : yes p = false := by unfold yes; exact decide_eq_false h
section
variable {N : Addr → Prop} {H : Hp} {v : V} {d : PyData}
theorem dv_row (x : DV N H v d) : (∃ (tp : Bool) (a : Addr) (xs : List V) (ds : List PyData), v = .ref a ∧ RowAt tp H a xs ∧ DVs N H xs ds ∧ rowD d = some ds ∧ isSq (tyD d) = true ∧ ¬ N a) ∨ (isSq (tyD d) = false ∧ rowD d = none) := by
  cases x with
  | lst na e r => exact .inl ⟨false, _, _, _, rfl, e, r, rfl, rfl, na⟩
  | tup na e r => exact .inl ⟨true, _, _, _, rfl, e, r, rfl, rfl, na⟩
  | _ => exact .inr ⟨rfl, rfl⟩
theorem keyV_D (x : DV N H v d) : keyV v = keyD d := by cases x <;> rfl
theorem int_D (x : DV N H v d) {i : Int} : v = .int i ↔ d = .int i := by
  cases x with
  | int j => exact ⟨fun h => by cases h; rfl, fun h => by cases h; rfl⟩
  | _ => exact ⟨(fun h => nomatch h), fun h => nomatch h⟩
theorem DVs.at_ {N : Addr → Prop} {H : Hp} : ∀ {xs : List V} {ds : List PyData} (j : Nat), DVs N H xs ds → (xs[j]? = none ∧ ds[j]? = none) ∨ ∃ x d, xs[j]? = some x ∧ ds[j]? = some d ∧ DV N H x d
  | _, _, _, .nil => .inl ⟨rfl, rfl⟩
  | _, _, 0, .cons r t => .inr ⟨_, _, rfl, rfl, r⟩
  | _, _, j + 1, .cons r t => by
    rcases DVs.at_ j t with ⟨a, b⟩ | ⟨x, d, a, b, c⟩
    · exact .inl ⟨by simpa using a, by simpa using b⟩
    · exact .inr ⟨x, d, by simpa using a, by simpa using b, c⟩
theorem at_int {xs : List V} {ds : List PyData} (x : DVs N H xs ds) {j : Nat} {i : Int} : xs[j]? = some (.int i) ↔ ds[j]? = some (.int i) := by
  rcases DVs.at_ j x with ⟨a, b⟩ | ⟨y, e, a, b, c⟩
  · rw [a, b]; exact ⟨(fun h => nomatch h), fun h => nomatch h⟩
  · rw [a, b, Option.some.injEq, Option.some.injEq]
    exact int_D c
theorem rises_D {xs : List V} {ds : List PyData} (x : DVs N H xs ds) : Rises xs ↔ RisesD ds := by
  have l := x.length
  constructor
  · intro h j hj
    obtain ⟨i, a, b, c, e⟩ := h j (by omega)
    exact ⟨i, (at_int x).mp a, b, c, fun z => let ⟨i', q, r⟩ := e z; ⟨i', (at_int x).mp q, r⟩⟩
  · intro h j hj
    obtain ⟨i, a, b, c, e⟩ := h j (by omega)
    exact ⟨i, (at_int x).mpr a, b, c, fun z => let ⟨i', q, r⟩ := e z; ⟨i', (at_int x).mpr q, r⟩⟩
end
section
variable {P : Program} {w : World} {K : PySem.W.Frag} {mg : Str → Option Value} {base : Heap}
def Short (d : PyData) : Prop := ∀ ds, rowD d = some ds → ds.length ≤ 100
abbrev s_are_page_keys : Stmt := top 26
theorem sc_are_page_keys : FnScope ["thing"] ["thing"] (defScope s_are_page_keys) := ⟨rfl, rfl, rfl, by decide +kernel, rfl, by decide +kernel, by decide +kernel⟩
def spAPK : Sp := fun vs H Q _ => ∃ (N : Addr → Prop) (v : V) (d : PyData), vs = [v] ∧ DV N H v d ∧ Short d ∧ ∀ H', Same H H' → Q (.bl (yes (PageKeys d))) H'
theorem ok_APK (hd : ∃ f fd, Dn K mg "are_page_keys" "are_page_keys" s_are_page_keys ["thing"] f fd) (T : Txt K mg) (h1 : OkD P w K mg base "is_rising" s_is_rising ["thing"] 4 (spRise K)) :
    OkD P w K mg base "are_page_keys" s_are_page_keys ["thing"] 5 spAPK := by
  obtain ⟨f, fd, D⟩ := hd
  obtain ⟨f1, fd1, Dis_rising, Gis_rising⟩ := h1
  obtain ⟨t_MOST_KEYS, c_MOST_KEYS⟩ := T.c_most
  refine ⟨f, fd, D, D.fn.ok sc_are_page_keys (fun vs H Q E h => ?_) (fun cdv A outer s H vs Q E hr h => ?_)⟩
  · obtain ⟨_, _, _, rfl, _⟩ := h
    rfl
  · obtain ⟨N, v, d, rfl, x, hz, k⟩ := h
    refine ⟨_, (pss_one (ps_ret (pe_and (pe_call Gis_rising (hr.mono (by decide)) rfl Dis_rising.m Dis_rising.fn.kp Dis_rising.b .nil pass0 (pa_c (pv 0) pa_nil)) (pe_one (pe_cmpR op_le (pe_callB call_len_seq rfl T.n_len bt_len (pa_c (pv 0) pa_nil)) (pe_glob (v := .int (6)) rfl c_MOST_KEYS ⟨t_MOST_KEYS, rfl⟩) (nomark _)))))), ?_⟩
    rcases dv_row x with ⟨tp, a, xs, ds, rfl, ra, rx, rd, sq, na⟩ | ⟨sq, rd⟩
    · have l := rx.length
      have hz' := hz ds rd
      refine ⟨_, rfl, .ref a, _, tp, a, xs, rfl, x.thg, (fun _ => ⟨rfl, ra, rx.things, by omega⟩), fun H1 S1 => ⟨_, rfl, ?_⟩⟩
      rw [sq, Bool.true_and]
      by_cases hr1 : Rises xs
      · rw [rises_t hr1]
        have ra1 : RowAt tp H1 a xs := S1 _ _ ra
        refine iteT ⟨_, rfl, a, xs, rfl, (by cases tp; exact .inl (SqL.of ra1); exact .inr (SqT.of ra1)), _, _, rfl, rfl, ?_⟩
        have e : decide ((xs.length : Int) ≤ 6) = yes (PageKeys d) := by
          by_cases c : xs.length ≤ 6
          · rw [decide_eq_true (by omega), yes_t ⟨ds, rd, (rises_D rx).mp hr1, by omega⟩]
          · rw [decide_eq_false (by omega), yes_f]
            rintro ⟨ds', a', _, c'⟩
            rw [rd] at a'
            cases a'
            omega
        show Q (.bl (decide ((xs.length : Int) ≤ 6))) H1
        rw [e]
        exact k H1 S1
      · rw [rises_f hr1]
        refine iteF ?_
        have := k H1 S1
        rw [yes_f (by
          rintro ⟨ds', a', b', _⟩
          rw [rd] at a'
          cases a'
          exact hr1 ((rises_D rx).mpr b'))] at this
        exact this
    · refine ⟨_, rfl, v, _, true, 0, [], rfl, x.thg, (fun h => by rw [sq] at h; cases h), fun H1 S1 => ⟨_, rfl, ?_⟩⟩
      rw [sq, Bool.false_and]
      refine iteF ?_
      have := k H1 S1
      rw [yes_f (by rintro ⟨ds', a', _⟩; rw [rd] at a'; cases a')] at this
      exact this
abbrev s_is_place : Stmt := top 17
theorem sc_is_place : FnScope ["thing"] ["thing"] (defScope s_is_place) := ⟨rfl, rfl, rfl, by decide +kernel, rfl, by decide +kernel, by decide +kernel⟩
def placeV : V → Bool | .int i => decide (0 ≤ i) | _ => false
theorem placeV_D {N : Addr → Prop} {H : Hp} {v : V} {d : PyData} (x : DV N H v d) : placeV v = placeD d := by cases x <;> rfl
def spIsP (K : PySem.W.Frag) : Sp := fun vs H Q _ => ∃ (v : V) (t : Value), vs = [v] ∧ Thg K H v t ∧ Q (.bl (placeV v)) H
theorem ok_isP (hd : ∃ f fd, Dn K mg "is_place" "is_place" s_is_place ["thing"] f fd) (T : Txt K mg) (h1 : OkD P w K mg base "is_number" s_is_number ["thing"] 1 (spIsN K)) :
    OkD P w K mg base "is_place" s_is_place ["thing"] 2 (spIsP K) := by
  obtain ⟨f, fd, D⟩ := hd
  obtain ⟨f1, fd1, Dis_number, Gis_number⟩ := h1
  refine ⟨f, fd, D, D.fn.ok sc_is_place (fun vs H Q E h => ?_) (fun cdv A outer s H vs Q E hr h => ?_)⟩
  · obtain ⟨_, _, rfl, _⟩ := h
    rfl
  · obtain ⟨v, t, rfl, x, k⟩ := h
    refine ⟨_, (pss_one (ps_ret (pe_and (pe_call Gis_number (hr.mono (by decide)) rfl Dis_number.m Dis_number.fn.kp Dis_number.b .nil pass0 (pa_c (pv 0) pa_nil)) (pe_one (pe_cmpR op_ge (pv 0) pe_int (nomark _)))))), ?_⟩
    refine ⟨_, rfl, v, t, rfl, x, _, rfl, ?_⟩
    cases hv : v with
    | int i =>
      rw [hv] at k
      exact iteT ⟨_, rfl, _, _, rfl, rfl, k⟩
    | _ =>
      rw [hv] at k
      exact iteF k
end
end K14
set_option Elab.async false
set_option linter.all false
set_option maxRecDepth 100000
set_option maxHeartbeats 2000000
namespace K14
open PySem L2
theorem itb_go {K : PySem.W.Frag} {tp : Bool} {H : Hp} {a : Addr} {xs : List V} {i : Nat} {x : V} (h : RowAt tp H a xs) (e : xs[i]? = some x) : (ItB K tp a).go i H := by
  cases tp with
  | true => exact ⟨xs, x, SqT.of h, e⟩
  | false => exact ⟨xs, x, SqL.of h, e⟩
theorem itb_yld {K : PySem.W.Frag} {tp : Bool} {H H' : Hp} {a : Addr} {xs : List V} {i : Nat} {v : V} (h : RowAt tp H a xs) (y : (ItB K tp a).yld i H v H') : H' = H ∧ xs[i]? = some v := by
  cases tp with
  | true => exact ⟨y.1, y.2 xs (SqT.of h)⟩
  | false => exact ⟨y.1, y.2 xs (SqL.of h)⟩
theorem itb_stop {K : PySem.W.Frag} {tp : Bool} {H : Hp} {a : Addr} {xs : List V} {i : Nat} (h : RowAt tp H a xs) (e : xs.length ≤ i) : (ItB K tp a).stop i H := by
  cases tp with
  | true => exact ⟨xs, SqT.of h, e⟩
  | false => exact ⟨xs, SqL.of h, e⟩
theorem row_len {K : PySem.W.Frag} {tp : Bool} {H : Hp} {a : Addr} {xs : List V} (h : RowAt tp H a xs) : SqL K H a xs ∨ SqT K H a xs := by
  cases tp with
  | true => exact .inr (SqT.of h)
  | false => exact .inl (SqL.of h)
theorem sameD {H1 H2 : Hp} {D : Addr} {o : HO} (s : Same H1 H2) (d : H1 D = none) : Same H1 (upd H2 D o) := fun b u q => by rw [upd_ne (ne_of_none q d)]; exact s b u q
theorem iteE {b c : Bool} {A B : Prop} (e : b = c) (h : if c = true then A else B) : if b = true then A else B := by subst e; exact h
theorem big1000 : (2001 : Nat) ≤ sizeLine := by decide
theorem comp_pure {J : It} {js : List Nat} {tc : TT} {te : TE} {σ : St} {H1 : Hp} {Q : VK} (xs : List V) (p : V → Bool) (g : V → V)
    (hJ : ∀ i H2, Same H1 H2 → (i < xs.length → J.go i H2) ∧ (∀ v H3, J.yld i H2 v H3 → i < xs.length → H3 = H2 ∧ xs[i]? = some v) ∧ (xs.length ≤ i → J.stop i H2))
    (hc : ∀ x ∈ xs, ∀ H2 (R : Bool → Hp → Prop), Same H1 H2 → (∀ H3, Same H2 H3 → R (p x) H3) → tc (blkSt js σ (some x)) H2 R)
    (he : ∀ x ∈ xs, p x = true → ∀ H2 (R : VK), Same H1 H2 → (∀ H3, Same H2 H3 → R (g x) H3) → te (blkSt js σ (some x)) H2 R)
    (hz : xs.length ≤ 2000) (q : ∀ d H2, H1 d = none → Same H1 H2 → H2 d = some (.lst ((xs.filter p).map g)) → Q (.ref d) H2) (D : Addr) (hD : H1 D = none) :
    ∃ W : Nat → Nat → Hp → Prop, (∃ m, W 0 m (upd H1 D (.lst []))) ∧ ∀ i m H2, W i m H2 →
      (J.stop i H2 ∧ Q (.ref D) H2) ∨ (J.go i H2 ∧ ∀ v H3, J.yld i H2 v H3 → tc (blkSt js σ (some v)) H3 fun b H4 =>
        if b = true then te (blkSt js σ (some v)) H4 fun y H5 => ∃ ys, H5 D = some (.lst ys) ∧ ys.length < sizeLine ∧ ∃ m', m' < m ∧ W (i + 1) m' (upd H5 D (.lst (ys ++ [y])))
        else ∃ m', m' < m ∧ W (i + 1) m' H4) := by
  refine ⟨fun i m H2 => i + m = xs.length ∧ Same H1 H2 ∧ H2 D = some (.lst (((xs.take i).filter p).map g)), ⟨xs.length, by omega, sameD (Same.refl _) hD, by simp [upd_same]⟩, ?_⟩
  rintro i m H2 ⟨hm, S2, e2⟩
  by_cases hi : i < xs.length
  · obtain ⟨j1, j2, j3⟩ := hJ i H2 S2
    refine .inr ⟨j1 hi, fun v H3 yl => ?_⟩
    obtain ⟨rfl, ev⟩ := j2 v H3 yl hi
    have hv : v ∈ xs := List.mem_of_getElem? ev
    have tk : xs.take (i + 1) = xs.take i ++ [v] := by
      rw [List.take_add_one, ev]
      rfl
    have len : (((xs.take i).filter p).map g).length ≤ 2000 := by
      rw [List.length_map]
      exact Nat.le_trans (List.length_filter_le _ _) (by rw [List.length_take]; omega)
    refine hc v hv H3 _ S2 fun H4 S4 => ?_
    cases hp : p v with
    | false => exact iteF ⟨m - 1, by omega, by omega, S2.trans S4, by rw [tk, List.filter_append]; simp [hp, S4 _ _ e2]⟩
    | true =>
      refine iteT (he v hv hp H4 _ (S2.trans S4) fun H5 S5 => ⟨_, S5 _ _ (S4 _ _ e2), by have := big1000; omega, m - 1, by omega, by omega, sameD ((S2.trans S4).trans S5) hD, ?_⟩)
      rw [upd_same, tk, List.filter_append]
      simp [hp]
  · refine .inl ⟨(hJ i H2 S2).2.2 (by omega), q D H2 hD S2 ?_⟩
    rw [e2, List.take_of_length_le (by omega)]
theorem tcb1 {r : List V → Hp → VK → Prop} {ta : TE} {σ : St} {H : Hp} {Q : VK} (h : ta σ H fun x H1 => r [x] H1 Q) : tCB r (tCons ta tNil) σ H Q := h
theorem tand1 {ta tb : TE} {σ : St} {H : Hp} {Q : VK} (h : ta σ H fun x H1 => ∃ c, x = .bl c ∧ if c = true then tb σ H1 Q else Q (.bl false) H1) : tAndV ta tb σ H Q := h
theorem tret1 {te : TE} {D : Ends} {σ : St} {H : Hp} (h : te σ H D.rt) : tRet te D σ H := h
theorem top1 {r : R2} {ta tb : TE} {σ : St} {H : Hp} {Q : VK} (h : ta σ H fun x H1 => tb σ H1 fun y H2 => r x y H2 Q) : tOp r ta tb σ H Q := h
theorem tasg1 {te : TE} {g : TG} {D : Ends} {σ : St} {H : Hp} (h : te σ H fun x H1 => g x σ H1 D.nx) : tAsg te g D σ H := h
theorem comp_f {J : It} {js : List Nat} {wi : TI} {tc : TT} {te : TE} {σ : St} {H H1 : Hp} {Q : VK} (xs : List V) (p : V → Bool) (g : V → V) (hw : ∀ R : It → Hp → Prop, R J H1 → wi σ H R)
    (hJ : ∀ i H2, Same H1 H2 → (i < xs.length → J.go i H2) ∧ (∀ v H3, J.yld i H2 v H3 → i < xs.length → H3 = H2 ∧ xs[i]? = some v) ∧ (xs.length ≤ i → J.stop i H2))
    (hc : ∀ x ∈ xs, ∀ H2 (R : Bool → Hp → Prop), Same H1 H2 → (∀ H3, Same H2 H3 → R (p x) H3) → tc (blkSt js σ (some x)) H2 R)
    (he : ∀ x ∈ xs, p x = true → ∀ H2 (R : VK), Same H1 H2 → (∀ H3, Same H2 H3 → R (g x) H3) → te (blkSt js σ (some x)) H2 R)
    (hz : xs.length ≤ 2000) (q : ∀ d H2, H1 d = none → Same H1 H2 → H2 d = some (.lst ((xs.filter p).map g)) → Q (.ref d) H2) : tComp js wi tc te σ H Q :=
  hw _ fun D hD => comp_pure xs p g hJ hc he hz q D hD
theorem it_row {K : PySem.W.Frag} {tp : Bool} {H1 : Hp} {a : Addr} {xs : List V} (h : RowAt tp H1 a xs) : ∀ i H2, Same H1 H2 →
    (i < xs.length → (ItB K tp a).go i H2) ∧ (∀ v H3, (ItB K tp a).yld i H2 v H3 → i < xs.length → H3 = H2 ∧ xs[i]? = some v) ∧ (xs.length ≤ i → (ItB K tp a).stop i H2) := fun i H2 S => by
  have h2 : RowAt tp H2 a xs := S _ _ h
  refine ⟨fun hi => ?_, fun v H3 y _ => itb_yld h2 y, fun hi => itb_stop h2 hi⟩
  exact itb_go h2 (x := xs[i]) (by simp [hi])
theorem it_rng {lo : Int} {n : Nat} {H1 : Hp} : ∀ i H2, Same H1 H2 → (i < (upTo lo n).length → (Itr lo n).go i H2) ∧ (∀ v H3, (Itr lo n).yld i H2 v H3 → i < (upTo lo n).length → H3 = H2 ∧ (upTo lo n)[i]? = some v) ∧ ((upTo lo n).length ≤ i → (Itr lo n).stop i H2) := fun i H2 S => by
  have l : (upTo lo n).length = n := by simp [L2.upTo]
  rw [l]
  refine ⟨fun hi => hi, fun v H3 y hi => ?_, fun hi => hi⟩
  obtain ⟨rfl, rfl⟩ := y
  exact ⟨rfl, by simp [L2.upTo, hi]⟩
theorem wi_row {K : PySem.W.Frag} {tp : Bool} {i : Nat} {σ : St} {H : Hp} {a : Addr} {xs : List V} (e : σ[i]? = some (some (.ref a))) (h : RowAt tp H a xs) (R : It → Hp → Prop) (r : R (ItB K tp a) H) : iSeq K tp (tVar i) σ H R := ⟨_, e, a, rfl, ⟨xs, h.sq⟩, r⟩
theorem filt_all {xs : List V} : xs.filter (fun _ => true) = xs := List.filter_eq_self.mpr fun _ _ => rfl
theorem all_D {N : Addr → Prop} {H : Hp} {xs : List V} {ds : List PyData} {f : V → Bool} {g : PyData → Bool} (rx : DVs N H xs ds) (h : ∀ {v : V} {d : PyData}, DV N H v d → f v = g d) : (xs.map f).all id = true ↔ ∀ y ∈ ds, g y = true := by
  rw [List.all_eq_true]
  constructor
  · intro q y hy
    obtain ⟨j, hj, ej⟩ := List.getElem_of_mem hy
    rcases DVs.at_ j rx with ⟨_, b⟩ | ⟨y', e', b1, b2, b3⟩
    · simp at b; omega
    · have : e' = y := by simp [hj] at b2; rw [← b2, ej]
      subst this
      rw [← h b3]
      exact q _ (List.mem_map.mpr ⟨y', List.mem_of_getElem? b1, rfl⟩)
  · intro q b hb
    obtain ⟨y, hy, rfl⟩ := List.mem_map.mp hb
    obtain ⟨e', he', r⟩ := DVs.mem rx y hy
    show f y = true
    rw [h r]
    exact q _ he'
theorem ints_D {N : Addr → Prop} {H : Hp} : ∀ {xs : List V} {ds : List PyData}, DVs N H xs ds → (∀ y ∈ ds, placeD y = true) → ∃ ns : List Int, xs = ns.map V.int ∧ ds = ns.map PyData.int ∧ ∀ i ∈ ns, 0 ≤ i
  | _, _, .nil, _ => ⟨[], rfl, rfl, fun _ h => absurd h (by simp)⟩
  | _, _, .cons (d := d) r t, h => by
    obtain ⟨ns, e1, e2, e3⟩ := ints_D t fun y hy => h y (List.mem_cons_of_mem _ hy)
    have hd := h d (List.mem_cons_self ..)
    cases r with
    | int i => exact ⟨i :: ns, by rw [e1]; rfl, by rw [e2]; rfl, fun j hj => by rcases List.mem_cons.mp hj with rfl | hj; exact of_decide_eq_true hd; exact e3 j hj⟩
    | _ => exact absurd (show false = true from hd) Bool.false_ne_true
theorem once_len : ∀ (ns : List Int) (k : Nat), k ≤ ns.length → (onceOf ns k).length ≤ k ∧ ((onceOf ns k).length = k ↔ (ns.take k).Nodup) ∧ ∀ z, (onceOf ns k).any (· == z) = true ↔ z ∈ ns.take k
  | ns, 0, _ => by
    refine ⟨Nat.le_refl _, ?_, ?_⟩
    · simp [onceOf, PyProof.Rows.firstMet]
    · simp [onceOf, PyProof.Rows.firstMet]
  | ns, k + 1, h => by
    obtain ⟨h1, h2, h3⟩ := once_len ns k (by omega)
    have tk : ns.take (k + 1) = ns.take k ++ [ns[k]] := by rw [List.take_add_one]; simp [show k < ns.length by omega]
    have gd : ns.getD k 0 = ns[k] := by simp [List.getD, show k < ns.length by omega]
    have st : onceOf ns (k + 1) = PyProof.Rows.step_dedup (onceOf ns k) (ns[k]) := by
      show PyProof.Rows.firstMet _ _ = _
      rw [PyProof.Rows.firstMet_succ, gd]
    have sl := PyProof.Rows.step_length (onceOf ns k) ns[k]
    have sa := PyProof.Rows.step_any (onceOf ns k) ns[k]
    rw [st, sl, tk]
    have mem : ∀ z, (PyProof.Rows.step_dedup (onceOf ns k) ns[k]).any (· == z) = true ↔ z ∈ ns.take k ++ [ns[k]] := fun z => by
      rw [sa z, Bool.or_eq_true, h3 z, List.mem_append, List.mem_singleton, decide_eq_true_eq]
    by_cases c : (onceOf ns k).any (· == ns[k]) = true
    · rw [if_pos c]
      refine ⟨by omega, ⟨fun z => by omega, fun z => ?_⟩, mem⟩
      rw [List.nodup_append] at z
      exact absurd rfl (z.2.2 _ ((h3 _).mp c) _ (by simp))
    · rw [if_neg c]
      refine ⟨by omega, ⟨fun z => ?_, fun z => ?_⟩, mem⟩
      · rw [List.nodup_append]
        exact ⟨h2.mp (by omega), by simp, fun u hu v hv e => c ((h3 _).mpr (by rw [← List.mem_singleton.mp hv, ← e]; exact hu))⟩
      · rw [List.nodup_append] at z
        have := h2.mpr z.1
        omega
section
variable {P : Program} {w : World} {K : PySem.W.Frag} {mg : Str → Option Value} {base : Heap}
abbrev s_are_goods : Stmt := top 27
theorem sc_are_goods : FnScope ["thing", "many"] ["thing", "many"] (defScope s_are_goods) := ⟨rfl, rfl, rfl, by decide +kernel, rfl, by decide +kernel, by decide +kernel⟩
def spAG (p : PyData → Int → Prop) : Sp := fun vs H Q _ => ∃ (N : Addr → Prop) (v : V) (d : PyData) (n : Int), vs = [v, .int n] ∧ DV N H v d ∧ Short d ∧ ∀ H', Same H H' → Q (.bl (yes (p d n))) H'
theorem ok_AG (hd : ∃ f fd, Dn K mg "are_goods" "are_goods" s_are_goods ["thing", "many"] f fd) (T : Txt K mg) (h1 : OkD P w K mg base "is_row" s_is_row ["thing"] 1 (spIsR K)) (h2 : OkD P w K mg base "is_good" s_is_good ["thing"] 3 (spIsK K)) :
    OkD P w K mg base "are_goods" s_are_goods ["thing", "many"] 6 (spAG PageGoods) := by
  obtain ⟨f, fd, D⟩ := hd
  obtain ⟨f1, fd1, Dis_row, Gis_row⟩ := h1
  obtain ⟨f2, fd2, Dis_good, Gis_good⟩ := h2
  refine ⟨f, fd, D, D.fn.ok sc_are_goods (fun vs H Q E h => ?_) (fun cdv A outer s H vs Q E hr h => ?_)⟩
  · obtain ⟨_, _, _, _, rfl, _⟩ := h
    rfl
  · obtain ⟨N, v, d, n, rfl, x, hz, k⟩ := h
    have cut : ∃ tp : Bool, (∃ (a : Addr) (xs : List V) (ds : List PyData), v = .ref a ∧ RowAt tp H a xs ∧ DVs N H xs ds ∧ rowD d = some ds ∧ isSq (tyD d) = true ∧ ¬ N a) ∨ (isSq (tyD d) = false ∧ rowD d = none) := by
      rcases dv_row x with ⟨tp, r⟩ | r
      · exact ⟨tp, .inl r⟩
      · exact ⟨true, .inr r⟩
    obtain ⟨tp, cut⟩ := cut
    refine ⟨_, (pss_one (ps_ret (pe_and (pe_call Gis_row (hr.mono (by decide)) rfl Dis_row.m Dis_row.fn.kp Dis_row.b .nil pass0 (pa_c (pv 0) pa_nil)) (pe_and (pe_cmpR op_eq (pe_callB call_len_seq rfl T.n_len bt_len (pa_c (pv 0) pa_nil)) (pv 1) (nomark _)) (pe_one (pe_callB (call_allB hr.hd) rfl T.n_all bt_all (pa_c (pe_comp (blk_mk [] []) rfl (pi_seq tp (pv 0)) (fun _ _ _ _ _ => PTs.nil) (fun _ _ _ _ _ => (pe_call Gis_good (hr.mono (by decide)) rfl Dis_good.m Dis_good.fn.kp Dis_good.b .nil pass0 (pa_c (pv 0) pa_nil)))) pa_nil))))))), ?_⟩
    refine ⟨_, rfl, v, _, rfl, x.thg, fun H1 S1 => ⟨_, rfl, ?_⟩⟩
    rcases cut with ⟨a, xs, ds, rfl, ra, rx, rd, sq, na⟩ | ⟨sq, rd⟩
    · have l := rx.length
      have hz' := hz ds rd
      have ra1 : RowAt tp H1 a xs := S1 _ _ ra
      rw [sq]
      refine iteT ⟨_, rfl, a, xs, rfl, row_len ra1, _, rfl, rfl, _, rfl, ite2 (fun hn => ?_) (fun hn => ?_)⟩
      · have hn' : (V.int (xs.length : Int)) = .int n := of_decide_eq_true hn
        have en : (xs.length : Int) = n := by cases hn'; rfl
        refine tcb1 (comp_f xs (fun _ => true) (fun y => .bl (keyV y)) (wi_row rfl ra1) (it_row ra1) ?_ ?_ (by omega) ?_)
        · exact fun _ _ H2 R _ r => r H2 (Same.refl _)
        · intro y hy _ H2 R S2 r
          obtain ⟨t, ht⟩ := rx.things (K := K) y hy
          exact ⟨_, rfl, y, t, rfl, ht.keep (S1.trans S2), r H2 (Same.refl _)⟩
        · intro dd H2 f2 S2 e2
          refine ⟨dd, xs.map keyV, rfl, by rw [e2, filt_all, List.map_map]; rfl, ?_⟩
          have e : (xs.map keyV).all id = yes (PageGoods d n) := by
            have al : (xs.map keyV).all id = true ↔ ∀ y ∈ ds, keyD y = true := all_D rx fun r => keyV_D r
            by_cases c : ∀ y ∈ ds, keyD y = true
            · rw [al.mpr c, yes_t ⟨ds, rd, by omega, c⟩]
            · rw [Bool.eq_false_iff.mpr fun z => c (al.mp z), yes_f]
              rintro ⟨ds', a', _, c'⟩
              rw [rd] at a'
              cases a'
              exact c c'
          rw [e]
          exact k H2 (S1.trans S2)
      · have := k H1 S1
        rw [yes_f (by
          rintro ⟨ds', a', b', _⟩
          rw [rd] at a'
          cases a'
          apply hn
          rw [← b', ← l]
          exact decide_eq_true rfl)] at this
        exact this
    · rw [sq]
      refine iteF ?_
      have := k H1 S1
      rw [yes_f (by rintro ⟨ds', a', _⟩; rw [rd] at a'; cases a')] at this
      exact this
abbrev s_are_places : Stmt := top 28
theorem sc_are_places : FnScope ["thing", "many"] ["thing", "many"] (defScope s_are_places) := ⟨rfl, rfl, rfl, by decide +kernel, rfl, by decide +kernel, by decide +kernel⟩
theorem ok_AP (hd : ∃ f fd, Dn K mg "are_places" "are_places" s_are_places ["thing", "many"] f fd) (T : Txt K mg) (h1 : OkD P w K mg base "is_row" s_is_row ["thing"] 1 (spIsR K)) (h2 : OkD P w K mg base "is_place" s_is_place ["thing"] 2 (spIsP K)) :
    OkD P w K mg base "are_places" s_are_places ["thing", "many"] 6 (spAG PagePlaces) := by
  obtain ⟨f, fd, D⟩ := hd
  obtain ⟨f1, fd1, Dis_row, Gis_row⟩ := h1
  obtain ⟨f2, fd2, Dis_place, Gis_place⟩ := h2
  refine ⟨f, fd, D, D.fn.ok sc_are_places (fun vs H Q E h => ?_) (fun cdv A outer s H vs Q E hr h => ?_)⟩
  · obtain ⟨_, _, _, _, rfl, _⟩ := h
    rfl
  · obtain ⟨N, v, d, n, rfl, x, hz, k⟩ := h
    have cut : ∃ tp : Bool, (∃ (a : Addr) (xs : List V) (ds : List PyData), v = .ref a ∧ RowAt tp H a xs ∧ DVs N H xs ds ∧ rowD d = some ds ∧ isSq (tyD d) = true ∧ ¬ N a) ∨ (isSq (tyD d) = false ∧ rowD d = none) := by
      rcases dv_row x with ⟨tp, r⟩ | r
      · exact ⟨tp, .inl r⟩
      · exact ⟨true, .inr r⟩
    obtain ⟨tp, cut⟩ := cut
    refine ⟨_, (pss_cons (ps_if (PW.pt (pw_or (pt_not (pt_val (pe_call Gis_row (hr.mono (by decide)) rfl Dis_row.m Dis_row.fn.kp Dis_row.b .nil pass0 (pa_c (pv 0) pa_nil)))) (pw_or1 (pt_cmpR op_ne (pe_callB call_len_seq rfl T.n_len bt_len (pa_c (pv 0) pa_nil)) (pv 1) (nomark _)))))
      (pss_one (ps_ret pe_bl))
      pss_nil)
    (pss_one (ps_ret (pe_and (pe_callB (call_allB hr.hd) rfl T.n_all bt_all (pa_c (pe_comp (blk_mk [] []) rfl (pi_seq tp (pv 0)) (fun _ _ _ _ _ => PTs.nil) (fun _ _ _ _ _ => (pe_call Gis_place (hr.mono (by decide)) rfl Dis_place.m Dis_place.fn.kp Dis_place.b .nil pass0 (pa_c (pv 0) pa_nil)))) pa_nil)) (pe_one (pe_cmpR op_eq (pe_callB call_lenS rfl T.n_len bt_len (pa_c (pe_callTy (call_setI hr.hd) rfl T.n_set bt_set (pa_c (pv 0) pa_nil)) pa_nil)) (pv 1) (nomark _))))))), ?_⟩
    refine ⟨_, rfl, v, _, rfl, x.thg, fun H1 S1 => ⟨_, rfl, ?_⟩⟩
    rcases cut with ⟨a, xs, ds, rfl, ra, rx, rd, sq, na⟩ | ⟨sq, rd⟩
    · have l := rx.length
      have hz' := hz ds rd
      have ra1 : RowAt tp H1 a xs := S1 _ _ ra
      have no : ¬ PagePlaces d n → ∀ H', Same H H' → Q (.bl false) H' := fun c H' S => by
        have := k H' S
        rw [yes_f c] at this
        exact this
      rw [sq]
      refine iteF ⟨_, rfl, a, xs, rfl, row_len ra1, _, rfl, rfl, _, rfl, ite2 (fun hn => ?_) (fun hn => ?_)⟩
      · refine no ?_ H1 S1
        rintro ⟨ns, a', b', _⟩
        rw [rd] at a'
        cases a'
        rw [List.length_map] at l
        have e : decide (V.int (xs.length : Int) = V.int n) = true := by rw [decide_eq_true_eq, l, b']
        have hn2 : (!decide (V.int (xs.length : Int) = V.int n)) = true := hn
        rw [e] at hn2
        cases hn2
      · have en : (xs.length : Int) = n := by
          have hn2 : ¬ (!decide (V.int (xs.length : Int) = V.int n)) = true := hn
          cases c : decide (V.int (xs.length : Int) = V.int n) with
          | true => have := of_decide_eq_true c; cases this; rfl
          | false => rw [c] at hn2; exact absurd rfl hn2
        dsimp only [tNext]
        refine tret1 (tand1 (tcb1 (comp_f xs (fun _ => true) (fun y => .bl (placeV y)) (wi_row rfl ra1) (it_row ra1) ?_ ?_ (by omega) ?_)))
        · exact fun _ _ H2 R _ r => r H2 (Same.refl _)
        · intro y hy _ H2 R S2 r
          obtain ⟨t, ht⟩ := rx.things (K := K) y hy
          exact ⟨_, rfl, y, t, rfl, ht.keep (S1.trans S2), r H2 (Same.refl _)⟩
        · intro dd H2 f2 S2 e2
          have ra2 : RowAt tp H2 a xs := S2 _ _ ra1
          refine ⟨dd, xs.map placeV, rfl, by rw [e2, filt_all, List.map_map]; rfl, _, rfl, ?_⟩
          have al : (xs.map placeV).all id = true ↔ ∀ y ∈ ds, placeD y = true := all_D rx fun r => placeV_D r
          by_cases c : ∀ y ∈ ds, placeD y = true
          · rw [al.mpr c]
            obtain ⟨ns, e1, e3, e4⟩ := ints_D rx c
            have ln : ns.length = xs.length := by rw [e1, List.length_map]
            have two : H2 a = some (.lst (ns.map V.int)) ∨ H2 a = some (.tup (ns.map V.int)) := by
              rw [← e1]
              cases tp with
              | true => exact .inr ra2
              | false => exact .inl ra2
            obtain ⟨o1, o2, _⟩ := once_len ns ns.length (Nat.le_refl _)
            rw [List.take_length] at o2
            refine iteT ⟨_, rfl, a, ns, rfl, two, by omega, fun l hl => ⟨l, _, _, rfl, upd_same, by omega, _, rfl, rfl, ?_⟩⟩
            have e : decide (V.int ((onceOf ns ns.length).length : Int) = V.int n) = yes (PagePlaces d n) := by
              by_cases nd : ns.Nodup
              · rw [yes_t ⟨ns, by rw [rd, e3], by omega, e4, nd⟩, decide_eq_true_eq]
                have := o2.mpr nd
                rw [this, ← en, ln]
              · rw [yes_f, decide_eq_false_iff_not]
                · intro z
                  have z2 : ((onceOf ns ns.length).length : Int) = n := by cases z; rfl
                  exact nd (o2.mp (by omega))
                · rintro ⟨ms, a', _, _, c'⟩
                  rw [rd, e3, Option.some.injEq] at a'
                  have : ns = ms := List.map_inj_right (fun _ _ z => PyData.int.inj z) |>.mp a'
                  exact nd (this ▸ c')
            show Q (.bl (decide (V.int ((onceOf ns ns.length).length : Int) = V.int n))) _
            rw [e]
            exact k _ ((S1.trans S2).trans (Same.upd hl))
          · rw [Bool.eq_false_iff.mpr fun z => c (al.mp z)]
            refine iteF (no ?_ H2 (S1.trans S2))
            rintro ⟨ns, a', _, c', _⟩
            rw [rd, Option.some.injEq] at a'
            refine c fun y hy => ?_
            rw [a'] at hy
            obtain ⟨i, hi, rfl⟩ := List.mem_map.mp hy
            exact decide_eq_true (c' i hi)
    · rw [sq]
      refine iteT ?_
      have := k H1 S1
      rw [yes_f (by rintro ⟨ns, a', _⟩; rw [rd] at a'; cases a')] at this
      exact this
end
end K14
set_option Elab.async false
set_option linter.all false
set_option maxRecDepth 100000
set_option maxHeartbeats 2000000
namespace K14
open PySem L2
theorem Fun_okX {P : Program} {w : World} {K : PySem.W.Frag} {mg : Str → Option Value} {base : Heap} {x qual : Str} {st : Stmt} {f : Addr} {fd : FuncData} {N ps : List Str} {k : Nat} {sp : Sp} (F : Fun K x qual st f fd) (S : FnScope N ps (defScope st)) (len : ∀ vs H Q E, sp vs H Q E → vs.length = ps.length)
    (hbody : ∀ (cdv : Value) (A : Around) (outer : List Env) (s : Shared) (H : Hp) (vs : List V) (Q : VK) (E : XK), Room k (A.deeper (PyProof.Rows.envOfC qual (defScope st) s.heap.objs.size f cdv)) → sp vs H Q E →
      ∃ t, PSs (cxOf (CXo P w) P w K mg base N qual (defScope st) f cdv A outer s H E) (defBody st) t ∧ t { nx := fun _ H' => Q .non H', rt := Q } (start N vs) H) : FnOk P w K mg base (CXo P w) (k + 1) f fd ps sp := by
  obtain ⟨oc, od, kV, doc, pm, an, cdv, ct, osl, rfl, lk, hcd⟩ := F.ex
  exact fn_of lk hcd S len fun A outer s H vs Q E hr hsp => hbody cdv A outer s H vs Q E hr hsp
structure ErN (K : PySem.W.Frag) (mg : Str → Option Value) (nm q : Str) (st : Stmt) (fld : Str) (C T fI : Addr) (fd : FuncData) : Prop where
  f : ExF K C T fI
  g : ExG K C
  b : BaseInit K T
  r : ExR K C
  fn : Fun K "__init__" q st fI fd
  bi : Binds K fd ["self", fld] []
  mC : mg nm = some (.ref C)
  mT : mg "TreeError" = some (.ref T)
  no : NoAttr K C fld
  xC : ExM K C
  self : PySem.W.mroIn K C (.ref C) = some true
def spErr (C : Addr) (fld : Str) : Sp := fun vs H Q _ => ∃ (e : Addr) (v : V), vs = [.ref e, v] ∧ H e = some (ExO C e none none none) ∧
  ∀ (dx t : Addr) (H' : Hp), H dx = none → H t = none → dx ≠ e → t ≠ e → dx ≠ t → H' e = some (ExO C e (some dx) (some t) none) → H' dx = some (XdO dx [(fld, v)]) → (∀ b, b ≠ e → b ≠ dx → b ≠ t → H' b = H b) → Q .non H'
section
variable {P : Program} {w : World} {K : PySem.W.Frag} {mg : Str → Option Value} {base : Heap}
theorem sc_NoKey : FnScope ["self", "found"] ["self", "found"] (defScope (inClass (top 3) 0)) := ⟨rfl, rfl, rfl, by decide +kernel, rfl, by decide +kernel, by decide +kernel⟩
theorem ok_NoKey {C TT fI : Addr} {fd : FuncData} (x : ErN K mg "NoKey" "NoKey.__init__" (inClass (top 3) 0) "found" C TT fI fd) : FnOk P w K mg base CX0 1 fI fd ["self", "found"] (spErr C "found") := by
  refine x.fn.ok sc_NoKey (fun vs H Q E h => ?_) (fun cdv A outer s H vs Q E hr h => ?_)
  · obtain ⟨_, _, rfl, _⟩ := h
    rfl
  · obtain ⟨e, v, rfl, he, k⟩ := h
    refine ⟨_, (pss_cons (ps_expr (pe_baseInit x.f x.b rfl x.mT (pa_cons (pv 0) (pa_cons pe_str pa_nil)))) (pss_one (ps_exf x.f (pv 0) (pv 1) rfl))), ?_⟩
    refine ⟨_, rfl, e, none, none, none, _, rfl, (by show 1 ≤ sizeLine; decide), he, fun t f1 f2 => ?_⟩
    refine ⟨_, rfl, _, rfl, e, _, none, rfl, upd_same, x.no, fun dx h1 h2 => ?_⟩
    rw [upd_ne h2] at h1
    have h3 : dx ≠ t := (ne_of_none upd_same h1).symm
    rw [upd_ne h3] at h1
    refine k dx t _ h1 f1 h2 f2 h3 upd_same (by rw [upd_ne h2, upd_same]) fun b hb1 hb2 hb3 => ?_
    rw [upd_ne hb1, upd_ne hb2, upd_ne hb1, upd_ne hb3]
theorem sc_NoPage : FnScope ["self", "found"] ["self", "found"] (defScope (inClass (top 4) 0)) := ⟨rfl, rfl, rfl, by decide +kernel, rfl, by decide +kernel, by decide +kernel⟩
theorem ok_NoPage {C TT fI : Addr} {fd : FuncData} (x : ErN K mg "NoPage" "NoPage.__init__" (inClass (top 4) 0) "found" C TT fI fd) : FnOk P w K mg base CX0 1 fI fd ["self", "found"] (spErr C "found") := by
  refine x.fn.ok sc_NoPage (fun vs H Q E h => ?_) (fun cdv A outer s H vs Q E hr h => ?_)
  · obtain ⟨_, _, rfl, _⟩ := h
    rfl
  · obtain ⟨e, v, rfl, he, k⟩ := h
    refine ⟨_, (pss_cons (ps_expr (pe_baseInit x.f x.b rfl x.mT (pa_cons (pv 0) (pa_cons pe_str pa_nil)))) (pss_one (ps_exf x.f (pv 0) (pv 1) rfl))), ?_⟩
    refine ⟨_, rfl, e, none, none, none, _, rfl, (by show 1 ≤ sizeLine; decide), he, fun t f1 f2 => ?_⟩
    refine ⟨_, rfl, _, rfl, e, _, none, rfl, upd_same, x.no, fun dx h1 h2 => ?_⟩
    rw [upd_ne h2] at h1
    have h3 : dx ≠ t := (ne_of_none upd_same h1).symm
    rw [upd_ne h3] at h1
    refine k dx t _ h1 f1 h2 f2 h3 upd_same (by rw [upd_ne h2, upd_same]) fun b hb1 hb2 hb3 => ?_
    rw [upd_ne hb1, upd_ne hb2, upd_ne hb1, upd_ne hb3]
theorem sc_NoPlace : FnScope ["self", "found"] ["self", "found"] (defScope (inClass (top 5) 0)) := ⟨rfl, rfl, rfl, by decide +kernel, rfl, by decide +kernel, by decide +kernel⟩
theorem ok_NoPlace {C TT fI : Addr} {fd : FuncData} (x : ErN K mg "NoPlace" "NoPlace.__init__" (inClass (top 5) 0) "found" C TT fI fd) : FnOk P w K mg base CX0 1 fI fd ["self", "found"] (spErr C "found") := by
  refine x.fn.ok sc_NoPlace (fun vs H Q E h => ?_) (fun cdv A outer s H vs Q E hr h => ?_)
  · obtain ⟨_, _, rfl, _⟩ := h
    rfl
  · obtain ⟨e, v, rfl, he, k⟩ := h
    refine ⟨_, (pss_cons (ps_expr (pe_baseInit x.f x.b rfl x.mT (pa_cons (pv 0) (pa_cons pe_str pa_nil)))) (pss_one (ps_exf x.f (pv 0) (pv 1) rfl))), ?_⟩
    refine ⟨_, rfl, e, none, none, none, _, rfl, (by show 1 ≤ sizeLine; decide), he, fun t f1 f2 => ?_⟩
    refine ⟨_, rfl, _, rfl, e, _, none, rfl, upd_same, x.no, fun dx h1 h2 => ?_⟩
    rw [upd_ne h2] at h1
    have h3 : dx ≠ t := (ne_of_none upd_same h1).symm
    rw [upd_ne h3] at h1
    refine k dx t _ h1 f1 h2 f2 h3 upd_same (by rw [upd_ne h2, upd_same]) fun b hb1 hb2 hb3 => ?_
    rw [upd_ne hb1, upd_ne hb2, upd_ne hb1, upd_ne hb3]
theorem sc_Lacks : FnScope ["self", "key"] ["self", "key"] (defScope (inClass (top 6) 0)) := ⟨rfl, rfl, rfl, by decide +kernel, rfl, by decide +kernel, by decide +kernel⟩
theorem ok_Lacks {C TT fI : Addr} {fd : FuncData} (x : ErN K mg "Lacks" "Lacks.__init__" (inClass (top 6) 0) "key" C TT fI fd) : FnOk P w K mg base CX0 1 fI fd ["self", "key"] (spErr C "key") := by
  refine x.fn.ok sc_Lacks (fun vs H Q E h => ?_) (fun cdv A outer s H vs Q E hr h => ?_)
  · obtain ⟨_, _, rfl, _⟩ := h
    rfl
  · obtain ⟨e, v, rfl, he, k⟩ := h
    refine ⟨_, (pss_cons (ps_expr (pe_baseInit x.f x.b rfl x.mT (pa_cons (pv 0) (pa_cons pe_str pa_nil)))) (pss_one (ps_exf x.f (pv 0) (pv 1) rfl))), ?_⟩
    refine ⟨_, rfl, e, none, none, none, _, rfl, (by show 1 ≤ sizeLine; decide), he, fun t f1 f2 => ?_⟩
    refine ⟨_, rfl, _, rfl, e, _, none, rfl, upd_same, x.no, fun dx h1 h2 => ?_⟩
    rw [upd_ne h2] at h1
    have h3 : dx ≠ t := (ne_of_none upd_same h1).symm
    rw [upd_ne h3] at h1
    refine k dx t _ h1 f1 h2 f2 h3 upd_same (by rw [upd_ne h2, upd_same]) fun b hb1 hb2 hb3 => ?_
    rw [upd_ne hb1, upd_ne hb2, upd_ne hb1, upd_ne hb3]
theorem sc_Has : FnScope ["self", "key"] ["self", "key"] (defScope (inClass (top 7) 0)) := ⟨rfl, rfl, rfl, by decide +kernel, rfl, by decide +kernel, by decide +kernel⟩
theorem ok_Has {C TT fI : Addr} {fd : FuncData} (x : ErN K mg "Has" "Has.__init__" (inClass (top 7) 0) "key" C TT fI fd) : FnOk P w K mg base CX0 1 fI fd ["self", "key"] (spErr C "key") := by
  refine x.fn.ok sc_Has (fun vs H Q E h => ?_) (fun cdv A outer s H vs Q E hr h => ?_)
  · obtain ⟨_, _, rfl, _⟩ := h
    rfl
  · obtain ⟨e, v, rfl, he, k⟩ := h
    refine ⟨_, (pss_cons (ps_expr (pe_baseInit x.f x.b rfl x.mT (pa_cons (pv 0) (pa_cons pe_str pa_nil)))) (pss_one (ps_exf x.f (pv 0) (pv 1) rfl))), ?_⟩
    refine ⟨_, rfl, e, none, none, none, _, rfl, (by show 1 ≤ sizeLine; decide), he, fun t f1 f2 => ?_⟩
    refine ⟨_, rfl, _, rfl, e, _, none, rfl, upd_same, x.no, fun dx h1 h2 => ?_⟩
    rw [upd_ne h2] at h1
    have h3 : dx ≠ t := (ne_of_none upd_same h1).symm
    rw [upd_ne h3] at h1
    refine k dx t _ h1 f1 h2 f2 h3 upd_same (by rw [upd_ne h2, upd_same]) fun b hb1 hb2 hb3 => ?_
    rw [upd_ne hb1, upd_ne hb2, upd_ne hb1, upd_ne hb3]
theorem sc_TooMany : FnScope ["self", "count"] ["self", "count"] (defScope (inClass (top 8) 0)) := ⟨rfl, rfl, rfl, by decide +kernel, rfl, by decide +kernel, by decide +kernel⟩
theorem ok_TooMany {C TT fI : Addr} {fd : FuncData} (x : ErN K mg "TooMany" "TooMany.__init__" (inClass (top 8) 0) "count" C TT fI fd) : FnOk P w K mg base CX0 1 fI fd ["self", "count"] (spErr C "count") := by
  refine x.fn.ok sc_TooMany (fun vs H Q E h => ?_) (fun cdv A outer s H vs Q E hr h => ?_)
  · obtain ⟨_, _, rfl, _⟩ := h
    rfl
  · obtain ⟨e, v, rfl, he, k⟩ := h
    refine ⟨_, (pss_cons (ps_expr (pe_baseInit x.f x.b rfl x.mT (pa_cons (pv 0) (pa_cons pe_str pa_nil)))) (pss_one (ps_exf x.f (pv 0) (pv 1) rfl))), ?_⟩
    refine ⟨_, rfl, e, none, none, none, _, rfl, (by show 1 ≤ sizeLine; decide), he, fun t f1 f2 => ?_⟩
    refine ⟨_, rfl, _, rfl, e, _, none, rfl, upd_same, x.no, fun dx h1 h2 => ?_⟩
    rw [upd_ne h2] at h1
    have h3 : dx ≠ t := (ne_of_none upd_same h1).symm
    rw [upd_ne h3] at h1
    refine k dx t _ h1 f1 h2 f2 h3 upd_same (by rw [upd_ne h2, upd_same]) fun b hb1 hb2 hb3 => ?_
    rw [upd_ne hb1, upd_ne hb2, upd_ne hb1, upd_ne hb3]
def Err (C : Addr) (fld : Str) (v : V) (H : Hp) (e : Addr) : Prop := ∃ (dx : Addr) (ar : Option Addr) (b : Addr), Fly C e (some dx) ar (some b) H ∧ H dx = some (XdO dx [(fld, v)]) ∧ dx ≠ e ∧ dx ≠ b
theorem raise_err {nm q fld : Str} {st : Stmt} {C TT fI : Addr} {fd : FuncData} (x : ErN K mg nm q st fld C TT fI fd) {v : V} {H : Hp} {E : XK} {te : TE} {σ : St} {D : Ends} (hv : ∀ R : List V → Hp → Prop, R [v] H → tCons te tNil σ H R)
    (q : ∀ e H', H e = none → Same H H' → Err C fld v H' e → E (.ref e) none H') : tRaise K E (tEx C (spErr C fld) (tCons te tNil)) D σ H := by
  delta tRaise tEx
  dsimp only
  refine hv _ ?_
  refine ⟨(by show 1 ≤ sizeLine; decide), fun e he => ⟨e, v, rfl, upd_same, fun dx t H' h1 h2 h3 h4 h5 a1 a2 a3 => ⟨rfl, C, e, some dx, some t, rfl, x.r, ⟨a1, fun b z => nomatch z⟩, fun b fb nb => ?_⟩⟩⟩
  rw [upd_ne h3] at h1
  rw [upd_ne h4] at h2
  have hdb : dx ≠ b := ne_of_none a2 fb
  refine q e _ he (fun c o z => ?_) ⟨dx, some t, b, fly_past nb, ?_, h3, hdb⟩
  · have n1 : c ≠ e := ne_of_none z he
    have n2 : c ≠ dx := ne_of_none z h1
    have n3 : c ≠ t := ne_of_none z h2
    have hc : H' c = some o := by rw [a3 c n1 n2 n3, upd_ne n1]; exact z
    have n4 : c ≠ b := ne_of_none hc fb
    show upd (upd H' b _) e _ c = _
    rw [upd_ne n1, upd_ne n4]
    exact hc
  · show upd (upd H' b _) e _ dx = _
    rw [upd_ne h3, upd_ne hdb]
    exact a2
end
structure PgN (K : PySem.W.Frag) (mg : Str → Option Value) (cP fP : Addr) (fdP : FuncData) : Prop where
  fn : Fun K "__init__" "Page.__init__" (inClass (top 32) 0) fP fdP
  bi : Binds K fdP ["self", "keys", "goods"] []
  b : BaseFn K cP "__init__" fP
  m : mg "Page" = some (.ref cP)
structure KdN (K : PySem.W.Frag) (mg : Str → Option Value) (nm q : Str) (st : Stmt) (C f : Addr) (fd : FuncData) (fK fG : Addr) : Prop where
  mak : Mk K C f
  fn : Fun K "__init__" q st f fd
  bi : Binds K fd ["self", "keys", "goods"] []
  m : mg nm = some (.ref C)
  ins : InsC K C
  n1 : NoAttr K C "key_row"
  n2 : NoAttr K C "good_row"
  k : Meth K C "all_keys" fK
  g : Meth K C "goods" fG
def Pg (C dx : Addr) (H : Hp) (x : Addr) (xs ys : List V) : Prop := ∃ tk tg, H x = some (.ins C dx [("key_row", .ref tk), ("good_row", .ref tg)]) ∧ H tk = some (.tup xs) ∧ H tg = some (.tup ys)
def But (x : Addr) (H H' : Hp) : Prop := ∀ b o, H b = some o → b ≠ x → H' b = some o
section
variable {P : Program} {w : World} {K : PySem.W.Frag} {mg : Str → Option Value} {base : Heap}
theorem sc_page : FnScope ["self", "keys", "goods"] ["self", "keys", "goods"] (defScope (inClass (top 32) 0)) := ⟨rfl, rfl, rfl, by decide +kernel, rfl, by decide +kernel, by decide +kernel⟩
def spPage (K : PySem.W.Frag) (C : Addr) : Sp := fun vs H Q _ => ∃ (x dx a b : Addr) (tp tp' : Bool) (xs ys : List V), vs = [.ref x, .ref a, .ref b] ∧ H x = some (.ins C dx []) ∧ RowAt tp H a xs ∧ RowAt tp' H b ys ∧
  ∀ H', But x H H' → Pg C dx H' x xs ys → Q .non H'
theorem CallR_imp {X : Cx} {f : Value} {r r' : List V → Hp → VK → Prop} (h : CallR X f r) (i : ∀ xs H Q, r' xs H Q → r xs H Q) : CallR X f r' := fun pins s σ H xs us Q I rs q => h pins s σ H xs us Q I rs (i xs H Q q)
theorem call_tupR {X : Cx} : CallR X (.type "tuple") (fun xs H Q => ∃ (tp : Bool) (a : Addr) (ys : List V), xs = [.ref a] ∧ RowAt tp H a ys ∧ ∀ t H', Same H H' → H' t = some (.tup ys) → Q (.ref t) H') := CallR_imp call_tuple_of fun xs H Q h => by
  obtain ⟨tp, a, ys, rfl, r, q⟩ := h
  cases tp with
  | true => exact ⟨a, ys, rfl, .inr ⟨SqT.of r, q a H (Same.refl _) r⟩⟩
  | false => exact ⟨a, ys, rfl, .inl ⟨SqL.of r, fun l hl => q l _ (Same.upd hl) upd_same⟩⟩
theorem ok_page {fP C : Addr} {fd : FuncData} (hf : Fun K "__init__" "Page.__init__" (inClass (top 32) 0) fP fd) (T : Txt K mg) (c : Cls K C) (n1 : NoAttr K C "key_row") (n2 : NoAttr K C "good_row") : FnOk P w K mg base CX0 1 fP fd ["self", "keys", "goods"] (spPage K C) := by
  refine hf.ok sc_page (fun vs H Q E h => ?_) (fun cdv A outer s H vs Q E hr h => ?_)
  · obtain ⟨_, _, _, _, _, _, _, _, rfl, _⟩ := h
    rfl
  · obtain ⟨x, dx, a, b, tp, tp', xs, ys, rfl, hx, ra, rb, k⟩ := h
    refine ⟨_, (pss_cons (ps_fld (pv 0) (pe_callTy call_tupR rfl T.n_tuple bt_tuple (pa_c (pv 1) pa_nil)) rfl) (pss_one (ps_fld (pv 0) (pe_callTy call_tupR rfl T.n_tuple bt_tuple (pa_c (pv 2) pa_nil)) rfl))), ?_⟩
    refine ⟨_, rfl, tp, a, xs, rfl, ra, fun tk H1 S1 e1 => ⟨_, rfl, x, C, dx, _, rfl, S1 _ _ hx, c, n1, by decide, ?_⟩⟩
    have nb : b ≠ x := ne_of rb hx (by cases tp' <;> (intro z; cases z))
    have nk : tk ≠ x := ne_of e1 (S1 _ _ hx) (by intro z; cases z)
    have rb1 : RowAt tp' (upd H1 x (.ins C dx (putF "key_row" (.ref tk) []))) b ys := by
      show upd _ _ _ _ = _
      rw [upd_ne nb]
      exact S1 _ _ rb
    refine ⟨_, rfl, tp', b, ys, rfl, rb1, fun tg H2 S2 e2 => ⟨_, rfl, x, C, dx, _, rfl, S2 _ _ upd_same, c, n2, (by show 1 < 1000; decide), ?_⟩⟩
    have ng : tg ≠ x := ne_of e2 (S2 _ _ upd_same) (by intro z; cases z)
    have ek : H2 tk = some (.tup xs) := S2 _ _ (by rw [upd_ne nk]; exact e1)
    refine k _ (fun c' o z n => ?_) ⟨tk, tg, upd_same, by rw [upd_ne nk]; exact ek, by rw [upd_ne ng]; exact e2⟩
    rw [upd_ne n]
    refine S2 _ _ ?_
    rw [upd_ne n]
    exact S1 _ _ z
def spMake (C cE : Addr) (p : PyData → PyData → Prop) : Sp := fun vs H Q E => ∃ (N : Addr → Prop) (x dx : Addr) (vk vg : V) (dk dg : PyData), vs = [.ref x, vk, vg] ∧ H x = some (.ins C dx []) ∧ DV N H vk dk ∧ DV N H vg dg ∧ Short dk ∧ Short dg ∧
  (¬ PageKeys dk → ∀ e H', H e = none → But x H H' → Err cE "found" vk H' e → E (.ref e) none H') ∧
  (PageKeys dk → ¬ p dk dg → ∀ e H', H e = none → But x H H' → Err cE "found" vg H' e → E (.ref e) none H') ∧
  (PageKeys dk → p dk dg → ∀ H' a b tp tp' xs ys, But x H H' → vk = .ref a → vg = .ref b → RowAt tp H a xs → RowAt tp' H b ys → Pg C dx H' x xs ys → Q .non H')
def lenD (d : PyData) : Int := match rowD d with | some ds => ds.length | none => 0
theorem sc_leaf : FnScope ["self", "keys", "goods"] ["self", "keys", "goods"] (defScope (inClass (top 33) 0)) := ⟨rfl, rfl, rfl, by decide +kernel, rfl, by decide +kernel, by decide +kernel⟩
theorem same_but {x : Addr} {H H' : Hp} (s : Same H H') : But x H H' := fun b o z _ => s b o z
theorem dv_of_yes {N : Addr → Prop} {H : Hp} {v : V} {d : PyData} (x : DV N H v d) (h : rowD d ≠ none) : ∃ tp a xs, v = .ref a ∧ RowAt tp H a xs ∧ (xs.length : Int) = lenD d := by
  rcases dv_row x with ⟨tp, a, xs, ds, e, ra, rx, rd, _⟩ | ⟨_, rd⟩
  · exact ⟨tp, a, xs, e, ra, by unfold lenD; rw [rd]; show (xs.length : Int) = ds.length; rw [rx.length]⟩
  · exact absurd rd h
theorem ok_leaf {C f fK fG cE TT fI cP fP : Addr} {fd fdI fdP : FuncData} (X : KdN K mg "Leaf" "Leaf.__init__" (inClass (top 33) 0) C f fd fK fG) (x : ErN K mg "NoPage" "NoPage.__init__" (inClass (top 4) 0) "found" cE TT fI fdI) (y : PgN K mg cP fP fdP) (T : Txt K mg)
    (h1 : OkD P w K mg base "are_page_keys" s_are_page_keys ["thing"] 5 spAPK) (h2 : OkD P w K mg base "are_goods" s_are_goods ["thing", "many"] 6 (spAG PageGoods)) :
    FnOk P w K mg base (CXo P w) 8 f fd ["self", "keys", "goods"] (spMake C cE fun dk dg => PageGoods dg (lenD dk)) := by
  obtain ⟨f1, fd1, D1, G1⟩ := h1
  obtain ⟨f2, fd2, D2, G2⟩ := h2
  have GE : FnOk P w K mg base CX0 1 fI fdI ["self", "found"] (spErr cE "found") := ok_NoPage x
  have GP : FnOk P w K mg base CX0 1 fP fdP ["self", "keys", "goods"] (spPage K C) := ok_page y.fn T X.ins.cl X.n1 X.n2
  refine Fun_okX X.fn sc_leaf (fun vs H Q E h => ?_) (fun cdv A outer s H vs Q E hr h => ?_)
  · obtain ⟨_, _, _, _, _, _, _, rfl, _⟩ := h
    rfl
  · obtain ⟨N, x', dx, vk, vg, dk, dg, rfl, hx, Dk, Dg, sk, sg, b1, b2, b3⟩ := h
    refine ⟨_, (pss_cons (ps_if (pt_not (pt_val (pe_call G1 (hr.mono (by decide)) rfl D1.m D1.fn.kp D1.b .nil pass0 (pa_c (pv 1) pa_nil)))) (pss_one (ps_raise outs_def rfl (pe_exc x.f GE (hr.mono (by decide)) rfl x.mC x.bi (pa_c (pv 1) pa_nil)))) pss_nil)
      (pss_cons (ps_if (pt_not (pt_val (pe_call G2 (hr.mono (by decide)) rfl D2.m D2.fn.kp D2.b .nil pass0 (pa_c (pv 2) (pa_c (pe_callB call_len_seq rfl T.n_len bt_len (pa_c (pv 1) pa_nil)) pa_nil))))) (pss_one (ps_raise outs_def rfl (pe_exc x.f GE (hr.mono (by decide)) rfl x.mC x.bi (pa_c (pv 2) pa_nil)))) pss_nil)
      (pss_one (ps_expr (pe_base y.b GP (hr.mono (by decide)) rfl y.m y.bi pass0 (pa_c (pv 0) (pa_c (pv 1) (pa_c (pv 2) pa_nil)))))))), ?_⟩
    refine ⟨_, rfl, N, vk, dk, rfl, Dk, sk, fun H1 S1 => ⟨_, rfl, ?_⟩⟩
    by_cases ck : PageKeys dk
    · rw [yes_t ck]
      refine iteF ?_
      obtain ⟨tp, a, xs, rfl, ra, la⟩ := dv_of_yes Dk (by obtain ⟨ds, e, _⟩ := ck; rw [e]; exact fun z => nomatch z)
      refine ⟨_, rfl, _, rfl, a, xs, rfl, row_len (S1 _ _ ra), N, vg, dg, _, rfl, Dg.keep (fun a o _ z => S1 a o z) (fun _ z => z), sg, fun H2 S2 => ⟨_, rfl, ?_⟩⟩
      rw [la]
      by_cases cg : PageGoods dg (lenD dk)
      · rw [yes_t cg]
        refine iteF ?_
        obtain ⟨tp', b, ys, rfl, rb, _⟩ := dv_of_yes Dg (by obtain ⟨ds, e, _⟩ := cg; rw [e]; exact fun z => nomatch z)
        refine ⟨_, rfl, _, rfl, _, rfl, x', dx, a, b, tp, tp', xs, ys, rfl, S2 _ _ (S1 _ _ hx), S2 _ _ (S1 _ _ ra), S2 _ _ (S1 _ _ rb), fun H3 B3 p3 => ?_⟩
        exact b3 ck cg H3 a b tp tp' xs ys (fun c o z n => B3 c o (S2 _ _ (S1 _ _ z)) n) rfl rfl ra rb p3
      · rw [yes_f cg]
        refine iteT (raise_err x (v := vg) (fun R r => ⟨_, rfl, r⟩) fun e H3 he S3 r => b2 ck cg e H3 ((S1.trans S2).free he) (same_but ((S1.trans S2).trans S3)) r)
    · rw [yes_f ck]
      refine iteT (raise_err x (v := vk) (fun R r => ⟨_, rfl, r⟩) fun e H3 he S3 r => b1 ck e H3 (S1.free he) (same_but (S1.trans S3)) r)
theorem sc_inner : FnScope ["self", "keys", "goods"] ["self", "keys", "goods"] (defScope (inClass (top 34) 0)) := ⟨rfl, rfl, rfl, by decide +kernel, rfl, by decide +kernel, by decide +kernel⟩
theorem ok_inner {C f fK fG cE TT fI cP fP : Addr} {fd fdI fdP : FuncData} (X : KdN K mg "Inner" "Inner.__init__" (inClass (top 34) 0) C f fd fK fG) (x : ErN K mg "NoPage" "NoPage.__init__" (inClass (top 4) 0) "found" cE TT fI fdI) (y : PgN K mg cP fP fdP) (T : Txt K mg)
    (h1 : OkD P w K mg base "are_page_keys" s_are_page_keys ["thing"] 5 spAPK) (h2 : OkD P w K mg base "are_places" s_are_places ["thing", "many"] 6 (spAG PagePlaces)) :
    FnOk P w K mg base (CXo P w) 8 f fd ["self", "keys", "goods"] (spMake C cE fun dk dg => PagePlaces dg (lenD dk + 1)) := by
  obtain ⟨f1, fd1, D1, G1⟩ := h1
  obtain ⟨f2, fd2, D2, G2⟩ := h2
  have GE : FnOk P w K mg base CX0 1 fI fdI ["self", "found"] (spErr cE "found") := ok_NoPage x
  have GP : FnOk P w K mg base CX0 1 fP fdP ["self", "keys", "goods"] (spPage K C) := ok_page y.fn T X.ins.cl X.n1 X.n2
  refine Fun_okX X.fn sc_inner (fun vs H Q E h => ?_) (fun cdv A outer s H vs Q E hr h => ?_)
  · obtain ⟨_, _, _, _, _, _, _, rfl, _⟩ := h
    rfl
  · obtain ⟨N, x', dx, vk, vg, dk, dg, rfl, hx, Dk, Dg, sk, sg, b1, b2, b3⟩ := h
    refine ⟨_, (pss_cons (ps_if (pt_not (pt_val (pe_call G1 (hr.mono (by decide)) rfl D1.m D1.fn.kp D1.b .nil pass0 (pa_c (pv 1) pa_nil)))) (pss_one (ps_raise outs_def rfl (pe_exc x.f GE (hr.mono (by decide)) rfl x.mC x.bi (pa_c (pv 1) pa_nil)))) pss_nil)
      (pss_cons (ps_if (pt_not (pt_val (pe_call G2 (hr.mono (by decide)) rfl D2.m D2.fn.kp D2.b .nil pass0 (pa_c (pv 2) (pa_c (pe_op op_add (pe_callB call_len_seq rfl T.n_len bt_len (pa_c (pv 1) pa_nil)) pe_int) pa_nil))))) (pss_one (ps_raise outs_def rfl (pe_exc x.f GE (hr.mono (by decide)) rfl x.mC x.bi (pa_c (pv 2) pa_nil)))) pss_nil)
      (pss_one (ps_expr (pe_base y.b GP (hr.mono (by decide)) rfl y.m y.bi pass0 (pa_c (pv 0) (pa_c (pv 1) (pa_c (pv 2) pa_nil)))))))), ?_⟩
    refine ⟨_, rfl, N, vk, dk, rfl, Dk, sk, fun H1 S1 => ⟨_, rfl, ?_⟩⟩
    by_cases ck : PageKeys dk
    · rw [yes_t ck]
      refine iteF ?_
      obtain ⟨tp, a, xs, rfl, ra, la⟩ := dv_of_yes Dk (by obtain ⟨ds, e, _⟩ := ck; rw [e]; exact fun z => nomatch z)
      refine ⟨_, rfl, _, rfl, a, xs, rfl, row_len (S1 _ _ ra), _, _, rfl, rfl, N, vg, dg, _, rfl, Dg.keep (fun a o _ z => S1 a o z) (fun _ z => z), sg, fun H2 S2 => ⟨_, rfl, ?_⟩⟩
      rw [la]
      by_cases cg : PagePlaces dg (lenD dk + 1)
      · rw [yes_t cg]
        refine iteF ?_
        obtain ⟨tp', b, ys, rfl, rb, _⟩ := dv_of_yes Dg (by obtain ⟨ds, e, _⟩ := cg; rw [e]; exact fun z => nomatch z)
        refine ⟨_, rfl, _, rfl, _, rfl, x', dx, a, b, tp, tp', xs, ys, rfl, S2 _ _ (S1 _ _ hx), S2 _ _ (S1 _ _ ra), S2 _ _ (S1 _ _ rb), fun H3 B3 p3 => ?_⟩
        exact b3 ck cg H3 a b tp tp' xs ys (fun c o z n => B3 c o (S2 _ _ (S1 _ _ z)) n) rfl rfl ra rb p3
      · rw [yes_f cg]
        refine iteT (raise_err x (v := vg) (fun R r => ⟨_, rfl, r⟩) fun e H3 he S3 r => b2 ck cg e H3 ((S1.trans S2).free he) (same_but ((S1.trans S2).trans S3)) r)
    · rw [yes_f ck]
      refine iteT (raise_err x (v := vk) (fun R r => ⟨_, rfl, r⟩) fun e H3 he S3 r => b1 ck e H3 (S1.free he) (same_but (S1.trans S3)) r)
theorem sc_ak : FnScope ["self"] ["self"] (defScope (inClass (top 32) 1)) := ⟨rfl, rfl, rfl, by decide +kernel, rfl, by decide +kernel, by decide +kernel⟩
theorem sc_gs : FnScope ["self"] ["self"] (defScope (inClass (top 32) 2)) := ⟨rfl, rfl, rfl, by decide +kernel, rfl, by decide +kernel, by decide +kernel⟩
def spRow (C : Addr) (fst : Bool) : Sp := fun vs H Q _ => ∃ (x dx : Addr) (xs ys : List V), vs = [.ref x] ∧ Pg C dx H x xs ys ∧ ∀ l, H l = none → Q (.ref l) (upd H l (.lst (if fst then xs else ys)))
theorem ok_ak {C fK : Addr} {fd : FuncData} (hf : Fun K "all_keys" "Page.all_keys" (inClass (top 32) 1) fK fd) (T : Txt K mg) (c : Cls K C) (n : NoAttr K C "key_row") : FnOk P w K mg base CX0 1 fK fd ["self"] (spRow C true) := by
  refine hf.ok sc_ak (fun vs H Q E h => ?_) (fun cdv A outer s H vs Q E hr h => ?_)
  · obtain ⟨_, _, _, _, rfl, _⟩ := h
    rfl
  · obtain ⟨x, dx, xs, ys, rfl, ⟨tk, tg, h1, h2, h3⟩, k⟩ := h
    exact ⟨_, (pss_one (ps_ret (pe_callTy call_list_of rfl T.n_list bt_list (pa_c (pe_fld (pv 0) rfl) pa_nil)))), _, rfl, x, C, dx, _, _, rfl, h1, c, n, rfl, tk, xs, rfl, .inr (SqT.of h2), k⟩
theorem ok_gs {C fG : Addr} {fd : FuncData} (hf : Fun K "goods" "Page.goods" (inClass (top 32) 2) fG fd) (T : Txt K mg) (c : Cls K C) (n : NoAttr K C "good_row") : FnOk P w K mg base CX0 1 fG fd ["self"] (spRow C false) := by
  refine hf.ok sc_gs (fun vs H Q E h => ?_) (fun cdv A outer s H vs Q E hr h => ?_)
  · obtain ⟨_, _, _, _, rfl, _⟩ := h
    rfl
  · obtain ⟨x, dx, xs, ys, rfl, ⟨tk, tg, h1, h2, h3⟩, k⟩ := h
    exact ⟨_, (pss_one (ps_ret (pe_callTy call_list_of rfl T.n_list bt_list (pa_c (pe_fld (pv 0) rfl) pa_nil)))), _, rfl, x, C, dx, _, _, rfl, h1, c, n, rfl, tg, ys, rfl, .inr (SqT.of h3), k⟩
end
end K14
set_option Elab.async false
set_option linter.all false
set_option maxRecDepth 100000
set_option maxHeartbeats 2000000
namespace K14
open PySem L2
structure Small (d : PyData) : Prop where
  ok : Okd 150 d
  lo : ∀ i : Int, d = .int i → i.natAbs ≤ 10 ^ 30
  dp : d.depth ≤ 2
theorem log_le {z : Int} {k : Nat} (h : z.natAbs < 2 ^ k) (hk : 0 < k) : z.natAbs.log2 < k := by
  by_cases e : z.natAbs = 0
  · rw [e]; simpa using hk
  · exact (Nat.log2_lt e).mpr h
theorem small_int {i : Int} (h : i.natAbs ≤ 10 ^ 30) : Small (.int i) := by
  have b : i.natAbs < 2 ^ 101 := by omega
  have l := log_le b (by decide)
  refine ⟨⟨?_, ?_, by simp [PyData.depth], ?_⟩, fun j z => by cases z; exact h, by simp [PyData.depth]⟩
  · simp only [PyData.showable, decide_eq_true_eq]; omega
  · simp only [PyData.leavesShort, decide_eq_true_eq]
    have e := int_text_length_le10 (k := 31) (by decide) (a := i) (by omega)
    show (Str.ofString (toString i)).length ≤ 40
    rw [ofString_length]
    omega
  · simp only [PyData.weight]
    split <;> omega
theorem small_bool {b : Bool} : Small (.bool b) := ⟨⟨rfl, rfl, by simp [PyData.depth], by simp [PyData.weight]⟩, (fun _ z => nomatch z), by simp [PyData.depth]⟩
theorem small_none : Small .none := ⟨⟨rfl, rfl, by simp [PyData.depth], by simp [PyData.weight]⟩, (fun _ z => nomatch z), by simp [PyData.depth]⟩
theorem small_e : Small (.str "") := ⟨⟨rfl, by decide +kernel, by simp [PyData.depth], by decide +kernel⟩, (fun _ z => nomatch z), by simp [PyData.depth]⟩
theorem small_0 : Small (.str "0") := ⟨⟨rfl, by decide +kernel, by simp [PyData.depth], by decide +kernel⟩, (fun _ z => nomatch z), by simp [PyData.depth]⟩
theorem small_l : Small (.list [.int 0]) := ⟨⟨by decide +kernel, by decide +kernel, by decide +kernel, by decide +kernel⟩, (fun _ z => nomatch z), by decide +kernel⟩
theorem small_t : Small (.tuple [.int 0]) := ⟨⟨by decide +kernel, by decide +kernel, by decide +kernel, by decide +kernel⟩, (fun _ z => nomatch z), by decide +kernel⟩
theorem small_d : Small (.dict []) := ⟨⟨by decide +kernel, by decide +kernel, by decide +kernel, by decide +kernel⟩, (fun _ z => nomatch z), by decide +kernel⟩
theorem kbF {H H1 : Hp} {p q : Addr} {o : HO} (k : KB p H H1) (h : H q = none) : KB p H (upd H1 q o) := fun b u z n => by rw [upd_ne (ne_of_none z h)]; exact k b u z n
theorem kb_free {H H1 : Hp} {p l : Addr} {m : Nat} (k : KB p H H1) (b : Box H1 p m) (h : H1 l = none) : H l = none ∧ l ≠ p := by
  obtain ⟨xs, e⟩ := b.lst
  have nl : l ≠ p := (ne_of_none e h).symm
  refine ⟨?_, nl⟩
  cases c : H l with
  | none => rfl
  | some o => rw [k l o c nl] at h; cases h
theorem box_updQ {H : Hp} {p q : Addr} {n : Nat} {o : HO} (x : Box H p n) (h : q ≠ p) : Box (upd H q o) p n := by
  obtain ⟨a, b, c, h1, r⟩ := x
  exact ⟨a, b, c, by rw [upd_ne (Ne.symm h)]; exact h1, r⟩
section
variable {P : Program} {w : World} {K : PySem.W.Frag} {mg : Str → Option Value} {base : Heap}
abbrev s__law_keys : Stmt := top 39
theorem sc__law_keys : FnScope ["_law_box_here", "_law_many", "_law_way", "_law_step_here", "_law_number", "_law_found", "_law_k"] ["_law_box_here", "_law_many"] (defScope s__law_keys) := ⟨rfl, rfl, rfl, by decide +kernel, rfl, by decide +kernel, by decide +kernel⟩
theorem mul7 {m st : Int} (h0 : 0 ≤ m) (h1 : m ≤ 7) (h2 : 0 ≤ st) (h3 : st ≤ 50000000) : 0 ≤ m * st ∧ m * st ≤ 350000000 := by
  refine ⟨Int.mul_nonneg h0 h2, ?_⟩
  have := Int.mul_le_mul h1 h3 h2 (by decide)
  omega
end
end K14
set_option Elab.async false
set_option linter.all false
set_option maxRecDepth 100000
set_option maxHeartbeats 2000000
namespace K14
open PySem L2
theorem Box.same {H H' : Hp} {p : Addr} {n : Nat} (x : Box H p n) (s : Same H H') : Box H' p n := let ⟨a, b, c, h1, r⟩ := x; ⟨a, b, c, s _ _ h1, r⟩
theorem swaps_list {es : List Expr} {p : Pos} {t : Option Expr} {l : Nat} {env : Env} : swapsWith (.List es p) t l env = pure false := by rfl
section
variable {P : Program} {w : World} {K : PySem.W.Frag} {mg : Str → Option Value} {base : Heap}
def Told (p : Addr) (H : Hp) (v : V) (d : PyData) : Prop := DV (· = p) H v d ∧ Small d
theorem Told.keep {p : Addr} {H H' : Hp} {v : V} {d : PyData} (x : Told p H v d) (k : KB p H H') : Told p H' v d := ⟨x.1.keep (fun a o n z => k a o z n) fun _ z => z, x.2⟩
abbrev s__law_odd : Stmt := top 41
theorem sc__law_odd : FnScope ["_law_box_here", "_law_some"] ["_law_box_here"] (defScope s__law_odd) := ⟨rfl, rfl, rfl, by decide +kernel, rfl, by decide +kernel, by decide +kernel⟩
def spOdd : Sp := fun vs H Q _ => ∃ (p : Addr) (n : Nat), vs = [.ref p] ∧ Box H p n ∧ n ≤ 950000 ∧ ∀ (v : V) (d : PyData) (H' : Hp), Told p H' v d → (∀ a, v = .ref a → H a = none) → (∀ i : Int, v = .int i → i ≤ 999999999999999999999999999999) → (∀ es, d = .list es → es = [.int 0]) → Box H' p (n + 1) → KB p H H' → Q v H'
theorem ok_odd (hd : ∃ f fd, Dn K mg "_law_odd" "_law_odd" s__law_odd ["_law_box_here"] f fd) (T : Txt K mg) (h1 : OkD P w K mg base "_law_take" s__law_take ["_law_box_here", "_law_many"] 1 spTake) :
    OkD P w K mg base "_law_odd" s__law_odd ["_law_box_here"] 2 spOdd := by
  obtain ⟨f, fd, D⟩ := hd
  obtain ⟨f1, fd1, D_law_take, G_law_take⟩ := h1
  refine ⟨f, fd, D, D.fn.ok sc__law_odd (fun vs H Q E h => ?_) (fun cdv A outer s H vs Q E hr h => ?_)⟩
  · obtain ⟨_, _, rfl, _⟩ := h
    rfl
  · obtain ⟨p, n, rfl, B, hn, k⟩ := h
    have sc := sc__law_odd
    have hP : ∀ (i j : Int) (a b : Nat) (q1 q2 q3 : Pos), PE (cxOf CX0 P w K mg base ["_law_box_here", "_law_some"] "_law_odd" (defScope s__law_odd) f cdv A outer s H E).nox (.BinOp (.Constant (.int i) a q1) .Pow (.Constant (.int j) b q2) q3) _ := fun i j a b q1 q2 q3 => pe_op op_pow pe_int pe_int
    have hN : ∀ (i j : Int) (a b : Nat) (q1 q2 q3 q4 : Pos), PE (cxOf CX0 P w K mg base ["_law_box_here", "_law_some"] "_law_odd" (defScope s__law_odd) f cdv A outer s H E).nox (.UnaryOp .USub (.BinOp (.Constant (.int i) a q1) .Pow (.Constant (.int j) b q2) q3) q4) _ := fun i j a b q1 q2 q3 q4 => pe_un un_neg (pe_op op_pow pe_int pe_int)
    have hM : ∀ (i : Int) (a : Nat) (q1 q2 : Pos), PE (cxOf CX0 P w K mg base ["_law_box_here", "_law_some"] "_law_odd" (defScope s__law_odd) f cdv A outer s H E).nox (.UnaryOp .USub (.Constant (.int i) a q1) q2) _ := fun i a q1 q2 => pe_un un_neg pe_int
    have hS : ∀ (i j l : Int) (a b c : Nat) (q1 q2 q3 q4 q5 : Pos), PE (cxOf CX0 P w K mg base ["_law_box_here", "_law_some"] "_law_odd" (defScope s__law_odd) f cdv A outer s H E).nox (.BinOp (.BinOp (.Constant (.int i) a q1) .Pow (.Constant (.int j) b q2) q3) .Sub (.Constant (.int l) c q5) q4) _ := fun i j l a b c q1 q2 q3 q4 q5 => pe_op op_sub (pe_op op_pow pe_int pe_int) pe_int
    refine' ⟨_, ?h, ?r⟩
    case h =>
      refine' pss_cons ?a ?b
      case b => exact pss_one (ps_ret (pe_ix ix_list (pv 1) (pe_call G_law_take (hr.mono (by decide)) rfl D_law_take.m D_law_take.fn.kp D_law_take.b .nil pass0 (pa_c (pv 0) (pa_c pe_int pa_nil))) (fun _ _ => rfl)))
      case a =>
        with_reducible refine' ps_set (i := 1) ?h0 ?h1 ?h2 ?e swaps_list ?h3
        case h0 => exact sc.nd
        case h1 => rfl
        case h2 => exact Or.inl rfl
        case h3 => exact Or.inr rfl
        case e => with_reducible exact pe_lst (pa_bl (pa_bl (pa_str (pa_str (pa_lst (pa_int pa_nil) (pa_tup (pa_int pa_nil) (pa_dnew (pa_ofE (hP _ _ _ _ _ _ _) rfl (pa_ofE (hN _ _ _ _ _ _ _ _) rfl (pa_ofE (hS _ _ _ _ _ _ _ _ _ _ _) rfl (pa_ofE (hM _ _ _ _) rfl (pa_non pa_nil))))))))))))
    case r =>
    refine ⟨(by show 1 ≤ sizeLine; decide), fun l1 n1 => ⟨(by show 1 ≤ sizeLine; decide), fun t1 n2 => ?_⟩⟩
    intro d1 n3
    refine ⟨_, _, rfl, rfl, cp (by decide) (by decide), _, _, rfl, rfl, cp (by decide) (by decide), _, rfl, _, _, rfl, rfl, cp (by decide) (by decide), _, _, rfl, rfl, _, rfl, (by show 12 ≤ sizeLine; decide), fun l n4 => ?_⟩
    have e9 : (10 : Int) ^ (9 : Int).toNat = 1000000000 := by decide +kernel
    have e30 : (10 : Int) ^ (30 : Int).toNat = 1000000000000000000000000000000 := by decide +kernel
    have S1 : Same H (upd H l1 (.lst [.int 0])) := Same.upd n1
    have S2 : Same (upd H l1 (.lst [.int 0])) (upd (upd H l1 (.lst [.int 0])) t1 (.tup [.int 0])) := Same.upd n2
    have S3 : Same (upd (upd H l1 (.lst [.int 0])) t1 (.tup [.int 0])) (upd (upd (upd H l1 (.lst [.int 0])) t1 (.tup [.int 0])) d1 (.dK [])) := Same.upd n3
    have g1 := S3 _ _ (S2 _ _ (upd_same (H := H) (a := l1) (o := .lst [.int 0])))
    have g2 := S3 _ _ (upd_same (H := upd H l1 (.lst [.int 0])) (a := t1) (o := .tup [.int 0]))
    have g3 := upd_same (H := upd (upd H l1 (.lst [.int 0])) t1 (.tup [.int 0])) (a := d1) (o := .dK [])
    have S := (S1.trans S2).trans S3
    have w2 := S1.free n2
    have w3 := (S1.trans S2).free n3
    generalize upd (upd (upd H l1 (.lst [.int 0])) t1 (.tup [.int 0])) d1 (.dK []) = H3 at *
    have p1 : l1 ≠ p := (kb_free KB.refl B n1).2
    have p2 : t1 ≠ p := (kb_free S1.kb (Box.same B S1) n2).2
    have p3 : d1 ≠ p := (kb_free (S1.trans S2).kb (Box.same B (S1.trans S2)) n3).2
    have B3 : Box H3 p n := Box.same B S
    have pl : l ≠ p := (kb_free KB.refl B3 n4).2
    rw [e9, e30] at *
    generalize hL : ([V.bl true, .bl false, .str "", .str "0", .ref l1, .ref t1, .ref d1, .int 1000000000, .int (-1000000000), .int (1000000000000000000000000000000 - 1), .int (-1), .non] : List V) = L at *
    have all : ∀ v ∈ L, (∃ d, Told p H3 v d ∧ ∀ es, d = .list es → es = [.int 0]) ∧ (∀ a, v = .ref a → H a = none) ∧ ∀ i : Int, v = .int i → i ≤ 999999999999999999999999999999 := by
      rw [← hL]
      intro v hv
      simp only [List.mem_cons, List.not_mem_nil, or_false] at hv
      rcases hv with rfl | rfl | rfl | rfl | rfl | rfl | rfl | rfl | rfl | rfl | rfl | rfl
      · exact ⟨⟨_, ⟨.bl _, small_bool⟩, (fun es z => nomatch z)⟩, (fun a z => nomatch z), (fun i z => nomatch z)⟩
      · exact ⟨⟨_, ⟨.bl _, small_bool⟩, (fun es z => nomatch z)⟩, (fun a z => nomatch z), (fun i z => nomatch z)⟩
      · exact ⟨⟨_, ⟨.str _, small_e⟩, (fun es z => nomatch z)⟩, (fun a z => nomatch z), (fun i z => nomatch z)⟩
      · exact ⟨⟨_, ⟨.str _, small_0⟩, (fun es z => nomatch z)⟩, (fun a z => nomatch z), (fun i z => nomatch z)⟩
      · exact ⟨⟨_, ⟨.lst p1 g1 (.cons (.int 0) .nil), small_l⟩, (fun es z => by cases z; rfl)⟩, (fun a z => (by cases z; exact n1)), (fun i z => nomatch z)⟩
      · exact ⟨⟨_, ⟨.tup p2 g2 (.cons (.int 0) .nil), small_t⟩, (fun es z => nomatch z)⟩, (fun a z => (by cases z; exact w2)), (fun i z => nomatch z)⟩
      · exact ⟨⟨_, ⟨.dct p3 g3 .nil, small_d⟩, (fun es z => nomatch z)⟩, (fun a z => (by cases z; exact w3)), (fun i z => nomatch z)⟩
      · exact ⟨⟨_, ⟨.int _, small_int (by decide)⟩, (fun es z => nomatch z)⟩, (fun a z => nomatch z), (fun i z => by injection z with z; omega)⟩
      · exact ⟨⟨_, ⟨.int _, small_int (by decide)⟩, (fun es z => nomatch z)⟩, (fun a z => nomatch z), (fun i z => by injection z with z; omega)⟩
      · exact ⟨⟨_, ⟨.int _, small_int (by decide)⟩, (fun es z => nomatch z)⟩, (fun a z => nomatch z), (fun i z => by injection z with z; omega)⟩
      · exact ⟨⟨_, ⟨.int _, small_int (by decide)⟩, (fun es z => nomatch z)⟩, (fun a z => nomatch z), (fun i z => by injection z with z; omega)⟩
      · exact ⟨⟨_, ⟨.non, small_none⟩, (fun es z => nomatch z)⟩, (fun a z => nomatch z), (fun i z => nomatch z)⟩
    have hlen : L.length = 12 := by rw [← hL]; rfl
    refine ⟨_, rfl, _, rfl, p, 12, n, rfl, B3.upd n4, by omega, by decide, by decide, fun r H4 r0 r1 B4 k4 => ?_⟩
    obtain ⟨v, hv, ev⟩ := atI_mem (xs := L) r0 (by rw [hlen]; exact r1)
    obtain ⟨⟨d, hd, hl⟩, fv, bv⟩ := all v hv
    have K4 : KB p H3 H4 := (Same.upd n4).kb.trans k4
    exact ⟨_, _, _, _, rfl, rfl, SqL.of (k4 l _ upd_same pl), (by rw [← hL] at ev; exact ev), k v d H4 (hd.keep K4) fv bv hl B4 (S.kb.trans K4)⟩
end
end K14
set_option Elab.async false
set_option linter.all false
set_option maxRecDepth 100000
set_option maxHeartbeats 1000000
namespace K14
open PySem L2
def OkX (P : Program) (w : World) (K : PySem.W.Frag) (mg : Str → Option Value) (base : Heap) (x : Str) (st : Stmt) (ps : List Str) (k : Nat) (sp : Sp) : Prop :=
  ∃ f fd, Dn K mg x x st ps f fd ∧ FnOk P w K mg base (CXo P w) k f fd ps sp
section
variable {P : Program} {w : World} {K : PySem.W.Frag} {mg : Str → Option Value} {base : Heap}
abbrev s_need_key : Stmt := top 25
theorem sc_need_key : FnScope ["thing"] ["thing"] (defScope s_need_key) := ⟨rfl, rfl, rfl, by decide +kernel, rfl, by decide +kernel, by decide +kernel⟩
def spNeed (K : PySem.W.Frag) (cE : Addr) : Sp := fun vs H Q E => ∃ v t, vs = [v] ∧ Thg K H v t ∧ (keyV v = true → Q .non H) ∧ (keyV v = false → ∀ e H', H e = none → Same H H' → Err cE "found" v H' e → E (.ref e) none H')
theorem ok_need {cE TT fI : Addr} {fdI : FuncData} (hd : ∃ f fd, Dn K mg "need_key" "need_key" s_need_key ["thing"] f fd) (T : Txt K mg) (x : ErN K mg "NoKey" "NoKey.__init__" (inClass (top 3) 0) "found" cE TT fI fdI) (h1 : OkD P w K mg base "is_key" s_is_key ["thing"] 3 (spIsK K)) :
    OkX P w K mg base "need_key" s_need_key ["thing"] 4 (spNeed K cE) := by
  obtain ⟨f, fd, D⟩ := hd
  obtain ⟨f1, fd1, D1, G1⟩ := h1
  have GE : FnOk P w K mg base CX0 1 fI fdI ["self", "found"] (spErr cE "found") := ok_NoKey x
  refine ⟨f, fd, D, Fun_okX D.fn sc_need_key (fun vs H Q E h => ?_) (fun cdv A outer s H vs Q E hr h => ?_)⟩
  · obtain ⟨_, _, rfl, _⟩ := h
    rfl
  · obtain ⟨v, t, rfl, th, b1, b2⟩ := h
    refine ⟨_, (pss_one (ps_if (pt_not (pt_val (pe_call G1 (hr.mono (by decide)) rfl D1.m D1.fn.kp D1.b .nil pass0 (pa_c (pv 0) pa_nil)))) (pss_one (ps_raise outs_def rfl (pe_exc x.f GE (hr.mono (by decide)) rfl x.mC x.bi (pa_c (pv 0) pa_nil)))) pss_nil)), ?_⟩
    refine ⟨_, rfl, v, t, rfl, th, _, rfl, ?_⟩
    cases c : keyV v with
    | true => exact iteF (b1 c)
    | false => exact iteT (raise_err x (v := v) (fun R r => ⟨_, rfl, r⟩) fun e H' he S r => b2 c e H' he S r)
end
end K14
set_option Elab.async false
set_option linter.all false
set_option maxRecDepth 100000
set_option maxHeartbeats 1000000
namespace K14
open PySem L2
theorem sIx_nat {n d : Nat} {i : Int} (h : 0 ≤ i) : HT.sIx n d (some i) = min i.toNat n := by
  unfold HT.sIx
  exact if_neg (by omega)
theorem sIx_no {n d : Nat} : HT.sIx n d none = d := rfl
theorem cut_take {xs : List V} {i : Nat} (h : i ≤ xs.length) : cutV xs none (some (i : Int)) = xs.take i := by
  unfold cutV
  rw [sIx_no, sIx_nat (by omega), List.drop_zero]
  congr 1
  omega
theorem cut_drop {xs : List V} {i : Nat} (h : i ≤ xs.length) : cutV xs (some (i : Int)) none = xs.drop i := by
  unfold cutV
  rw [sIx_no, sIx_nat (by omega), show min (i : Int).toNat xs.length = i by omega]
  exact List.take_of_length_le (by rw [List.length_drop]; omega)
section
variable {P : Program} {w : World} {K : PySem.W.Frag} {mg : Str → Option Value} {base : Heap}
abbrev s_left_out : Stmt := top 31
theorem sc_left_out : FnScope ["row", "at"] ["row", "at"] (defScope s_left_out) := ⟨rfl, rfl, rfl, by decide +kernel, rfl, by decide +kernel, by decide +kernel⟩
def spLeft : Sp := fun vs H Q _ => ∃ (a : Addr) (xs : List V) (i : Nat), vs = [.ref a, .int i] ∧ H a = some (.tup xs) ∧ i < xs.length ∧ xs.length ≤ 1000 ∧ ∀ p H', Same H H' → H' p = some (.tup (xs.take i ++ xs.drop (i + 1))) → Q (.ref p) H'
theorem ok_left (hd : ∃ f fd, Dn K mg "left_out" "left_out" s_left_out ["row", "at"] f fd) (T : Txt K mg) : OkD P w K mg base "left_out" s_left_out ["row", "at"] 1 spLeft := by
  obtain ⟨f, fd, D⟩ := hd
  refine ⟨f, fd, D, D.fn.ok sc_left_out (fun vs H Q E h => ?_) (fun cdv A outer s H vs Q E hr h => ?_)⟩
  · obtain ⟨_, _, _, rfl, _⟩ := h
    rfl
  · obtain ⟨a, xs, i, rfl, ha, hi, hz, k⟩ := h
    refine ⟨_, (pss_one (ps_ret (pe_op op_catTT (pe_slice sl_tup (pv 0) po_none (po_some (pv 1))) (pe_slice sl_tup (pv 0) (po_some (pe_op op_add (pv 1) pe_int)) po_none)))), ?_⟩
    refine ⟨_, rfl, _, rfl, _, rfl, a, xs, rfl, SqT.of ha, ?n1, fun p1 f1 => ?_⟩
    case n1 =>
      rw [sIx_nat (by omega)]
      rintro ⟨_, e⟩
      have : min (i : Int).toNat xs.length = xs.length := e
      omega
    have S1 := Same.upd (o := .tup (cutV xs none (some (i : Int)))) f1
    refine ⟨_, rfl, _, rfl, _, _, rfl, rfl, _, rfl, a, xs, rfl, SqT.of (S1 _ _ ha), ?n2, fun p2 f2 => ?_⟩
    case n2 =>
      rw [sIx_nat (by omega)]
      rintro ⟨e, _⟩
      have : min ((i : Int) + 1).toNat xs.length = 0 := e
      omega
    have S2 := Same.upd (o := .tup (cutV xs (some ((i : Int) + 1)) none)) f2
    have c2 : cutV xs (some ((i : Int) + 1)) none = xs.drop (i + 1) := by
      have := cut_drop (xs := xs) (i := i + 1) (by omega)
      rwa [show ((i + 1 : Nat) : Int) = (i : Int) + 1 by omega] at this
    refine ⟨p1, p2, _, _, rfl, rfl, S2 _ _ upd_same, upd_same, ?_, fun p H' S r => ?_⟩
    · rw [c2, cut_take (by omega), List.length_take, List.length_drop, show sizeLine = 16777216 by decide]
      omega
    · rw [c2, cut_take (by omega)] at r
      exact k p H' ((S1.trans S2).trans S) r
end
end K14
set_option Elab.async false
set_option linter.all false
set_option maxRecDepth 100000
set_option maxHeartbeats 1000000
namespace K14
open PySem L2
theorem err_on {C : Addr} {fld : Str} {v : V} {H0 H : Hp} {e : Addr} {E : XK} (he : H0 e = none) (S : Same H0 H) (r : Err C fld v H e) (q : ∀ H', Same H0 H' → Err C fld v H' e → E (.ref e) none H') : goOn E (.ref e) none H := by
  obtain ⟨dx, ar, b, fl, hdx, n1, n2⟩ := r
  refine ⟨C, e, some dx, ar, some b, rfl, fl, fun b2 f2 nb => q _ (fun c o z => ?_) ⟨dx, ar, b2, fly_past nb, ?_, n1, ne_of_none hdx f2⟩⟩
  · have c1 : c ≠ e := ne_of_none z he
    have c2 : c ≠ b2 := ne_of_none (S _ _ z) f2
    show upd (upd H b2 _) e _ c = _
    rw [upd_ne c1, upd_ne c2]
    exact S _ _ z
  · show upd (upd H b2 _) e _ dx = _
    rw [upd_ne n1, upd_ne (ne_of_none hdx f2)]
    exact hdx
def Up (ks : List Int) : Prop := ks.Pairwise (· < ·) ∧ ∀ k ∈ ks, -999999999 ≤ k ∧ k ≤ 999999999
theorem dvs_ints {N : Addr → Prop} {H : Hp} : ∀ (ns : List Int), DVs N H (ns.map V.int) (ns.map PyData.int)
  | [] => .nil
  | n :: ns => .cons (.int n) (dvs_ints ns)
theorem up_rises {ks : List Int} (h : Up ks) : RisesD (ks.map PyData.int) := by
  intro j hj
  rw [List.length_map] at hj
  have hm := h.2 ks[j] (List.getElem_mem hj)
  refine ⟨ks[j], by simp [hj], hm.1, hm.2, fun j0 => ⟨ks[j - 1]'(by omega), by simp [show j - 1 < ks.length by omega], ?_⟩⟩
  exact List.pairwise_iff_getElem.mp h.1 (j - 1) j (by omega) hj (by omega)
end K14
set_option Elab.async false
set_option linter.all false
set_option maxRecDepth 100000
set_option maxHeartbeats 1000000
namespace K14
open PySem L2
theorem inV_int {i : Int} {ns : List Int} : inV (.int i) (ns.map V.int) = true ↔ i ∈ ns := by
  unfold inV
  rw [List.any_eq_true]
  constructor
  · rintro ⟨y, hy, e⟩
    obtain ⟨j, hj, rfl⟩ := List.mem_map.mp hy
    have : j = i := by simpa [eqV] using e
    exact this ▸ hj
  · intro h
    exact ⟨.int i, List.mem_map.mpr ⟨i, h, rfl⟩, by simp [eqV]⟩
theorem flat_ints {ns : List Int} : (ns.map V.int).all flatV = true := by
  rw [List.all_eq_true]
  intro y hy
  obtain ⟨j, _, rfl⟩ := List.mem_map.mp hy
  rfl
theorem keys_page {ks : List Int} (h : Up ks) (hz : ks.length ≤ 6) : PageKeys (.tuple (ks.map PyData.int)) := ⟨_, rfl, up_rises h, by rw [List.length_map]; exact hz⟩
theorem goods_page {gs : List Int} {n : Int} (h : ∀ g ∈ gs, -999999999 ≤ g ∧ g ≤ 999999999) (hz : (gs.length : Int) = n) : PageGoods (.tuple (gs.map PyData.int)) n := ⟨_, rfl, by rw [List.length_map]; exact hz, fun x hx => by
  obtain ⟨g, hg, rfl⟩ := List.mem_map.mp hx
  have := h g hg
  show (decide (-999999999 ≤ g) && decide (g ≤ 999999999)) = true
  rw [decide_eq_true this.1, decide_eq_true this.2]
  rfl⟩
section
variable {P : Program} {w : World} {K : PySem.W.Frag} {mg : Str → Option Value} {base : Heap}
structure PgI (C dx : Addr) (H : Hp) (x : Addr) (ks gs : List Int) : Prop where
  pg : Pg C dx H x (ks.map V.int) (gs.map V.int)
  len : gs.length = ks.length
  few : ks.length ≤ 6
  up : Up ks
  ok : ∀ g ∈ gs, -999999999 ≤ g ∧ g ≤ 999999999
theorem PgI.keep {C dx x : Addr} {H H' : Hp} {ks gs : List Int} (p : PgI C dx H x ks gs) (S : Same H H') : PgI C dx H' x ks gs := ⟨(let ⟨tk, tg, a, b, c⟩ := p.pg; ⟨tk, tg, S _ _ a, S _ _ b, S _ _ c⟩), p.len, p.few, p.up, p.ok⟩
end
end K14
set_option Elab.async false
set_option linter.all false
set_option maxRecDepth 100000
set_option maxHeartbeats 1000000
namespace K14
open PySem L2
section
variable {P : Program} {w : World} {K : PySem.W.Frag} {mg : Str → Option Value} {base : Heap}
abbrev s__law_near : Stmt := top 40
theorem sc__law_near : FnScope ["_law_keys_here", "_law_found", "_law_key"] ["_law_keys_here"] (defScope s__law_near) := ⟨rfl, rfl, rfl, by decide +kernel, rfl, by decide +kernel, by decide +kernel⟩
def spNear : Sp := fun vs H Q _ => ∃ (a : Addr) (ks : List Int), vs = [.ref a] ∧ H a = some (.lst (ks.map V.int)) ∧ ks.length ≤ 20 ∧ (∀ k ∈ ks, -999999999 ≤ k ∧ k ≤ 999999999) ∧
  ∀ l H' ns, H l = none → Same H H' → H' l = some (.lst (ns.map V.int)) → (∀ k ∈ ns, -999999999 ≤ k ∧ k ≤ 999999999) → ns ≠ [] → ns.length ≤ 63 → Q (.ref l) H'
theorem ok_near (hd : ∃ f fd, Dn K mg "_law_near" "_law_near" s__law_near ["_law_keys_here"] f fd) (T : Txt K mg) : OkD P w K mg base "_law_near" s__law_near ["_law_keys_here"] 1 spNear := by
  obtain ⟨f, fd, D⟩ := hd
  refine ⟨f, fd, D, D.fn.ok sc__law_near (fun vs H Q E h => ?_) (fun cdv A outer s H vs Q E hr h => ?_)⟩
  · obtain ⟨_, _, rfl, _⟩ := h
    rfl
  · obtain ⟨a, ks, rfl, ha, hz, hb, k⟩ := h
    have sc := sc__law_near
    refine' ⟨_, (pss_cons (ps_set (i := 1) sc.nd rfl (Or.inl rfl) (pe_lst (pa_c (pe_op op_sub pe_int (pe_op op_pow pe_int pe_int)) (pa_c (pe_op op_sub (pe_op op_pow pe_int pe_int) pe_int) (pa_c pe_int pa_nil)))))
    (pss_cons (ps_for PassesOwn.never rfl (pi_list (pv 0)) (pg_name (i := 2) sc.nd rfl (Or.inl rfl))
      (pss_one (ps_expr (pe_bm PySem.F.plainAttrs_list PySem.F.slot_list_extend PySem.F.type_list_extend mt_extend (pv 1) (pa_c (pe_lst (pa_c (pe_op op_sub (pv 2) pe_int) (pa_c (pv 2) (pa_c (pe_op op_add (pv 2) pe_int) pa_nil)))) pa_nil)))))
    (pss_one (ps_ret (pe_comp (blk_mk [] []) rfl (pi_list (pv 1)) (fun _ _ _ _ _ => (PTs.one (pt_chain op_lt op_lt (pe_un un_neg (pe_op op_pow pe_int pe_int)) (pv 0) (pe_op op_pow pe_int pe_int)))) (fun _ _ _ _ _ => (pv 0))))))), ?_⟩
    have e9 : (10 : Int) ^ (9 : Int).toNat = 1000000000 := by decide +kernel
    refine ⟨_, _, rfl, rfl, cp (by decide) (by decide), _, _, rfl, rfl, _, _, rfl, rfl, cp (by decide) (by decide), _, _, rfl, rfl, (by show 3 ≤ sizeLine; decide), fun lf ff => ?_⟩
    have S1 := Same.upd (o := .lst [.int (1 - 10 ^ (9 : Int).toNat), .int (10 ^ (9 : Int).toNat - 1), .int 0]) ff
    have na : a ≠ lf := ne_of_none ha ff
    refine ⟨_, rfl, a, rfl, ⟨_, SqL.of (S1 _ _ ha)⟩, for_list (fun i σ H2 => ∃ o ns, σ = [some (.ref a), some (.ref lf), o] ∧ H2 lf = some (.lst (ns.map V.int)) ∧ ns.length = 3 + 3 * i ∧ (0 : Int) ∈ ns ∧ Same H H2) ⟨none, [1 - 10 ^ (9 : Int).toNat, 10 ^ (9 : Int).toNat - 1, 0], rfl, upd_same, rfl, by simp, S1⟩ (fun i σ H2 _ ⟨_, _, _, _, _, _, S⟩ => SqL.of (S _ _ ha)) ?_ ?_⟩
    · rintro i y σ H2 hi ⟨o, ns, rfl, e2, l2, z2, S2⟩
      have hil : i < ks.length := by
        have := (List.getElem?_eq_some_iff.mp hi).1
        rwa [List.length_map] at this
      rw [List.getElem?_map] at hi
      obtain ⟨k', hk', rfl⟩ := Option.map_eq_some_iff.mp hi
      refine ⟨_, rfl, .inl ⟨rfl, _, SqL.of e2⟩, _, rfl, _, _, rfl, rfl, _, rfl, _, rfl, _, _, rfl, rfl, (by show 3 ≤ sizeLine; decide), fun l3 f3 => ?_⟩
      have S3 := Same.upd (o := .lst [.int (k' - 1), .int k', .int (k' + 1)]) f3
      refine ⟨lf, l3, ns.map V.int, _, rfl, rfl, S3 _ _ e2, upd_same, ?_, ?_⟩
      · rw [List.length_map, l2, show sizeLine = 16777216 by decide]
        show 3 + 3 * i + 3 ≤ _
        omega
      · refine ⟨_, ns ++ [k' - 1, k', k' + 1], rfl, ?_, ?_, List.mem_append_left _ z2, fun c u hc => ?_⟩
        · rw [upd_same, List.map_append]
          rfl
        · rw [List.length_append, l2]
          show 3 + 3 * i + 3 = _
          omega
        · rw [upd_ne (ne_of_none hc ff)]
          exact S3 _ _ (S2 _ _ hc)
    · rintro σ H2 ⟨o, ns, rfl, e2, l2, z2, S2⟩
      rw [List.length_map] at l2
      have ra : RowAt false H2 lf (ns.map V.int) := e2
      dsimp only
      refine tret1 (comp_f (ns.map V.int) keyV (fun y => y) (J := ItB K false lf) (H1 := H2) (fun R r => ⟨_, rfl, lf, rfl, ⟨_, SqL.of e2⟩, r⟩) (it_row ra) ?_ ?_ (by rw [List.length_map]; omega) ?_)
      · intro y hy H3 R S3 r
        obtain ⟨z, _, rfl⟩ := List.mem_map.mp hy
        have r' : R (decide (-999999999 ≤ z) && decide (z ≤ 999999999)) H3 := r H3 (Same.refl _)
        refine ⟨_, _, rfl, rfl, cp (by decide) (by decide), _, rfl, _, rfl, _, _, rfl, rfl, _, rfl, ite2 (fun h1 => ?_) (fun h1 => ?_)⟩
        · have h2 : -(10 : Int) ^ (9 : Int).toNat < z := of_decide_eq_true h1
          rw [e9] at h2
          refine ⟨_, _, rfl, rfl, cp (by decide) (by decide), _, _, rfl, rfl, _, rfl, ?_⟩
          show R (decide (z < (10 : Int) ^ (9 : Int).toNat)) H3
          rw [decide_eq_true (show -999999999 ≤ z by omega), Bool.true_and] at r'
          rw [e9, show decide (z < 1000000000) = decide (z ≤ 999999999) from decide_eq_decide.mpr (by omega)]
          exact r'
        · have h2 : ¬ -(10 : Int) ^ (9 : Int).toNat < z := fun q => h1 (decide_eq_true q)
          rw [e9] at h2
          rw [decide_eq_false (show ¬ -999999999 ≤ z by omega), Bool.false_and] at r'
          exact ⟨_, rfl, r'⟩
      · exact fun y hy _ H3 R S3 r => ⟨_, rfl, r H3 (Same.refl _)⟩
      · intro d H3 f3 S3 e3
        rw [List.filter_map, List.map_map] at e3
        have fd : H d = none := S2.free f3
        refine k d H3 (ns.filter (keyV ∘ V.int)) fd (S2.trans S3) e3 (fun z hz' => ?_) (fun e => ?_) ?_
        · obtain ⟨_, h2⟩ := List.mem_filter.mp hz'
          have h3 : (decide (-999999999 ≤ z) && decide (z ≤ 999999999)) = true := h2
          rw [Bool.and_eq_true] at h3
          exact ⟨of_decide_eq_true h3.1, of_decide_eq_true h3.2⟩
        · have : (0 : Int) ∈ ns.filter (keyV ∘ V.int) := List.mem_filter.mpr ⟨z2, rfl⟩
          rw [e] at this
          cases this
        · have := List.length_filter_le (keyV ∘ V.int) ns
          omega
end
end K14
set_option Elab.async false
set_option linter.all false
set_option maxRecDepth 100000
set_option maxHeartbeats 1000000
namespace K14
open PySem L2
section
variable {K : PySem.W.Frag} {mg : Str → Option Value}
theorem caught_of {th : TH} {C : Addr} {fld : Str} {v : V} {H H' : Hp} {e : Addr} {D : Ends} {n : Nat} (he : H e = none) (S : Same H H') (r : Err C fld v H' e)
    (q : ∀ σ : St, σ.length = n → ∀ dx ar b H2, Same H H2 → H2 e = some (ExO C e (some dx) ar (some b)) → H2 dx = some (XdO dx [(fld, v)]) → th C e (some dx) ar b D σ H2) : caught n th D (.ref e) none H' := by
  obtain ⟨dx, ar, b, fl, hdx, n1, n2⟩ := r
  refine ⟨C, e, some dx, ar, some b, rfl, fl, fun σ hσ b2 f2 nb2 => q σ hσ dx ar b2 _ (fun c o z => ?_) upd_same ?_⟩
  · have c1 : c ≠ e := ne_of_none z he
    have c2 : c ≠ b2 := ne_of_none (S _ _ z) f2
    show upd (upd H' b2 _) e _ c = _
    rw [upd_ne c1, upd_ne c2]
    exact S _ _ z
  · show upd (upd H' b2 _) e _ dx = _
    rw [upd_ne n1, upd_ne (ne_of_none hdx f2)]
    exact hdx
theorem th_skip {C Dc e : Addr} {dx ar : Option Addr} {b : Addr} {i : Nat} {tb : TS} {rest : TH} {D : Ends} {σ : St} {H : Hp} (m : PySem.W.mroIn K C (.ref Dc) = some false) (h : rest C e dx ar b D σ H) : thAs K Dc i tb rest C e dx ar b D σ H := ⟨false, m, by rw [if_neg Bool.false_ne_true]; exact h⟩
theorem th_hit {nm q fld wd : Str} {st : Stmt} {C TT fI e dx : Addr} {fd : FuncData} {ar : Option Addr} {b : Addr} {i : Nat} {rest : TH} {D : Ends} {σ : St} {H0 H : Hp} {v : V} (x : ErN K mg nm q st fld C TT fI fd) (hi : i < σ.length) (S : Same H0 H) (h1 : H e = some (ExO C e (some dx) ar (some b))) (h2 : H dx = some (XdO dx [(fld, v)]))
    (r : ∀ l H2, Same H0 H2 → H0 l = none → H2 l = some (.lst [.str wd, v]) → D.rt (.ref l) H2) : thAs K C i (tRet (tLst (tCons (tC (.str wd)) (tCons (tExFld K (tVar i) fld) tNil)))) rest C e (some dx) ar b D σ H := by
  refine ⟨true, x.self, ?_⟩
  rw [if_pos rfl]
  refine ⟨.ref e, by simp [hi], e, C, dx, ar, some b, _, v, rfl, h1, h2, x.g, x.no, ?_, (by show 2 ≤ sizeLine; decide), fun l fl => ?_⟩
  · show ([(fld, v)] : List (Str × V)).lookup fld = some v
    rw [List.lookup_cons, beq_self_eq_true]
  · exact r l _ (S.trans (Same.upd fl)) (S.free fl) upd_same
end
end K14
set_option Elab.async false
set_option linter.all false
set_option maxRecDepth 100000
set_option maxHeartbeats 1000000
namespace K14
open PySem L2
def isL : PyData → Bool
  | .list _ => true
  | _ => false
theorem inst_lst {K : PySem.W.Frag} {N : Addr → Prop} {H : Hp} {v : V} {d : PyData} (x : DV N H v d) : PySem.W.kitOne K (tyD d) (.type "list") = some (isL d) := by
  cases x <;> kernel_rfl
theorem more_row : ∀ (ds : List PyData), PyData.showableAll (ds ++ [.str "more"]) = PyData.showableAll ds ∧ PyData.leavesShortAll 40 (ds ++ [.str "more"]) = PyData.leavesShortAll 40 ds ∧ PyData.depthAll (ds ++ [.str "more"]) = PyData.depthAll ds ∧ PyData.weightAll (ds ++ [.str "more"]) = PyData.weightAll ds + 5
  | [] => ⟨rfl, by decide +kernel, by decide +kernel, by decide +kernel⟩
  | d :: ds => by
    obtain ⟨a, b, c, e⟩ := more_row ds
    refine ⟨?_, ?_, ?_, ?_⟩
    · simp only [List.cons_append, PyData.showableAll, a]
    · simp only [List.cons_append, PyData.leavesShortAll, b]
    · simp only [List.cons_append, PyData.depthAll, c]
    · simp only [List.cons_append, PyData.weightAll, e]
      omega
theorem okd_pair {w : Str} {d : PyData} (hw : (PyData.str w).leavesShort 40 = true) (hl : w.cps.size ≤ 100) (x : Okd 150 d) (dx : d.depth ≤ 2) : Okd 100000 (.list [.str w, d]) := by
  refine ⟨?_, ?_, ?_, ?_⟩
  · simp only [PyData.showable, PyData.showableAll, x.sh, Bool.and_self]
  · simp only [PyData.leavesShort, PyData.leavesShortAll, x.lv, Bool.and_true]
    simpa only [PyData.leavesShort] using hw
  · simp only [PyData.depth, PyData.depthAll]; omega
  · have := x.wt
    simp only [PyData.weight, PyData.weightAll]; omega
theorem okd_pair2 {w : Str} {ds : List PyData} (hw : (PyData.str w).leavesShort 40 = true) (hl : w.cps.size ≤ 100) (x : Okd 150 (.list ds)) (dx : (PyData.list ds).depth ≤ 2) : Okd 100000 (.list [.str w, .list (ds ++ [.str "more"])]) := by
  obtain ⟨a, b, c, e⟩ := more_row ds
  obtain ⟨x1, x2, x3, x4⟩ := x
  simp only [PyData.showable, PyData.leavesShort, PyData.depth, PyData.weight] at x1 x2 x3 x4 dx
  refine ⟨?_, ?_, ?_, ?_⟩
  · simp only [PyData.showable, PyData.showableAll, a, x1, Bool.and_self]
  · simp only [PyData.leavesShort, PyData.leavesShortAll, b, x2, Bool.and_true]
    simpa only [PyData.leavesShort] using hw
  · simp only [PyData.depth, PyData.depthAll, c]; omega
  · simp only [PyData.weight, PyData.weightAll, e]; omega
theorem smalls_row : ∀ {ds : List PyData}, (∀ d ∈ ds, Small d) → PyData.showableAll ds = true ∧ PyData.leavesShortAll 40 ds = true ∧ PyData.depthAll ds ≤ 2 ∧ PyData.weightAll ds ≤ 151 * ds.length
  | [], _ => ⟨rfl, rfl, by simp [PyData.depthAll], by simp [PyData.weightAll]⟩
  | d :: ds, h => by
    obtain ⟨a, b, c, e⟩ := smalls_row fun y hy => h y (List.mem_cons_of_mem _ hy)
    have s := h d (List.mem_cons_self ..)
    refine ⟨?_, ?_, ?_, ?_⟩
    · simp only [PyData.showableAll, s.ok.sh, a, Bool.and_self]
    · simp only [PyData.leavesShortAll, s.ok.lv, b, Bool.and_self]
    · simp only [PyData.depthAll]
      have := s.dp
      omega
    · simp only [PyData.weightAll, List.length_cons]
      have := s.ok.wt
      omega
theorem plain_ints {ns : List Int} : (ns.map V.int).all plainV = true := by
  rw [List.all_eq_true]
  intro y hy
  obtain ⟨j, _, rfl⟩ := List.mem_map.mp hy
  rfl
theorem keysL_page {ks : List Int} (h : Up ks) (hz : ks.length ≤ 6) : PageKeys (.list (ks.map PyData.int)) := ⟨_, rfl, up_rises h, by rw [List.length_map]; exact hz⟩
theorem goodsL_page {gs : List Int} {n : Int} (h : ∀ g ∈ gs, -999999999 ≤ g ∧ g ≤ 999999999) (hz : (gs.length : Int) = n) : PageGoods (.list (gs.map PyData.int)) n := ⟨_, rfl, by rw [List.length_map]; exact hz, fun x hx => by
  obtain ⟨g, hg, rfl⟩ := List.mem_map.mp hx
  have := h g hg
  show (decide (-999999999 ≤ g) && decide (g ≤ 999999999)) = true
  rw [decide_eq_true this.1, decide_eq_true this.2]
  rfl⟩
end K14
set_option Elab.async false
set_option linter.all false
set_option maxRecDepth 100000
set_option maxHeartbeats 2000000
namespace K14
open PySem L2
section
variable {P : Program} {w : World} {K : PySem.W.Frag} {mg : Str → Option Value} {base : Heap}
def spKeysU : Sp := fun vs H Q _ => ∃ (p : Addr) (m : Int) (n : Nat), vs = [.ref p, .int m] ∧ Box H p n ∧ n ≤ 950000 ∧ 0 ≤ m ∧ m ≤ 6 ∧
  ∀ (l : Addr) (H' : Hp) (ns : List Int), H l = none → l ≠ p → H' l = some (.lst (ns.map V.int)) → (ns.length : Int) = m → Up ns → Box H' p (n + 10) → KB p H H' → Q (.ref l) H'
theorem ok_keysU (hd : ∃ f fd, Dn K mg "_law_keys" "_law_keys" s__law_keys ["_law_box_here", "_law_many"] f fd) (T : Txt K mg) (h1 : OkD P w K mg base "_law_take" s__law_take ["_law_box_here", "_law_many"] 1 spTake) :
    OkD P w K mg base "_law_keys" s__law_keys ["_law_box_here", "_law_many"] 3 spKeysU := by
  obtain ⟨f, fd, D⟩ := hd
  obtain ⟨f1, fd1, D_law_take, G_law_take⟩ := h1
  refine ⟨f, fd, D, D.fn.ok sc__law_keys (fun vs H Q E h => ?_) (fun cdv A outer s H vs Q E hr h => ?_)⟩
  · obtain ⟨_, _, _, rfl, _⟩ := h
    rfl
  · obtain ⟨p, m, n, rfl, B, hn, m0, m1, k⟩ := h
    have sc := sc__law_keys
    refine ⟨_, (pss_cons (ps_set (i := 2) sc.nd rfl (Or.inl rfl) (pe_call G_law_take (hr.mono (by decide)) rfl D_law_take.m D_law_take.fn.kp D_law_take.b .nil pass0 (pa_c (pv 0) (pa_c pe_int pa_nil))))
    (pss_cons (ps_set (i := 3) sc.nd rfl (Or.inl rfl) (pe_ix ix_list (pe_lst (pa_c pe_int (pa_c pe_int (pa_c pe_int (pa_c (pe_op op_mul pe_int (pe_op op_pow pe_int pe_int)) pa_nil))))) (pe_call G_law_take (hr.mono (by decide)) rfl D_law_take.m D_law_take.fn.kp D_law_take.b .nil pass0 (pa_c (pv 0) (pa_c pe_int pa_nil))) (fun _ _ => rfl)))
    (pss_cons (ps_set (i := 4) sc.nd rfl (Or.inl rfl) (pe_op op_sub (pe_call G_law_take (hr.mono (by decide)) rfl D_law_take.m D_law_take.fn.kp D_law_take.b .nil pass0 (pa_c (pv 0) (pa_c pe_int pa_nil))) pe_int))
    (pss_cons (ps_if (pt_cmpR op_eq (pv 2) pe_int (nomark _))
      (pss_one (ps_set (i := 4) sc.nd rfl (Or.inl rfl) (pe_un un_neg (pe_op op_pow pe_int pe_int))))
      pss_nil)
    (pss_cons (ps_if (pt_cmpR op_eq (pv 2) pe_int (nomark _))
      (pss_one (ps_set (i := 4) sc.nd rfl (Or.inl rfl) (pe_op op_sub (pe_op op_sub (pe_op op_pow pe_int pe_int) pe_int) (pe_op op_mul (pv 1) (pv 3)))))
      pss_nil)
    (pss_cons (ps_set (i := 5) sc.nd rfl (Or.inl rfl) (pe_lst pa_nil))
    (pss_cons (ps_for PassesOwn.never rfl (pi_range1 rfl T.n_range (pa_c (pv 1) pa_nil)) (pg_name (i := 6) sc.nd rfl (Or.inl rfl))
      (pss_cons (ps_set (i := 4) sc.nd rfl (Or.inl rfl) (pe_op op_add (pe_op op_add (pv 4) pe_int) (pe_call G_law_take (hr.mono (by decide)) rfl D_law_take.m D_law_take.fn.kp D_law_take.b .nil pass0 (pa_c (pv 0) (pa_c (pv 3) pa_nil)))))
    (pss_one (ps_expr (pe_bm PySem.F.plainAttrs_list PySem.F.slot_list_append PySem.F.type_list_append mt_append (pv 5) (pa_c (pv 4) pa_nil))))))
    (pss_one (ps_ret (pv 5)))))))))), ?_⟩
    refine ⟨_, rfl, p, 4, n, rfl, B, by omega, by decide, by decide, fun way H1 a0 a1 B1 k1 => ?_⟩
    refine ⟨_, _, rfl, rfl, cp (by decide) (by decide), _, _, rfl, rfl, .inl ⟨by decide, by decide⟩, (by show 4 ≤ sizeLine; decide), fun l0 f0 => ?_⟩
    refine ⟨_, rfl, p, 4, n + 1, rfl, B1.upd f0, by omega, by decide, by decide, fun r2 H2 b0 b1 B2 k2 => ?_⟩
    obtain ⟨st, hst, e⟩ := atI_ints (ns := [1, 2, 5, 5 * 10 ^ (7 : Int).toNat]) (r := r2) b0 (by show r2 < 4; exact b1)
    have s0 : 0 < st ∧ st ≤ 50000000 := by
      have e7 : (10 : Int) ^ (7 : Int).toNat = 10000000 := by decide +kernel
      rw [e7] at hst
      simp only [List.mem_cons, List.not_mem_nil, or_false] at hst
      omega
    refine ⟨_, _, _, _, rfl, rfl, SqL.of (k2 l0 _ upd_same (B1.ne (H1 := H1) f0)), e, ?_⟩
    refine ⟨_, rfl, p, 60, n + 2, rfl, B2, by omega, by decide, by decide, fun r3 H3 c0 c1 B3 k3 => ⟨_, _, rfl, rfl, ?_⟩⟩
    have K3 : KB p H H3 := ((k1.updN f0).trans k2).trans k3
    have e9 : (10 : Int) ^ (9 : Int).toNat = 1000000000 := by decide +kernel
    have ms := mul7 m0 (by omega) (Int.le_of_lt s0.1) s0.2
    refine ⟨_, rfl, rfl, _, rfl, ite2 (fun _ => ⟨_, _, rfl, rfl, cp (by decide) (by decide), _, rfl, _, rfl, rfl, _, rfl, ite2 (fun _ => ⟨_, _, rfl, rfl, cp (by decide) (by decide), _, _, rfl, rfl, _, rfl, _, rfl, _, _, rfl, rfl, .inl ⟨by omega, by omega⟩, _, _, rfl, rfl, ?_⟩) (fun _ => ?_)⟩) (fun _ => ⟨_, rfl, rfl, _, rfl, ite2 (fun _ => ⟨_, _, rfl, rfl, cp (by decide) (by decide), _, _, rfl, rfl, _, rfl, _, rfl, _, _, rfl, rfl, .inl ⟨by omega, by omega⟩, _, _, rfl, rfl, ?_⟩) (fun _ => ?_)⟩)⟩
    all_goals (
      refine ⟨(by show 0 ≤ sizeLine; decide), fun l fl => ?_⟩
      have nl : l ≠ p := B3.ne (H1 := H3) fl
      have fl' : H l = none := (kb_free K3 B3 fl).1
      refine ⟨_, rfl, m, rfl, by omega, by omega, for_range (fun i σ H4 => ∃ (x : Int) (o : Option V) (ns : List Int) (xs : Int), σ = [some (.ref p), some (.int m), some (.int way), some (.int st), some (.int x), some (.ref l), o] ∧ -1000000000 ≤ xs ∧ xs + m * st ≤ 999999999 ∧ xs ≤ x ∧ x ≤ xs + (i : Int) * st ∧ (∀ z ∈ ns, xs < z ∧ z ≤ x) ∧ ns.Pairwise (· < ·) ∧ Box H4 p (n + 3 + i) ∧ KB p H H4 ∧ ns.length = i ∧ H4 l = some (.lst (ns.map V.int))) ⟨_, none, [], _, rfl, by omega, by omega, Int.le_refl _, by omega, (fun z h => absurd h (by simp)), List.Pairwise.nil, B3.upd fl, fun b u z nb => by rw [upd_ne (fun e => by rw [e, fl'] at z; cases z)]; exact K3 b u z nb, rfl, upd_same⟩ ?_ ?_⟩
      · rintro i σ H4 hi ⟨x, o, ns, xs, rfl, x0, x1, x2, x3, z4, w4, B4, k4, l4, e4⟩
        refine ⟨_, rfl, _, _, rfl, rfl, _, rfl, _, rfl, p, st, n + 3 + i, rfl, B4, by omega, s0.1, by omega, fun r5 H5 d0 d1 B5 k5 => ⟨_, _, rfl, rfl, ?_⟩⟩
        have e5 : H5 l = some (.lst (ns.map V.int)) := k5 l _ e4 nl
        have mul : ((i + 1 : Nat) : Int) * st = (i : Int) * st + st := by rw [show ((i + 1 : Nat) : Int) = (i : Int) + 1 by omega, Int.add_mul, Int.one_mul]
        refine ⟨_, rfl, .inl ⟨rfl, _, SqL.of e5⟩, _, rfl, l, _, _, rfl, rfl, e5, (by rw [List.length_map]; have := big1000; omega), _, _, ns ++ [x + 1 + r5], xs, rfl, x0, x1, by omega, by rw [mul]; omega, ?_, ?_, ?_, ?_, by simp [l4], by rw [upd_same]; simp⟩
        · intro z hz
          rcases List.mem_append.mp hz with hz | hz
          · have := z4 z hz; omega
          · rw [List.mem_singleton.mp hz]; omega
        · rw [List.pairwise_append]
          refine ⟨w4, List.pairwise_singleton .., fun a ha b hb => ?_⟩
          have := z4 a ha
          rw [List.mem_singleton.mp hb]
          omega
        · exact (box_updQ B5 nl).mono (by omega)
        · exact fun b u z nb => by rw [upd_ne (fun e => by rw [e, fl'] at z; cases z)]; exact k5 _ _ (k4 b u z nb) nb
      · rintro σ H4 ⟨x, o, ns, xs, rfl, x0, x1, x2, x3, z4, w4, B4, k4, l4, e4⟩
        have em : ((m.toNat : Nat) : Int) * st = m * st := by rw [Int.toNat_of_nonneg m0]
        rw [em] at x3
        exact ⟨_, rfl, k l H4 ns fl' nl e4 (by omega) ⟨w4, fun z hz => by have := z4 z hz; omega⟩ (B4.mono (by omega)) k4⟩)
end
end K14
set_option Elab.async false
set_option linter.all false
set_option maxRecDepth 100000
set_option maxHeartbeats 2000000
namespace K14
open PySem L2
def lenAt (H : Hp) (a : Addr) : Nat := match H a with | some (.lst xs) => xs.length | _ => 0
theorem erase_map {f : Int → V} : ∀ (xs : List Int) (k : Nat), (xs.map f).eraseIdx k = (xs.eraseIdx k).map f
  | [], _ => by simp
  | x :: xs, 0 => rfl
  | x :: xs, k + 1 => by simp [erase_map xs k]
theorem erase_perm : ∀ {xs : List Int} {k : Nat} (h : k < xs.length), (xs[k] :: xs.eraseIdx k).Perm xs
  | x :: xs, 0, _ => .refl _
  | x :: xs, k + 1, h => (List.Perm.swap ..).trans (.cons x (erase_perm (xs := xs) (k := k) (by simpa using h)))
section
variable {P : Program} {w : World} {K : PySem.W.Frag} {mg : Str → Option Value} {base : Heap}
abbrev s__law_places : Stmt := top 42
theorem sc__law_places : FnScope ["_law_box_here", "_law_many", "_law_step_here", "_law_number", "_law_left", "_law_k", "_law_found"] ["_law_box_here", "_law_many"] (defScope s__law_places) := ⟨rfl, rfl, rfl, by decide +kernel, rfl, by decide +kernel, by decide +kernel⟩
def Plc (z : Int) : Prop := 0 ≤ z ∧ z ≤ 999999999999999999999999999999
def spPlU : Sp := fun vs H Q _ => ∃ (p : Addr) (m : Int) (n : Nat), vs = [.ref p, .int m] ∧ Box H p n ∧ n ≤ 950000 ∧ 0 ≤ m ∧ m ≤ 7 ∧
  ∀ (l : Addr) (H' : Hp) (ns : List Int), H l = none → l ≠ p → H' l = some (.lst (ns.map V.int)) → (ns.length : Int) = m → (∀ i ∈ ns, Plc i) → ns.Nodup → Box H' p (n + 20) → KB p H H' → Q (.ref l) H'
theorem ok_places (hd : ∃ f fd, Dn K mg "_law_places" "_law_places" s__law_places ["_law_box_here", "_law_many"] f fd) (T : Txt K mg) (h1 : OkD P w K mg base "_law_take" s__law_take ["_law_box_here", "_law_many"] 1 spTake) :
    OkD P w K mg base "_law_places" s__law_places ["_law_box_here", "_law_many"] 3 spPlU := by
  obtain ⟨f, fd, D⟩ := hd
  obtain ⟨f1, fd1, D_law_take, G_law_take⟩ := h1
  refine ⟨f, fd, D, D.fn.ok sc__law_places (fun vs H Q E h => ?_) (fun cdv A outer s H vs Q E hr h => ?_)⟩
  · obtain ⟨_, _, _, rfl, _⟩ := h
    rfl
  · obtain ⟨p, m, n, rfl, B, hn, m0, m1, k⟩ := h
    have sc := sc__law_places
    have hu := hr.units0
    refine ⟨_, (pss_cons (ps_set (i := 2) sc.nd rfl (Or.inl rfl) (pe_ix ix_list (pe_lst (pa_c pe_int (pa_c pe_int (pa_c (pe_op op_pow pe_int pe_int) pa_nil)))) (pe_call G_law_take (hr.mono (by decide)) rfl D_law_take.m D_law_take.fn.kp D_law_take.b .nil pass0 (pa_c (pv 0) (pa_c pe_int pa_nil))) (fun _ _ => rfl)))
    (pss_cons (ps_set (i := 3) sc.nd rfl (Or.inl rfl) (pe_call G_law_take (hr.mono (by decide)) rfl D_law_take.m D_law_take.fn.kp D_law_take.b .nil pass0 (pa_c (pv 0) (pa_c pe_int pa_nil))))
    (pss_cons (ps_set (i := 4) sc.nd rfl (Or.inl rfl) (pe_lst pa_nil))
    (pss_cons (ps_for PassesOwn.never rfl (pi_range1 rfl T.n_range (pa_c (pv 1) pa_nil)) (pg_name (i := 5) sc.nd rfl (Or.inl rfl))
      (pss_cons (ps_expr (pe_bm PySem.F.plainAttrs_list PySem.F.slot_list_append PySem.F.type_list_append mt_append (pv 4) (pa_c (pv 3) pa_nil)))
    (pss_one (ps_set (i := 3) sc.nd rfl (Or.inl rfl) (pe_op op_add (pe_op op_add (pv 3) pe_int) (pe_call G_law_take (hr.mono (by decide)) rfl D_law_take.m D_law_take.fn.kp D_law_take.b .nil pass0 (pa_c (pv 0) (pa_c (pv 2) pa_nil))))))))
    (pss_cons (ps_set (i := 6) sc.nd rfl (Or.inl rfl) (pe_lst pa_nil))
    (pss_cons (ps_while PassesOwn.never (pt_cmpR (op_neL hu) (pv 4) (pe_lst pa_nil) (nomark _))
      (pss_one (ps_expr (pe_bm PySem.F.plainAttrs_list PySem.F.slot_list_append PySem.F.type_list_append mt_append (pv 6) (pa_c (pe_bm PySem.F.plainAttrs_list PySem.F.slot_list_pop PySem.F.type_list_pop mt_popAt (pv 4) (pa_c (pe_call G_law_take (hr.mono (by decide)) rfl D_law_take.m D_law_take.fn.kp D_law_take.b .nil pass0 (pa_c (pv 0) (pa_c (pe_callB call_len_seq rfl T.n_len bt_len (pa_c (pv 4) pa_nil)) pa_nil))) pa_nil)) pa_nil)))))
    (pss_one (ps_ret (pv 6))))))))), ?_⟩
    refine ⟨_, _, rfl, rfl, cp (by decide) (by decide), (by show 3 ≤ sizeLine; decide), fun l0 f0 => ?_⟩
    refine ⟨_, rfl, p, 3, n, rfl, B.upd f0, by omega, by decide, by decide, fun r1 H1 a0 a1 B1 k1 => ?_⟩
    have e28 : (10 : Int) ^ (28 : Int).toNat = 10000000000000000000000000000 := by decide +kernel
    obtain ⟨st, hst, e⟩ := atI_ints (ns := [1, 3, 10 ^ (28 : Int).toNat]) (r := r1) a0 (by show r1 < 3; exact a1)
    have s0 : 0 < st ∧ st ≤ 10000000000000000000000000000 := by
      rw [e28] at hst
      simp only [List.mem_cons, List.not_mem_nil, or_false] at hst
      omega
    refine ⟨_, _, _, _, rfl, rfl, SqL.of (k1 l0 _ upd_same (B.ne (H1 := H) f0)), e, ?_⟩
    refine ⟨_, rfl, p, 9, n + 1, rfl, B1, by omega, by decide, by decide, fun x0 H2 b0 b1 B2 k2 => ?_⟩
    have K2 : KB p H H2 := ((Same.upd f0).kb.trans k1).trans k2
    refine ⟨(by show 0 ≤ sizeLine; decide), fun l fl => ?_⟩
    have nl : l ≠ p := B2.ne (H1 := H2) fl
    have fl' : H l = none := (kb_free K2 B2 fl).1
    refine ⟨_, rfl, m, rfl, by omega, by omega, for_range (fun i σ H4 => (∃ x o, σ = [some (.ref p), some (.int m), some (.int st), some (.int x), some (.ref l), o, none] ∧ 0 ≤ x ∧ x ≤ 9 + 10000000000000000000000000001 * (i : Int)) ∧ Box H4 p (n + 2 + i) ∧ KB p H H4 ∧ ∃ ns : List Int, ns.length = i ∧ H4 l = some (.lst (ns.map V.int)) ∧ (∀ z ∈ ns, Plc z ∧ σ[3]? ≠ some (some (.int z)) ∧ ∀ y, σ[3]? = some (some (.int y)) → z < y) ∧ ns.Nodup) ⟨⟨_, none, rfl, by omega, by omega⟩, B2.upd fl, kbF K2 fl', [], rfl, upd_same, (fun z hz => absurd hz (by simp)), List.nodup_nil⟩ ?_ ?_⟩
    · rintro i σ H4 hi ⟨⟨x, o, rfl, y0, y1⟩, B4, k4, ns, l4, e4, z4, d4⟩
      have z5 : ∀ z ∈ ns, Plc z ∧ z < x := fun z hz => ⟨(z4 z hz).1, (z4 z hz).2.2 x rfl⟩
      refine ⟨_, rfl, .inl ⟨rfl, _, SqL.of e4⟩, _, rfl, l, _, _, rfl, rfl, e4, (by rw [List.length_map]; have := big1000; omega), ?_⟩
      have B4' := box_updQ (o := .lst (ns.map V.int ++ [.int x])) B4 nl
      refine ⟨_, rfl, _, _, rfl, rfl, _, rfl, _, rfl, p, st, n + 2 + i, rfl, B4', by omega, s0.1, by omega, fun r5 H5 d0 d1 B5 k5 => ⟨_, _, rfl, rfl, ?_⟩⟩
      have e5 : H5 l = some (.lst (ns.map V.int ++ [.int x])) := k5 l _ upd_same nl
      refine ⟨⟨_, _, rfl, by omega, by omega⟩, B5.mono (by omega), fun b u z nb => k5 b u (by rw [upd_ne (fun e => by rw [e, fl'] at z; cases z)]; exact k4 b u z nb) nb, ns ++ [x], by simp [l4], by rw [e5]; simp, fun z hz => ?_, ?_⟩
      · have zx : Plc z ∧ z ≤ x := by
          rcases List.mem_append.mp hz with hz | hz
          · exact ⟨(z5 z hz).1, Int.le_of_lt (z5 z hz).2⟩
          · rw [List.mem_singleton.mp hz]
            exact ⟨⟨y0, by omega⟩, Int.le_refl _⟩
        refine ⟨zx.1, fun e => ?_, fun y e => ?_⟩
        · have e' : (some (some (V.int (x + 1 + r5)))) = some (some (.int z)) := e
          injection e' with e'
          injection e' with e'
          injection e' with e'
          omega
        · have e' : (some (some (V.int (x + 1 + r5)))) = some (some (.int y)) := e
          injection e' with e'
          injection e' with e'
          injection e' with e'
          omega
      · rw [List.nodup_append]
        refine ⟨d4, by simp, fun a ha b hb => ?_⟩
        have := (z5 a ha).2
        rw [List.mem_singleton.mp hb]
        omega
    · rintro σ H4 ⟨⟨x, o, rfl, y0, y1⟩, B4, k4, ns, l4, e4, z4, d4⟩
      refine ⟨(by show 0 ≤ sizeLine; decide), fun g fg => ?_⟩
      have ng : g ≠ p := B4.ne (H1 := H4) fg
      have fg' : H g = none := (kb_free k4 B4 fg).1
      have nlg : l ≠ g := ne_of_none e4 fg
      refine while_by (fun σ H5 => σ = [some (.ref p), some (.int m), some (.int st), some (.int x), some (.ref l), o, some (.ref g)] ∧ KB p H H5 ∧ ∃ as bs : List Int, H5 l = some (.lst (as.map V.int)) ∧ H5 g = some (.lst (bs.map V.int)) ∧ as.length + bs.length = m.toNat ∧ (∀ z ∈ as ++ bs, Plc z) ∧ (as ++ bs).Nodup ∧ Box H5 p (n + 2 + 7 + bs.length)) (fun _ H5 => lenAt H5 l)
        ⟨rfl, kbF k4 fg', ns, [], by rw [upd_ne nlg]; exact e4, upd_same, by simp; omega, (fun z hz => (z4 z (by simpa using hz)).1), (by simpa using d4), (box_updQ B4 ng).mono (by simp; omega)⟩ ?_ ?_
      · rintro σ H5 ⟨rfl, k5, as, bs, e5, g5, ln, za, zb, B5⟩
        refine ⟨_, rfl, (by show 0 ≤ sizeLine; decide), fun q fq => ⟨_, _, as.map V.int, [], rfl, rfl, SqL.of ?_, SqL.of upd_same, okPs_nil, _, rfl, ?_⟩⟩
        · rw [upd_ne (ne_of_none e5 fq)]; exact e5
        have fq' : H q = none := (kb_free k5 B5 fq).1
        have npq : q ≠ p := (kb_free k5 B5 fq).2
        have S6 : Same H5 (upd H5 q (.lst [])) := Same.upd fq
        have e6 := S6 _ _ e5
        have g6 := S6 _ _ g5
        have B6 : Box (upd H5 q (.lst [])) p (n + 2 + 7 + bs.length) := Box.same B5 S6
        have k6 : KB p H (upd H5 q (.lst [])) := kbF k5 fq'
        have m6 : lenAt H5 l = as.length := by unfold lenAt; rw [e5]; simp
        generalize upd H5 q (.lst []) = H6 at *
        rw [eqPs_nil]
        cases as with
        | nil =>
          refine iteE (c := false) (by simp) (iteF ?_)
          exact ⟨_, rfl, k g H6 bs fg' ng g6 (by simp at ln; omega) (fun z hz => za z (by simpa using hz)) (by simpa using zb) (B6.mono (by simp at ln; omega)) k6⟩
        | cons a as =>
          refine iteE (c := true) (by simp) (iteT ?_)
          have la : ((a :: as).map V.int).length = as.length + 1 := by simp
          refine ⟨_, rfl, .inl ⟨rfl, _, SqL.of g6⟩, _, rfl, .inl ⟨rfl, _, SqL.of e6⟩, _, rfl, _, rfl, l, _, rfl, .inl (SqL.of e6), p, _, n + 2 + 7 + bs.length, rfl, B6, by simp at ln; omega, by rw [la]; omega, by rw [la]; simp at ln; omega, fun r7 H7 c0 c1 B7 k7 => ?_⟩
          rw [la] at c1
          have e7 := k7 _ _ e6 nl
          have g7 := k7 _ _ g6 ng
          have hr7 : r7.toNat < (a :: as).length := by simp; omega
          refine ⟨l, _, r7, r7.toNat, .int (a :: as)[r7.toNat], rfl, rfl, e7, by omega, by simp at ln; omega, ?_, (by rw [List.getElem?_map, List.getElem?_eq_getElem hr7]; rfl), ?_⟩
          · unfold seqIndex?
            rw [la]
            have : ¬ r7 < 0 := by omega
            simp [this]
            omega
          refine ⟨g, _, _, rfl, rfl, by rw [upd_ne nlg.symm]; exact g7, (by rw [List.length_map]; have := big1000; simp at ln; omega), ?_⟩
          have pm : ((a :: as).eraseIdx r7.toNat ++ (bs ++ [(a :: as)[r7.toNat]])).Perm ((a :: as) ++ bs) := (List.perm_append_comm_assoc ..).trans (by
            have h1 : ((a :: as).eraseIdx r7.toNat ++ [(a :: as)[r7.toNat]]).Perm (a :: as) := (List.perm_append_singleton ..).trans (erase_perm hr7)
            exact (List.Perm.append_left bs h1).trans List.perm_append_comm)
          have er : ((a :: as).map V.int).eraseIdx r7.toNat = ((a :: as).eraseIdx r7.toNat).map V.int := erase_map _ _
          refine ⟨⟨rfl, ?_, (a :: as).eraseIdx r7.toNat, bs ++ [(a :: as)[r7.toNat]], ?_, ?_, ?_, ?_, ?_, ?_⟩, ?_⟩
          · intro b u z nb
            have b1 : b ≠ g := fun e => by rw [e, fg'] at z; cases z
            have b2 : b ≠ l := fun e => by rw [e, fl'] at z; cases z
            rw [upd_ne b1, upd_ne b2]
            exact k7 b u (k6 b u z nb) nb
          · rw [upd_ne nlg, upd_same, er]
          · rw [upd_same]; simp
          · rw [List.length_eraseIdx_of_lt hr7]; simp at ln ⊢; omega
          · exact fun z hz => za z (pm.mem_iff.mp hz)
          · exact pm.nodup_iff.mpr zb
          · exact (box_updQ (box_updQ B7 nl) ng).mono (by simp; omega)
          · show lenAt _ l < lenAt H5 l
            rw [m6]
            unfold lenAt
            rw [upd_ne nlg, upd_same]
            show (List.eraseIdx _ _).length < _
            rw [er, List.length_map, List.length_eraseIdx_of_lt hr7]
            simp
      · rintro σ H5 Z Z' hZ ⟨v, e, z, q⟩
        refine ⟨v, e, z, fun p' hp' => ?_⟩
        obtain ⟨a1, a2, a3, a4, a5, a6, a7, a8, a9, b1, b2, b3⟩ := q p' hp'
        exact ⟨a1, a2, a3, a4, a5, a6, a7, a8, a9, b1, b2, hZ _ _ b3⟩
end
end K14
set_option Elab.async false
set_option linter.all false
set_option maxRecDepth 100000
set_option maxHeartbeats 1000000
namespace K14
open PySem L2
theorem passX {X : Cx} : Passes (CXo X.prog X.w) X E0 := fun pins σ H s e s' I h => by
  obtain ⟨v, H', I', rv, q⟩ := I.after h
  exact q.2.elim
theorem kb_back {H H1 : Hp} {p l : Addr} (k : KB p H H1) (h : H1 l = none) (n : l ≠ p) : H l = none := by
  cases c : H l with
  | none => rfl
  | some o => rw [k l o c n] at h; cases h
theorem tseq1 {t u : TS} {D : Ends} {σ : St} {H : Hp} (h : t { D with nx := fun σ' H' => u D σ' H' } σ H) : tSeq t u D σ H := h
theorem both2 {tA : TT} {ta tb : TE} {σ : St} {H : Hp} {Q : VK} (R : V → Hp → Prop) (mk : ∀ Q : VK, (∀ v H', R v H' → Q v H') → tIf tA ta tb σ H Q) (q : ∀ v H', R v H' → Q v H') : tIf tA ta tb σ H Q := mk Q q
theorem seq2 {t u : TS} {D : Ends} {σ : St} {H : Hp} (R : St → Hp → Prop) (mk : ∀ N : St → Hp → Prop, (∀ σ' H', R σ' H' → N σ' H') → t { D with nx := N } σ H) (q : ∀ σ' H', R σ' H' → u D σ' H') : tSeq t u D σ H := tseq1 (mk _ q)
theorem eqPs_ints {xs ys : List Int} : eqPs (xs.map V.int) (ys.map V.int) = decide (xs = ys) := by
  induction xs generalizing ys with
  | nil => cases ys <;> rfl
  | cons x xs ih =>
    cases ys with
    | nil => rfl
    | cons y ys =>
      have h := ih (ys := ys)
      unfold eqPs at h ⊢
      simp only [List.map_cons, List.length_cons, List.zipWith_cons_cons, List.all_cons, id_eq, List.length_map, Nat.add_right_cancel_iff, List.cons.injEq] at h ⊢
      have e : eqP (V.int x) (V.int y) = decide (x = y) := by
        unfold eqP eqV
        by_cases c : x = y
        · simp [c]
        · have c' : ¬ y = x := fun z => c z.symm
          simp [c]
      rw [e]
      by_cases c : x = y
      · simp only [c, decide_true, Bool.true_and, true_and]
        exact h
      · simp [c]
theorem okP_ints {xs ys : List Int} : ∀ (j : Nat) (x y : V), (xs.map V.int)[j]? = some x → (ys.map V.int)[j]? = some y → okP x y := fun j x y hx hy => by
  rw [List.getElem?_map] at hx hy
  obtain ⟨a, _, rfl⟩ := Option.map_eq_some_iff.mp hx
  obtain ⟨b, _, rfl⟩ := Option.map_eq_some_iff.mp hy
  exact .inr ⟨rfl, rfl⟩
theorem keysB_page {tp : Bool} {ks : List Int} (h : Up ks) (hz : ks.length ≤ 6) : PageKeys (if tp then .tuple (ks.map PyData.int) else .list (ks.map PyData.int)) := by
  cases tp with
  | true => exact keys_page h hz
  | false => exact keysL_page h hz
theorem goodsB_page {tp : Bool} {gs : List Int} {n : Int} (h : ∀ g ∈ gs, -999999999 ≤ g ∧ g ≤ 999999999) (hz : (gs.length : Int) = n) : PageGoods (if tp then .tuple (gs.map PyData.int) else .list (gs.map PyData.int)) n := by
  cases tp with
  | true => exact goods_page h hz
  | false => exact goodsL_page h hz
theorem dv_row_ints {tp : Bool} {H : Hp} {a : Addr} {ks : List Int} (h : RowAt tp H a (ks.map V.int)) : DV (fun _ => False) H (.ref a) (if tp then .tuple (ks.map PyData.int) else .list (ks.map PyData.int)) := by
  cases tp with
  | true => exact .tup (fun z => z) h (dvs_ints _)
  | false => exact .lst (fun z => z) h (dvs_ints _)
theorem row_same {tp tp' : Bool} {H : Hp} {a : Addr} {xs ys : List V} (h : RowAt tp H a xs) (h' : RowAt tp' H a ys) : xs = ys := by
  have e := (show H a = _ from h).symm.trans (show H a = _ from h')
  cases tp <;> cases tp' <;> (injection e with e; first | (injection e) | (cases e))
theorem make_ok {C y dy cE a b : Addr} {H : Hp} {tp tp' : Bool} {ks gs : List Int} {Q : VK} {E : XK} (ha : RowAt tp H a (ks.map V.int)) (hb : RowAt tp' H b (gs.map V.int)) (u : Up ks) (few : ks.length ≤ 6) (ok : ∀ g ∈ gs, -999999999 ≤ g ∧ g ≤ 999999999) (len : gs.length = ks.length) (fy : H y = none) (fdy : H dy = none)
    (q : ∀ H3, Same H H3 → PgI C dy H3 y ks gs → Q .non H3) : spMake C cE (fun dk dg => PageGoods dg (lenD dk)) [.ref y, .ref a, .ref b] (upd (upd H dy (.own y)) y (.ins C dy [])) Q E := by
  have K1 : Same H (upd (upd H dy (.own y)) y (.ins C dy [])) := fun c o hc => by
    rw [upd_ne (ne_of_none hc fy), upd_ne (ne_of_none hc fdy)]
    exact hc
  have PK := keysB_page (tp := tp) u few
  have lk : lenD (if tp then .tuple (ks.map PyData.int) else .list (ks.map PyData.int)) = (ks.length : Int) := by
    cases tp with
    | true => show ((ks.map PyData.int).length : Int) = _; rw [List.length_map]
    | false => show ((ks.map PyData.int).length : Int) = _; rw [List.length_map]
  have PG := goodsB_page (tp := tp') (n := lenD (if tp then .tuple (ks.map PyData.int) else .list (ks.map PyData.int))) ok (by rw [lk, len])
  have ha' : RowAt tp (upd (upd H dy (.own y)) y (.ins C dy [])) a (ks.map V.int) := K1 _ _ ha
  have hb' : RowAt tp' (upd (upd H dy (.own y)) y (.ins C dy [])) b (gs.map V.int) := K1 _ _ hb
  have sh : ∀ (tp : Bool) (ns : List Int), ns.length ≤ 6 → Short (if tp then .tuple (ns.map PyData.int) else .list (ns.map PyData.int)) := fun tp ns hn ds z => by
    cases tp <;> (cases z; rw [List.length_map]; omega)
  refine ⟨fun _ => False, y, dy, .ref a, .ref b, _, _, rfl, upd_same, dv_row_ints ha', dv_row_ints hb', sh _ _ few, sh _ _ (by omega), fun c => absurd PK c, fun _ c => absurd PG c, fun _ _ H3 a' b' t1 t2 xs ys B ea eb ra rb pg' => ?_⟩
  cases ea
  cases eb
  rw [row_same ra ha', row_same rb hb'] at pg'
  exact q H3 (fun c o hc => B c o (K1 _ _ hc) (ne_of_none hc fy)) ⟨pg', len, few, u, ok⟩
structure PgP (C dx : Addr) (H : Hp) (x : Addr) (ks ps : List Int) : Prop where
  pg : Pg C dx H x (ks.map V.int) (ps.map V.int)
  len : ps.length = ks.length + 1
  few : ks.length ≤ 6
  up : Up ks
  ok : ∀ p ∈ ps, Plc p
  nd : ps.Nodup
theorem PgP.keep {C dx x : Addr} {H H' : Hp} {ks ps : List Int} (p : PgP C dx H x ks ps) (S : Same H H') : PgP C dx H' x ks ps := ⟨(let ⟨tk, tg, a, b, c⟩ := p.pg; ⟨tk, tg, S _ _ a, S _ _ b, S _ _ c⟩), p.len, p.few, p.up, p.ok, p.nd⟩
theorem PgP.past {C dx x : Addr} {H H' : Hp} {ks ps : List Int} (p : PgP C dx H x ks ps) (k : ∀ b o, H b = some o → (∀ xs, o ≠ .lst xs) → H' b = some o) : PgP C dx H' x ks ps := by
  obtain ⟨⟨tk, tg, a, b, c⟩, p2, p3, p4, p5, p6⟩ := p
  exact ⟨⟨tk, tg, k _ _ a (fun _ z => nomatch z), k _ _ b (fun _ z => nomatch z), k _ _ c (fun _ z => nomatch z)⟩, p2, p3, p4, p5, p6⟩
theorem placesB {tp : Bool} {ps : List Int} {n : Int} (h : ∀ p ∈ ps, Plc p) (nd : ps.Nodup) (hz : (ps.length : Int) = n) : PagePlaces (if tp then .tuple (ps.map PyData.int) else .list (ps.map PyData.int)) n := by
  cases tp <;> exact ⟨ps, rfl, hz, fun i hi => (h i hi).1, nd⟩
theorem make_p {C y dy cE a b : Addr} {H : Hp} {tp tp' : Bool} {ks ps : List Int} {Q : VK} {E : XK} (ha : RowAt tp H a (ks.map V.int)) (hb : RowAt tp' H b (ps.map V.int)) (u : Up ks) (few : ks.length ≤ 6) (ok : ∀ p ∈ ps, Plc p) (nd : ps.Nodup) (len : ps.length = ks.length + 1) (fy : H y = none) (fdy : H dy = none)
    (q : ∀ H3, Same H H3 → PgP C dy H3 y ks ps → Q .non H3) : spMake C cE (fun dk dg => PagePlaces dg (lenD dk + 1)) [.ref y, .ref a, .ref b] (upd (upd H dy (.own y)) y (.ins C dy [])) Q E := by
  have K1 : Same H (upd (upd H dy (.own y)) y (.ins C dy [])) := fun c o hc => by
    rw [upd_ne (ne_of_none hc fy), upd_ne (ne_of_none hc fdy)]
    exact hc
  have PK := keysB_page (tp := tp) u few
  have lk : lenD (if tp then .tuple (ks.map PyData.int) else .list (ks.map PyData.int)) = (ks.length : Int) := by
    cases tp with
    | true => show ((ks.map PyData.int).length : Int) = _; rw [List.length_map]
    | false => show ((ks.map PyData.int).length : Int) = _; rw [List.length_map]
  have PP := placesB (tp := tp') (n := lenD (if tp then .tuple (ks.map PyData.int) else .list (ks.map PyData.int)) + 1) ok nd (by rw [lk, len]; omega)
  have ha' : RowAt tp (upd (upd H dy (.own y)) y (.ins C dy [])) a (ks.map V.int) := K1 _ _ ha
  have hb' : RowAt tp' (upd (upd H dy (.own y)) y (.ins C dy [])) b (ps.map V.int) := K1 _ _ hb
  have sh : ∀ (tp : Bool) (ns : List Int), ns.length ≤ 7 → Short (if tp then .tuple (ns.map PyData.int) else .list (ns.map PyData.int)) := fun tp ns hn ds z => by
    cases tp <;> (cases z; rw [List.length_map]; omega)
  refine ⟨fun _ => False, y, dy, .ref a, .ref b, _, _, rfl, upd_same, dv_row_ints ha', dv_row_ints hb', sh _ _ (by omega), sh _ _ (by omega), fun c => absurd PK c, fun _ c => absurd PP c, fun _ _ H3 a' b' t1 t2 xs ys B ea eb ra rb pg' => ?_⟩
  cases ea
  cases eb
  rw [row_same ra ha', row_same rb hb'] at pg'
  exact q H3 (fun c o hc => B c o (K1 _ _ hc) (ne_of_none hc fy)) ⟨pg', len, few, u, ok, nd⟩
def cnt (ks : List Int) (k : Int) : Nat := (ks.filter fun z => decide (z ≤ k)).length
theorem cnt_le (ks : List Int) (k : Int) : cnt ks k ≤ ks.length := List.length_filter_le _ _
def leV (k : Int) (v : V) : Bool := match v with | .int z => decide (z ≤ k) | _ => false
theorem filter_le (ks : List Int) (k : Int) : ((ks.map V.int).filter (leV k)).length = cnt ks k := by
  unfold cnt
  rw [List.filter_map, List.length_map]
  rfl
section
variable {P : Program} {w : World} {K : PySem.W.Frag} {mg : Str → Option Value} {base : Heap}
theorem sc_child_at : FnScope ["self", "key"] ["self", "key"] (defScope (inClass (top 34) 1)) := ⟨rfl, rfl, rfl, by decide +kernel, rfl, by decide +kernel, by decide +kernel⟩
def spCA (K : PySem.W.Frag) (C cK : Addr) : Sp := fun vs H Q E => ∃ (x dx : Addr) (v : V) (t : Value) (ks ps : List Int), vs = [.ref x, v] ∧ PgP C dx H x ks ps ∧ Thg K H v t ∧
  (keyV v = false → ∀ e H', H e = none → Same H H' → Err cK "found" v H' e → E (.ref e) none H') ∧ (∀ k : Int, v = .int k → keyV v = true → ∀ H', Same H H' → Q (.int (cnt ks k)) H')
theorem ok_childAt {C f fK fG cK fW : Addr} {fd fdW : FuncData} (hf : Fun K "child_at" "Inner.child_at" (inClass (top 34) 1) fW fdW) (T : Txt K mg) (X : KdN K mg "Inner" "Inner.__init__" (inClass (top 34) 0) C f fd fK fG)
    (h1 : OkX P w K mg base "need_key" s_need_key ["thing"] 4 (spNeed K cK)) : FnOk P w K mg base (CXo P w) 6 fW fdW ["self", "key"] (spCA K C cK) := by
  obtain ⟨f1, fd1, D1, G1⟩ := h1
  refine Fun_okX hf sc_child_at (fun vs H Q E h => ?_) (fun cdv A outer s H vs Q E hr h => ?_)
  · obtain ⟨_, _, _, _, _, _, rfl, _⟩ := h
    rfl
  · obtain ⟨x, dx, v, t, ks, ps, rfl, pg, th, b1, b2⟩ := h
    have sc := sc_child_at
    refine' ⟨_, pss_cons (ps_expr (pe_call G1 (hr.mono (by decide)) rfl D1.m D1.fn.kp D1.b .nil outs_def.pass (pa_c (pv 1) pa_nil)))
      (pss_one (ps_ret (pe_callB call_len_seq rfl T.n_len bt_len (pa_c (pe_comp (blk_mk ["key"] [1]) rfl (pi_seq true (pe_fld (pv 0) rfl)) (fun _ _ _ _ _ => PTs.one (pt_cmpR op_le (pv 0) (pv 1) (nomark _))) (fun _ _ _ _ _ => pv 0)) pa_nil)))), ?_⟩
    obtain ⟨tk, tg, hx, hk, hg⟩ := pg.pg
    refine ⟨_, rfl, v, t, rfl, th, fun c1 => ?_, fun c1 e H' he S r => err_on he S r fun H2 S2 r2 => b1 c1 e H2 he S2 r2⟩
    obtain ⟨k, rfl, _, _⟩ := keyV_int c1
    dsimp only
    refine tret1 (tcb1 (comp_f (J := ItB K true tk) (H1 := H) (ks.map V.int) (leV k) (fun y => y) (fun R q => ⟨_, rfl, x, C, dx, _, _, rfl, hx, X.ins.cl, X.n1, rfl, tk, rfl, ⟨_, SqT.of hk⟩, q⟩) (it_row (K := K) (tp := true) hk) ?hc ?he ?hz ?q))
    case hz => rw [List.length_map]; have := pg.few; omega
    case hc =>
      intro y hy H2 R S2 r
      obtain ⟨z, hz, rfl⟩ := List.mem_map.mp hy
      exact ⟨_, rfl, _, rfl, _, _, rfl, rfl, _, rfl, r H2 (Same.refl _)⟩
    case he =>
      intro y hy hp H2 R S2 r
      exact ⟨_, rfl, r H2 (Same.refl _)⟩
    case q =>
      intro d H2 fd2 S2 e2
      refine ⟨d, _, rfl, .inl (SqL.of e2), ?_⟩
      rw [List.length_map, filter_le]
      exact b2 k rfl c1 H2 S2
def ledOf (ks ps : List Int) (k : Int) (w : Nat) : V :=
  if w = 0 then (match ps[cnt ks k]? with | some p => .int p | none => .non)
  else if w = 1 then (match ps[cnt ks k + 1]? with | some p => .int p | none => .non)
  else (match ks[cnt ks k]? with | some p => .int p | none => .non)
def spLed (K : PySem.W.Frag) (C cK : Addr) (w : Nat) : Sp := fun vs H Q E => ∃ (x dx : Addr) (v : V) (t : Value) (ks ps : List Int), vs = [.ref x, v] ∧ PgP C dx H x ks ps ∧ Thg K H v t ∧
  (keyV v = false → ∀ e H', H e = none → Same H H' → Err cK "found" v H' e → E (.ref e) none H') ∧ (∀ k : Int, v = .int k → keyV v = true → ∀ H', Same H H' → Q (ledOf ks ps k w) H')
theorem sc_child : FnScope ["self", "key"] ["self", "key"] (defScope (inClass (top 34) 2)) := ⟨rfl, rfl, rfl, by decide +kernel, rfl, by decide +kernel, by decide +kernel⟩
theorem ok_child {C f fK fG cK fA fW : Addr} {fd fdA fdW : FuncData} (hf : Fun K "child" "Inner.child" (inClass (top 34) 2) fW fdW) (T : Txt K mg) (X : KdN K mg "Inner" "Inner.__init__" (inClass (top 34) 0) C f fd fK fG)
    (mA : Meth K C "child_at" fA) (bA : Binds K fdA ["self", "key"] []) (gA : FnOk P w K mg base (CXo P w) 6 fA fdA ["self", "key"] (spCA K C cK)) : FnOk P w K mg base (CXo P w) 8 fW fdW ["self", "key"] (spLed K C cK 0) := by
  refine Fun_okX hf sc_child (fun vs H Q E h => ?_) (fun cdv A outer s H vs Q E hr h => ?_)
  · obtain ⟨_, _, _, _, _, _, rfl, _⟩ := h
    rfl
  · obtain ⟨x, dx, v, t, ks, ps, rfl, pg, th, b1, b2⟩ := h
    refine' ⟨_, pss_one (ps_ret (pe_ix ix_tup (pe_fld (pv 0) rfl) (pe_meth (pv 0) X.ins.cl mA gA (hr.mono (by decide)) bA .nil outs_def.pass (pa_c (pv 1) pa_nil)) (fun _ _ => rfl))), ?_⟩
    obtain ⟨tk, tg, hx, hk, hg⟩ := pg.pg
    refine ⟨_, rfl, x, C, dx, _, _, rfl, hx, X.ins.cl, X.n2, rfl, _, rfl, x, dx, _, rfl, hx, rfl, _, rfl, x, dx, v, t, ks, ps, rfl, pg, th, fun c1 e H' he S r => err_on he S r fun H2 S2 r2 => b1 c1 e H2 he S2 r2, fun k ek c1 H' S => ?_⟩
    have lt : cnt ks k < ps.length := by have := cnt_le ks k; rw [pg.len]; omega
    have q := b2 k ek c1 H' S
    unfold ledOf at q
    rw [if_pos rfl, List.getElem?_eq_getElem lt] at q
    exact ⟨tg, _, _, _, rfl, rfl, SqT.of (S _ _ hg), atI_nat (by rw [List.getElem?_map, List.getElem?_eq_getElem lt]; rfl), q⟩
theorem sc_beyond : FnScope ["self", "key", "at"] ["self", "key"] (defScope (inClass (top 34) 3)) := ⟨rfl, rfl, rfl, by decide +kernel, rfl, by decide +kernel, by decide +kernel⟩
theorem sc_separator : FnScope ["self", "key", "at"] ["self", "key"] (defScope (inClass (top 34) 4)) := ⟨rfl, rfl, rfl, by decide +kernel, rfl, by decide +kernel, by decide +kernel⟩
theorem sc_many : FnScope ["self"] ["self"] (defScope (inClass (top 32) 3)) := ⟨rfl, rfl, rfl, by decide +kernel, rfl, by decide +kernel, by decide +kernel⟩
def spMany (C : Addr) : Sp := fun vs H Q _ => ∃ (x dx : Addr) (xs ys : List V), vs = [.ref x] ∧ Pg C dx H x xs ys ∧ Q (.int xs.length) H
theorem ok_many {C fK : Addr} {fd : FuncData} (hf : Fun K "many" "Page.many" (inClass (top 32) 3) fK fd) (T : Txt K mg) (c : Cls K C) (n : NoAttr K C "key_row") : FnOk P w K mg base CX0 1 fK fd ["self"] (spMany C) := by
  refine hf.ok sc_many (fun vs H Q E h => ?_) (fun cdv A outer s H vs Q E hr h => ?_)
  · obtain ⟨_, _, _, _, rfl, _⟩ := h
    rfl
  · obtain ⟨x, dx, xs, ys, rfl, ⟨tk, tg, h1, h2, h3⟩, k⟩ := h
    exact ⟨_, (pss_one (ps_ret (pe_callB call_len_seq rfl T.n_len bt_len (pa_c (pe_fld (pv 0) rfl) pa_nil)))), _, rfl, x, C, dx, _, _, rfl, h1, c, n, rfl, tk, xs, rfl, .inr (SqT.of h2), k⟩
theorem ok_beyond {C f fK fG cK fA fM fW : Addr} {fd fdA fdM fdW : FuncData} (hf : Fun K "beyond" "Inner.beyond" (inClass (top 34) 3) fW fdW) (T : Txt K mg) (X : KdN K mg "Inner" "Inner.__init__" (inClass (top 34) 0) C f fd fK fG)
    (mA : Meth K C "child_at" fA) (bA : Binds K fdA ["self", "key"] []) (gA : FnOk P w K mg base (CXo P w) 6 fA fdA ["self", "key"] (spCA K C cK)) (mM : Meth K C "many" fM) (bM : Binds K fdM ["self"] []) (gM : FnOk P w K mg base CX0 1 fM fdM ["self"] (spMany C)) : FnOk P w K mg base (CXo P w) 8 fW fdW ["self", "key"] (spLed K C cK 1) := by
  refine Fun_okX hf sc_beyond (fun vs H Q E h => ?_) (fun cdv A outer s H vs Q E hr h => ?_)
  · obtain ⟨_, _, _, _, _, _, rfl, _⟩ := h
    rfl
  · obtain ⟨x, dx, v, t, ks, ps, rfl, pg, th, b1, b2⟩ := h
    have sc := sc_beyond
    refine' ⟨_, pss_cons (ps_set (i := 2) sc.nd rfl (Or.inl rfl) (pe_meth (pv 0) X.ins.cl mA gA (hr.mono (by decide)) bA .nil outs_def.pass (pa_c (pv 1) pa_nil)))
      (pss_cons (ps_if (pt_cmpR op_eq (pv 2) (pe_meth0 (pv 0) X.ins.cl mM gM (hr.mono (by decide)) bM .nil pass0) (nomark _)) (pss_one (ps_ret pe_non)) pss_nil)
      (pss_one (ps_ret (pe_ix ix_tup (pe_fld (pv 0) rfl) (pe_op op_add (pv 2) pe_int) (fun _ _ => rfl))))), ?_⟩
    obtain ⟨tk, tg, hx, hk, hg⟩ := pg.pg
    refine ⟨_, rfl, x, dx, _, rfl, hx, rfl, _, rfl, x, dx, v, t, ks, ps, rfl, pg, th, fun c1 e H' he S r => err_on he S r fun H2 S2 r2 => b1 c1 e H2 he S2 r2, fun k ek c1 H' S => ?_⟩
    have q := b2 k ek c1 H' S
    have le := cnt_le ks k
    unfold ledOf at q
    rw [if_neg (by decide), if_pos rfl] at q
    refine ⟨_, rfl, _, rfl, x, dx, _, rfl, S _ _ hx, rfl, x, dx, _, _, rfl, (pg.keep S).pg, rfl, _, rfl, ?_⟩
    by_cases c : cnt ks k = ks.length
    · rw [List.getElem?_eq_none (by rw [pg.len]; omega)] at q
      exact iteE (c := true) (decide_eq_true (by rw [List.length_map, c])) (iteT q)
    · have lt : cnt ks k + 1 < ps.length := by rw [pg.len]; omega
      rw [List.getElem?_eq_getElem lt] at q
      refine iteE (c := false) (decide_eq_false fun z => c ?_) (iteF ?_)
      · injection z with z
        rw [List.length_map] at z
        omega
      · exact ⟨_, rfl, x, C, dx, _, _, rfl, S _ _ hx, X.ins.cl, X.n2, rfl, _, rfl, _, _, rfl, rfl, tg, _, _, _, rfl, rfl, SqT.of (S _ _ hg), atI_nat (j := cnt ks k + 1) (by rw [List.getElem?_map, List.getElem?_eq_getElem lt]; rfl), q⟩
theorem ok_separator {C f fK fG cK fA fM fW : Addr} {fd fdA fdM fdW : FuncData} (hf : Fun K "separator" "Inner.separator" (inClass (top 34) 4) fW fdW) (T : Txt K mg) (X : KdN K mg "Inner" "Inner.__init__" (inClass (top 34) 0) C f fd fK fG)
    (mA : Meth K C "child_at" fA) (bA : Binds K fdA ["self", "key"] []) (gA : FnOk P w K mg base (CXo P w) 6 fA fdA ["self", "key"] (spCA K C cK)) (mM : Meth K C "many" fM) (bM : Binds K fdM ["self"] []) (gM : FnOk P w K mg base CX0 1 fM fdM ["self"] (spMany C)) : FnOk P w K mg base (CXo P w) 8 fW fdW ["self", "key"] (spLed K C cK 2) := by
  refine Fun_okX hf sc_separator (fun vs H Q E h => ?_) (fun cdv A outer s H vs Q E hr h => ?_)
  · obtain ⟨_, _, _, _, _, _, rfl, _⟩ := h
    rfl
  · obtain ⟨x, dx, v, t, ks, ps, rfl, pg, th, b1, b2⟩ := h
    have sc := sc_separator
    refine' ⟨_, pss_cons (ps_set (i := 2) sc.nd rfl (Or.inl rfl) (pe_meth (pv 0) X.ins.cl mA gA (hr.mono (by decide)) bA .nil outs_def.pass (pa_c (pv 1) pa_nil)))
      (pss_cons (ps_if (pt_cmpR op_eq (pv 2) (pe_meth0 (pv 0) X.ins.cl mM gM (hr.mono (by decide)) bM .nil pass0) (nomark _)) (pss_one (ps_ret pe_non)) pss_nil)
      (pss_one (ps_ret (pe_ix ix_tup (pe_fld (pv 0) rfl) (pv 2) (fun _ _ => rfl))))), ?_⟩
    obtain ⟨tk, tg, hx, hk, hg⟩ := pg.pg
    refine ⟨_, rfl, x, dx, _, rfl, hx, rfl, _, rfl, x, dx, v, t, ks, ps, rfl, pg, th, fun c1 e H' he S r => err_on he S r fun H2 S2 r2 => b1 c1 e H2 he S2 r2, fun k ek c1 H' S => ?_⟩
    have q := b2 k ek c1 H' S
    have le := cnt_le ks k
    unfold ledOf at q
    rw [if_neg (by decide), if_neg (by decide)] at q
    refine ⟨_, rfl, _, rfl, x, dx, _, rfl, S _ _ hx, rfl, x, dx, _, _, rfl, (pg.keep S).pg, rfl, _, rfl, ?_⟩
    by_cases c : cnt ks k = ks.length
    · rw [List.getElem?_eq_none (by omega)] at q
      exact iteE (c := true) (decide_eq_true (by rw [List.length_map, c])) (iteT q)
    · have lt : cnt ks k < ks.length := by omega
      rw [List.getElem?_eq_getElem lt] at q
      refine iteE (c := false) (decide_eq_false fun z => c ?_) (iteF ?_)
      · injection z with z
        rw [List.length_map] at z
        omega
      · exact ⟨_, rfl, x, C, dx, _, _, rfl, S _ _ hx, X.ins.cl, X.n1, rfl, _, rfl, tk, _, _, _, rfl, rfl, SqT.of (S _ _ hk), atI_nat (by rw [List.getElem?_map, List.getElem?_eq_getElem lt]; rfl), q⟩
end
end K14
set_option Elab.async false
set_option linter.all false
set_option maxRecDepth 100000
set_option maxHeartbeats 1000000
namespace K14
open PySem L2
def insAt (xs : List Int) (j : Nat) (v : Int) : List Int := xs.take j ++ [v] ++ xs.drop j
theorem ins_map (xs : List Int) (j : Nat) (v : Int) : (xs.map V.int).take j ++ [V.int v] ++ (xs.map V.int).drop j = (insAt xs j v).map V.int := by
  unfold insAt
  rw [List.map_append, List.map_append, List.map_take, List.map_drop]
  rfl
theorem ins_len {xs : List Int} {j : Nat} {v : Int} (h : j ≤ xs.length) : (insAt xs j v).length = xs.length + 1 := by
  unfold insAt
  simp only [List.length_append, List.length_take, List.length_cons, List.length_nil, List.length_drop]
  omega
theorem ins_perm (xs : List Int) (j : Nat) (v : Int) : (insAt xs j v).Perm (v :: xs) := by
  unfold insAt
  rw [List.append_assoc]
  refine List.perm_middle.trans ?_
  show (v :: (List.take j xs ++ List.drop j xs)).Perm (v :: xs)
  rw [List.take_append_drop]
theorem cnt_split {ks : List Int} (u : ks.Pairwise (· < ·)) (k : Int) : (∀ z ∈ ks.take (cnt ks k), z ≤ k) ∧ ∀ z ∈ ks.drop (cnt ks k), k < z := by
  induction ks with
  | nil => exact ⟨fun z h => by simp at h, fun z h => by simp at h⟩
  | cons a ks ih =>
    rw [List.pairwise_cons] at u
    have i := ih u.2
    by_cases c : a ≤ k
    · have e : cnt (a :: ks) k = cnt ks k + 1 := by unfold cnt; rw [List.filter_cons_of_pos (by simpa using c), List.length_cons]
      rw [e, List.take_succ_cons, List.drop_succ_cons]
      refine ⟨fun z h => ?_, i.2⟩
      rcases List.mem_cons.mp h with q | q
      · rw [q]; exact c
      · exact i.1 z q
    · have n : ∀ z ∈ ks, ¬ z ≤ k := fun z h => by have := u.1 z h; omega
      have e : cnt (a :: ks) k = 0 := by
        unfold cnt
        rw [List.filter_cons_of_neg (by simpa using c), List.filter_eq_nil_iff.mpr (fun z h => by simpa using n z h)]
        rfl
      rw [e]
      refine ⟨fun z h => by simp at h, fun z h => ?_⟩
      rcases List.mem_cons.mp h with q | q
      · rw [q]; omega
      · have := n z q; omega
theorem ins_up {ks : List Int} (u : Up ks) {k : Int} (b : -999999999 ≤ k ∧ k ≤ 999999999) (n : k ∉ ks) : Up (insAt ks (cnt ks k) k) := by
  obtain ⟨a1, a2⟩ := cnt_split u.1 k
  refine ⟨?_, fun z hz => ?_⟩
  · unfold insAt
    rw [List.pairwise_append, List.pairwise_append]
    refine ⟨⟨u.1.sublist (List.take_sublist _ _), List.pairwise_singleton .., fun x hx y hy => ?_⟩, u.1.sublist (List.drop_sublist _ _), fun x hx y hy => ?_⟩
    · rw [List.mem_singleton.mp hy]
      have := a1 x hx
      have ne : x ≠ k := fun e => n (e ▸ List.mem_of_mem_take hx)
      omega
    · have h2 := a2 y hy
      rcases List.mem_append.mp hx with q | q
      · have := a1 x q; omega
      · rw [List.mem_singleton.mp q]; exact h2
  · rcases List.mem_cons.mp ((ins_perm ks _ k).mem_iff.mp hz) with q | q
    · rw [q]; exact b
    · exact u.2 z q
section
variable {P : Program} {w : World} {K : PySem.W.Frag} {mg : Str → Option Value} {base : Heap}
abbrev s_put_in : Stmt := top 30
theorem sc_put_in : FnScope ["row", "at", "thing"] ["row", "at", "thing"] (defScope s_put_in) := ⟨rfl, rfl, rfl, by decide +kernel, rfl, by decide +kernel, by decide +kernel⟩
def spPut : Sp := fun vs H Q _ => ∃ (a : Addr) (xs : List V) (i : Nat) (v : V), vs = [.ref a, .int i, v] ∧ H a = some (.tup xs) ∧ i ≤ xs.length ∧ xs.length ≤ 1000 ∧ ∀ p H', Same H H' → H' p = some (.tup (xs.take i ++ [v] ++ xs.drop i)) → Q (.ref p) H'
theorem ok_putIn (hd : ∃ f fd, Dn K mg "put_in" "put_in" s_put_in ["row", "at", "thing"] f fd) (T : Txt K mg) : OkD P w K mg base "put_in" s_put_in ["row", "at", "thing"] 1 spPut := by
  obtain ⟨f, fd, D⟩ := hd
  refine ⟨f, fd, D, D.fn.ok sc_put_in (fun vs H Q E h => ?_) (fun cdv A outer s H vs Q E hr h => ?_)⟩
  · obtain ⟨_, _, _, _, rfl, _⟩ := h
    rfl
  · obtain ⟨a, xs, i, v, rfl, ha, hi, hz, k⟩ := h
    have big := big1000
    refine ⟨_, (pss_one (ps_ret (pe_op op_catTT (pe_op op_catTT (pe_slice sl_tupA (pv 0) po_none (po_some (pv 1))) (pe_tup (pa_c (pv 2) pa_nil))) (pe_slice sl_tupA (pv 0) (po_some (pv 1)) po_none)))), ?_⟩
    refine ⟨_, rfl, _, rfl, _, rfl, a, xs, rfl, ha, fun p1 H1 S1 e1 => ?_⟩
    rw [cut_take hi] at e1
    refine ⟨_, rfl, (by show 1 ≤ sizeLine; decide), fun p2 f2 => ?_⟩
    have S2 := Same.upd (o := .tup [v]) f2
    have e2 := upd_same (H := H1) (a := p2) (o := .tup [v])
    replace e1 := S2 _ _ e1
    generalize upd H1 p2 _ = H2 at *
    refine ⟨p1, p2, _, _, rfl, rfl, e1, e2, by rw [List.length_take]; show min i xs.length + 1 ≤ _; omega, fun p3 H3 S3 e3 => ?_⟩
    have S03 := (S1.trans S2).trans S3
    refine ⟨_, rfl, _, rfl, _, rfl, a, xs, rfl, S03 _ _ ha, fun p4 H4 S4 e4 => ?_⟩
    rw [cut_drop hi] at e4
    refine ⟨p3, p4, _, _, rfl, rfl, S4 _ _ e3, e4, ?_, fun p5 H5 S5 e5 => k p5 H5 ((S03.trans S4).trans S5) e5⟩
    simp only [List.length_append, List.length_take, List.length_drop, List.length_cons, List.length_nil]
    omega
theorem sc_wo : FnScope ["self", "key", "at"] ["self", "key"] (defScope (inClass (top 34) 6)) := ⟨rfl, rfl, rfl, by decide +kernel, rfl, by decide +kernel, by decide +kernel⟩
def spWO (K : PySem.W.Frag) (C cK cL : Addr) : Sp := fun vs H Q E => ∃ (x dx : Addr) (v : V) (t : Value) (ks ps : List Int), vs = [.ref x, v] ∧ PgP C dx H x ks ps ∧ Thg K H v t ∧
  (keyV v = false → ∀ e H', H e = none → Same H H' → Err cK "found" v H' e → E (.ref e) none H') ∧
  (∀ k : Int, v = .int k → keyV v = true → k ∉ ks → ∀ e H', H e = none → Same H H' → Err cL "key" v H' e → E (.ref e) none H') ∧
  (∀ (k : Int) (j : Nat), v = .int k → ks[j]? = some k → ∀ H' y dy, Same H H' → H y = none → PgP C dy H' y (ks.eraseIdx j) (ps.eraseIdx (j + 1)) → Q (.ref y) H')
theorem up_er {ks : List Int} (u : Up ks) (j : Nat) : Up (ks.eraseIdx j) := ⟨u.1.sublist (List.eraseIdx_sublist ks j), fun z hz => u.2 z (List.mem_of_mem_eraseIdx hz)⟩
theorem er_map (ks : List Int) (j : Nat) : (ks.map V.int).take j ++ (ks.map V.int).drop (j + 1) = (ks.eraseIdx j).map V.int := by
  rw [List.eraseIdx_eq_take_drop_succ, List.map_append, List.map_take, List.map_drop]
theorem idx_first {ks : List Int} {j : Nat} {k : Int} (u : Up ks) (hj : ks[j]? = some k) : ∀ (m : Nat) (z : V), m < j → (ks.map V.int)[m]? = some z → eqV z (.int k) = false := fun m z hm hz => by
  rw [List.getElem?_map] at hz
  obtain ⟨k', h1, rfl⟩ := Option.map_eq_some_iff.mp hz
  obtain ⟨m1, m2⟩ := List.getElem?_eq_some_iff.mp h1
  obtain ⟨j1, j2⟩ := List.getElem?_eq_some_iff.mp hj
  have := List.pairwise_iff_getElem.mp u.1 m j m1 j1 hm
  rw [m2, j2] at this
  have ne : k' ≠ k := by omega
  simp [eqV, ne]
theorem not_in {k : Int} {ks : List Int} (c : k ∉ ks) : inV (.int k) (ks.map V.int) = false := by
  cases hh : inV (.int k) (ks.map V.int) with
  | false => rfl
  | true => exact absurd (inV_int.mp hh) c
theorem ok_wo {C f fK fG cE cK cL TT fIL fW : Addr} {fd fdL fdW : FuncData} (hf : Fun K "without_child" "Inner.without_child" (inClass (top 34) 6) fW fdW) (T : Txt K mg) (X : KdN K mg "Inner" "Inner.__init__" (inClass (top 34) 0) C f fd fK fG)
    (xL : ErN K mg "Lacks" "Lacks.__init__" (inClass (top 6) 0) "key" cL TT fIL fdL) (h1 : OkX P w K mg base "need_key" s_need_key ["thing"] 4 (spNeed K cK)) (h2 : OkD P w K mg base "left_out" s_left_out ["row", "at"] 1 spLeft)
    (gI : FnOk P w K mg base (CXo P w) 8 f fd ["self", "keys", "goods"] (spMake C cE fun dk dg => PagePlaces dg (lenD dk + 1))) : FnOk P w K mg base (CXo P w) 10 fW fdW ["self", "key"] (spWO K C cK cL) := by
  obtain ⟨f1, fd1, D1, G1⟩ := h1
  obtain ⟨f2, fd2, D2, G2⟩ := h2
  have GL : FnOk P w K mg base CX0 1 fIL fdL ["self", "key"] (spErr cL "key") := ok_Lacks xL
  refine Fun_okX hf sc_wo (fun vs H Q E h => ?_) (fun cdv A outer s H vs Q E hr h => ?_)
  · obtain ⟨_, _, _, _, _, _, rfl, _⟩ := h
    rfl
  · obtain ⟨x, dx, v, t, ks, ps, rfl, pg, th, b1, b2, b3⟩ := h
    have sc := sc_wo
    refine' ⟨_, pss_cons (ps_expr (pe_call G1 (hr.mono (by decide)) rfl D1.m D1.fn.kp D1.b .nil outs_def.pass (pa_c (pv 1) pa_nil)))
      (pss_cons (ps_if (pt_cmpR op_notIn_seq (pv 1) (pe_fld (pv 0) rfl) rfl) (pss_one (ps_raise outs_def rfl (pe_exc xL.f GL (hr.mono (by decide)) rfl xL.mC xL.bi (pa_c (pv 1) pa_nil)))) pss_nil)
      (pss_cons (ps_set (i := 2) sc.nd rfl (Or.inl rfl) (pe_bmT PySem.F.slot_tuple_index PySem.F.type_tuple_index mt_indexT (pe_fld (pv 0) rfl) (pa_c (pv 1) pa_nil)))
      (pss_one (ps_ret (pe_make X.mak gI (hr.mono (by decide)) rfl X.m X.bi .nil outs_def.pass (pa_c (pe_call G2 (hr.mono (by decide)) rfl D2.m D2.fn.kp D2.b .nil pass0 (pa_c (pe_fld (pv 0) rfl) (pa_c (pv 2) pa_nil))) (pa_c (pe_call G2 (hr.mono (by decide)) rfl D2.m D2.fn.kp D2.b .nil pass0 (pa_c (pe_fld (pv 0) rfl) (pa_c (pe_op op_add (pv 2) pe_int) pa_nil))) pa_nil))))))), ?_⟩
    obtain ⟨tk, tg, hx, hk, hg⟩ := pg.pg
    have few := pg.few
    have len := pg.len
    refine ⟨_, rfl, v, t, rfl, th, fun c1 => ?_, fun c1 e H' he S r => err_on he S r fun H2 S2 r2 => b1 c1 e H2 he S2 r2⟩
    obtain ⟨k, rfl, _, _⟩ := keyV_int c1
    refine ⟨_, rfl, _, rfl, x, C, dx, _, _, rfl, hx, X.ins.cl, X.n1, rfl, tk, _, rfl, .inr (SqT.of hk), rfl, flat_ints, _, rfl, ?_⟩
    by_cases cm : k ∈ ks
    · refine iteE (c := false) (by show (!inV (.int k) (ks.map V.int)) = false; rw [inV_int.mpr cm]; rfl) (iteF ?_)
      obtain ⟨j, hj⟩ := List.getElem?_of_mem cm
      have jl : j < ks.length := (List.getElem?_eq_some_iff.mp hj).1
      refine ⟨_, rfl, x, C, dx, _, _, rfl, hx, X.ins.cl, X.n1, rfl, ⟨tk, _, rfl, hk⟩, _, rfl, tk, _, .int k, j, rfl, rfl, hk, rfl, flat_ints, ⟨.int k, by rw [List.getElem?_map, hj]; rfl, by simp [eqV]⟩, idx_first pg.up hj, ?_⟩
      refine ⟨_, rfl, x, C, dx, _, _, rfl, hx, X.ins.cl, X.n1, rfl, _, rfl, tk, _, j, rfl, hk, by rw [List.length_map]; exact jl, by rw [List.length_map]; omega, fun p1 H1 S1 e1 => ?_⟩
      refine ⟨_, rfl, x, C, dx, _, _, rfl, S1 _ _ hx, X.ins.cl, X.n2, rfl, _, rfl, _, _, rfl, rfl, tg, _, j + 1, (by show [V.ref tg, V.int ((j : Int) + 1)] = _; rw [show (j : Int) + 1 = ((j + 1 : Nat) : Int) by omega]), S1 _ _ hg, by rw [List.length_map]; omega, by rw [List.length_map]; omega, fun p2 H2 S2 e2 => ?_⟩
      intro y dy fy fdy nd
      rw [er_map] at e1 e2
      refine make_p (tp := true) (tp' := true) (S2 _ _ e1) e2 (up_er pg.up j) (by rw [List.length_eraseIdx_of_lt jl]; omega) (fun p hp => pg.ok p (List.mem_of_mem_eraseIdx hp)) (pg.nd.sublist (List.eraseIdx_sublist ..)) (by rw [List.length_eraseIdx_of_lt jl, List.length_eraseIdx_of_lt (by omega)]; omega) fy fdy fun H3 S3 pg3 => ⟨rfl, b3 k j rfl hj H3 y dy ((S1.trans S2).trans S3) ((S1.trans S2).free fy) pg3⟩
    · refine iteE (c := true) (by show (!inV (.int k) (ks.map V.int)) = true; rw [not_in cm]; rfl) (iteT ?_)
      exact raise_err xL (v := .int k) (fun R r => ⟨_, rfl, r⟩) fun e H' he S r => b2 k rfl c1 cm e H' he S r
end
end K14
set_option Elab.async false
set_option linter.all false
set_option maxRecDepth 100000
set_option maxHeartbeats 1000000
namespace K14
open PySem L2
section
variable {P : Program} {w : World} {K : PySem.W.Frag} {mg : Str → Option Value} {base : Heap}
theorem sc_wc : FnScope ["self", "key", "place", "at"] ["self", "key", "place"] (defScope (inClass (top 34) 5)) := ⟨rfl, rfl, rfl, by decide +kernel, rfl, by decide +kernel, by decide +kernel⟩
def badP (ps : List Int) (g : V) : Bool := match g with | .int p => !(decide (0 ≤ p)) || decide (p ∈ ps) | _ => true
def spWC (K : PySem.W.Frag) (C cK cP cH cM : Addr) : Sp := fun vs H Q E => ∃ (x dx : Addr) (v g : V) (t t' : Value) (ks ps : List Int), vs = [.ref x, v, g] ∧ PgP C dx H x ks ps ∧ Thg K H v t ∧ Thg K H g t' ∧ (∀ p : Int, g = .int p → p ≤ 999999999999999999999999999999) ∧
  (keyV v = false → ∀ e H', H e = none → Same H H' → Err cK "found" v H' e → E (.ref e) none H') ∧
  (keyV v = true → badP ps g = true → ∀ e H', H e = none → Same H H' → Err cP "found" g H' e → E (.ref e) none H') ∧
  (∀ k : Int, v = .int k → keyV v = true → badP ps g = false → k ∈ ks → ∀ e H', H e = none → Same H H' → Err cH "key" v H' e → E (.ref e) none H') ∧
  (∀ k : Int, v = .int k → keyV v = true → badP ps g = false → k ∉ ks → ks.length = 6 → ∀ e H', H e = none → Same H H' → Err cM "count" (.int 7) H' e → E (.ref e) none H') ∧
  (∀ k p : Int, v = .int k → g = .int p → keyV v = true → badP ps g = false → k ∉ ks → ks.length ≠ 6 → ∀ H' y dy, Same H H' → H y = none → PgP C dy H' y (insAt ks (cnt ks k) k) (insAt ps (cnt ks k + 1) p) → Q (.ref y) H')
theorem ok_wc {C f fK fG cE cK cP cH cM TT fIP fIH fIM fA fN fW : Addr} {fd fdP fdH fdM fdA fdN fdW : FuncData} (hf : Fun K "with_child" "Inner.with_child" (inClass (top 34) 5) fW fdW) (T : Txt K mg) (X : KdN K mg "Inner" "Inner.__init__" (inClass (top 34) 0) C f fd fK fG)
    (xP : ErN K mg "NoPlace" "NoPlace.__init__" (inClass (top 5) 0) "found" cP TT fIP fdP) (xH : ErN K mg "Has" "Has.__init__" (inClass (top 7) 0) "key" cH TT fIH fdH) (xM : ErN K mg "TooMany" "TooMany.__init__" (inClass (top 8) 0) "count" cM TT fIM fdM)
    (h1 : OkX P w K mg base "need_key" s_need_key ["thing"] 4 (spNeed K cK)) (h2 : OkD P w K mg base "put_in" s_put_in ["row", "at", "thing"] 1 spPut) (h3 : OkD P w K mg base "is_place" s_is_place ["thing"] 2 (spIsP K))
    (mA : Meth K C "child_at" fA) (bA : Binds K fdA ["self", "key"] []) (gA : FnOk P w K mg base (CXo P w) 6 fA fdA ["self", "key"] (spCA K C cK)) (mN : Meth K C "many" fN) (bN : Binds K fdN ["self"] []) (gN : FnOk P w K mg base CX0 1 fN fdN ["self"] (spMany C))
    (gI : FnOk P w K mg base (CXo P w) 8 f fd ["self", "keys", "goods"] (spMake C cE fun dk dg => PagePlaces dg (lenD dk + 1))) : FnOk P w K mg base (CXo P w) 10 fW fdW ["self", "key", "place"] (spWC K C cK cP cH cM) := by
  obtain ⟨f1, fd1, D1, G1⟩ := h1
  obtain ⟨f2, fd2, D2, G2⟩ := h2
  obtain ⟨f3, fd3, D3, G3⟩ := h3
  obtain ⟨tm, cm⟩ := T.c_most
  have GP : FnOk P w K mg base CX0 1 fIP fdP ["self", "found"] (spErr cP "found") := ok_NoPlace xP
  have GH : FnOk P w K mg base CX0 1 fIH fdH ["self", "key"] (spErr cH "key") := ok_Has xH
  have GM : FnOk P w K mg base CX0 1 fIM fdM ["self", "count"] (spErr cM "count") := ok_TooMany xM
  refine Fun_okX hf sc_wc (fun vs H Q E h => ?_) (fun cdv A outer s H vs Q E hr h => ?_)
  · obtain ⟨_, _, _, _, _, _, _, _, rfl, _⟩ := h
    rfl
  · obtain ⟨x, dx, v, g, t, t', ks, ps, rfl, pg, th, th', gb, b1, b2, b3, b4, b5⟩ := h
    have sc := sc_wc
    refine' ⟨_, pss_cons (ps_expr (pe_call G1 (hr.mono (by decide)) rfl D1.m D1.fn.kp D1.b .nil outs_def.pass (pa_c (pv 1) pa_nil)))
      (pss_cons (ps_if (PW.pt (pw_or (pt_not (pt_val (pe_call G3 (hr.mono (by decide)) rfl D3.m D3.fn.kp D3.b .nil pass0 (pa_c (pv 2) pa_nil)))) (pw_or1 (pt_cmpR op_in_seq (pv 2) (pe_fld (pv 0) rfl) rfl)))) (pss_one (ps_raise outs_def rfl (pe_exc xP.f GP (hr.mono (by decide)) rfl xP.mC xP.bi (pa_c (pv 2) pa_nil)))) pss_nil)
      (pss_cons (ps_if (pt_cmpR op_in_seq (pv 1) (pe_fld (pv 0) rfl) rfl) (pss_one (ps_raise outs_def rfl (pe_exc xH.f GH (hr.mono (by decide)) rfl xH.mC xH.bi (pa_c (pv 1) pa_nil)))) pss_nil)
      (pss_cons (ps_if (pt_cmpR op_eq (pe_meth0 (pv 0) X.ins.cl mN gN (hr.mono (by decide)) bN .nil pass0) (pe_glob (v := .int 6) rfl cm ⟨tm, rfl⟩) (nomark _)) (pss_one (ps_raise outs_def rfl (pe_exc xM.f GM (hr.mono (by decide)) rfl xM.mC xM.bi (pa_c (pe_op op_add (pe_glob (v := .int 6) rfl cm ⟨tm, rfl⟩) pe_int) pa_nil)))) pss_nil)
      (pss_cons (ps_set (i := 3) sc.nd rfl (Or.inl rfl) (pe_meth (pv 0) X.ins.cl mA gA (hr.mono (by decide)) bA .nil outs_def.pass (pa_c (pv 1) pa_nil)))
      (pss_one (ps_ret (pe_make X.mak gI (hr.mono (by decide)) rfl X.m X.bi .nil outs_def.pass (pa_c (pe_call G2 (hr.mono (by decide)) rfl D2.m D2.fn.kp D2.b .nil pass0 (pa_c (pe_fld (pv 0) rfl) (pa_c (pv 3) (pa_c (pv 1) pa_nil)))) (pa_c (pe_call G2 (hr.mono (by decide)) rfl D2.m D2.fn.kp D2.b .nil pass0 (pa_c (pe_fld (pv 0) rfl) (pa_c (pe_op op_add (pv 3) pe_int) (pa_c (pv 2) pa_nil)))) pa_nil))))))))), ?_⟩
    obtain ⟨tk, tg, hx, hk, hg⟩ := pg.pg
    have few := pg.few
    have len := pg.len
    refine ⟨_, rfl, v, t, rfl, th, fun c1 => ?_, fun c1 e H' he S r => err_on he S r fun H2 S2 r2 => b1 c1 e H2 he S2 r2⟩
    obtain ⟨k, rfl, kl, kh⟩ := keyV_int c1
    refine ⟨_, rfl, g, t', rfl, th', _, rfl, ?_⟩
    cases cp : placeV g with
    | false =>
      have bd : badP ps g = true := by
        cases g with
        | int p =>
          have c : decide (0 ≤ p) = false := cp
          show (!(decide (0 ≤ p)) || decide (p ∈ ps)) = true
          rw [c]
          rfl
        | _ => rfl
      exact iteT (iteT (raise_err xP (v := g) (fun R r => ⟨_, rfl, r⟩) fun e H' he S r => b2 c1 bd e H' he S r))
    | true =>
      obtain ⟨p, rfl⟩ : ∃ p : Int, g = .int p := by
        cases g with
        | int p => exact ⟨p, rfl⟩
        | _ => cases cp
      have p0 : 0 ≤ p := of_decide_eq_true cp
      refine iteF ⟨_, rfl, _, rfl, x, C, dx, _, _, rfl, hx, X.ins.cl, X.n2, rfl, tg, _, rfl, .inr (SqT.of hg), rfl, flat_ints, _, rfl, ?_⟩
      by_cases ci : p ∈ ps
      · have bd : badP ps (.int p) = true := by
          show (!(decide (0 ≤ p)) || decide (p ∈ ps)) = true
          rw [decide_eq_true ci, Bool.or_true]
        exact iteE (c := true) (inV_int.mpr ci) (iteT (raise_err xP (v := .int p) (fun R r => ⟨_, rfl, r⟩) fun e H' he S r => b2 c1 bd e H' he S r))
      · have bd : badP ps (.int p) = false := by
          show (!(decide (0 ≤ p)) || decide (p ∈ ps)) = false
          rw [decide_eq_false ci, decide_eq_true p0]
          rfl
        refine iteE (c := false) (not_in ci) (iteF ?_)
        refine ⟨_, rfl, _, rfl, x, C, dx, _, _, rfl, hx, X.ins.cl, X.n1, rfl, tk, _, rfl, .inr (SqT.of hk), rfl, flat_ints, _, rfl, ?_⟩
        by_cases ck : k ∈ ks
        · exact iteE (c := true) (inV_int.mpr ck) (iteT (raise_err xH (v := .int k) (fun R r => ⟨_, rfl, r⟩) fun e H' he S r => b3 k rfl c1 bd ck e H' he S r))
        · refine iteE (c := false) (not_in ck) (iteF ?_)
          refine ⟨_, rfl, x, dx, _, rfl, hx, rfl, x, dx, _, _, rfl, pg.pg, rfl, _, rfl, ?_⟩
          by_cases c6 : ks.length = 6
          · exact iteE (c := true) (decide_eq_true (by rw [List.length_map, c6]; rfl)) (iteT (raise_err xM (v := .int 7) (fun R r => ⟨_, _, rfl, rfl, r⟩) fun e H' he S r => b4 k rfl c1 bd ck c6 e H' he S r))
          · refine iteE (c := false) (decide_eq_false fun z => c6 ?_) (iteF ?_)
            · injection z with z
              rw [List.length_map] at z
              omega
            refine ⟨_, rfl, x, dx, _, rfl, hx, rfl, _, rfl, x, dx, .int k, t, ks, ps, rfl, pg, th, (fun c => by rw [c1] at c; cases c), fun k' ek _ H1 S1 => ?_⟩
            cases ek
            have le := cnt_le ks k
            refine ⟨_, rfl, x, C, dx, _, _, rfl, S1 _ _ hx, X.ins.cl, X.n1, rfl, _, rfl, _, rfl, tk, _, cnt ks k, .int k, rfl, S1 _ _ hk, by rw [List.length_map]; exact le, by rw [List.length_map]; omega, fun p1 H2 S2 e2 => ?_⟩
            have S02 := S1.trans S2
            refine ⟨_, rfl, x, C, dx, _, _, rfl, S02 _ _ hx, X.ins.cl, X.n2, rfl, _, rfl, _, _, rfl, rfl, _, rfl, tg, _, cnt ks k + 1, .int p, (by show [V.ref tg, V.int ((cnt ks k : Int) + 1), V.int p] = _; rw [show (cnt ks k : Int) + 1 = ((cnt ks k + 1 : Nat) : Int) by omega]), S02 _ _ hg, by rw [List.length_map]; omega, by rw [List.length_map]; omega, fun p2 H3 S3 e3 => ?_⟩
            rw [ins_map] at e2 e3
            intro y dy fy fdy nd
            have S03 := S02.trans S3
            refine make_p (tp := true) (tp' := true) (S3 _ _ e2) e3 (ins_up pg.up ⟨kl, kh⟩ ck) (by rw [ins_len le]; omega) (fun q hq => ?_) ((ins_perm ..).nodup_iff.mpr (List.nodup_cons.mpr ⟨ci, pg.nd⟩)) (by rw [ins_len le, ins_len (by omega)]; omega) fy fdy fun H4 S4 pg4 => ⟨rfl, b5 k p rfl rfl c1 bd ck c6 H4 y dy (S03.trans S4) (S03.free fy) pg4⟩
            rcases List.mem_cons.mp ((ins_perm ..).mem_iff.mp hq) with e | e
            · rw [e]; exact ⟨p0, gb p rfl⟩
            · exact pg.ok q e
end
end K14
set_option Elab.async false
set_option linter.all false
set_option maxRecDepth 100000
set_option maxHeartbeats 1000000
namespace K14
open PySem L2
structure ErrApart (K : PySem.W.Frag) (cK cP cH cM cL : Addr) : Prop where
  pk : PySem.W.mroIn K cP (.ref cK) = some false
  hk : PySem.W.mroIn K cH (.ref cK) = some false
  hp : PySem.W.mroIn K cH (.ref cP) = some false
  mkk : PySem.W.mroIn K cM (.ref cK) = some false
  mp : PySem.W.mroIn K cM (.ref cP) = some false
  mh : PySem.W.mroIn K cM (.ref cH) = some false
  lk : PySem.W.mroIn K cL (.ref cK) = some false
  lp : PySem.W.mroIn K cL (.ref cP) = some false
  lh : PySem.W.mroIn K cL (.ref cH) = some false
  lm : PySem.W.mroIn K cL (.ref cM) = some false
abbrev du (w : Str) (v : V) : Option (Str × V) := some (w, v)
def dueOf (ks ps : List Int) (wd : Str) (v g : V) : Option (Str × V) :=
  if keyV v = true then
    (match v with
    | .int k =>
      if wd = "without" then (if k ∈ ks then none else du "lacks" v)
      else if badP ps g = true then du "place" g else if k ∈ ks then du "has" v else if ks.length = 6 then du "many" (.int 7) else none
    | v => du "key" v)
  else du "key" v
theorem with_ne : ("with" : Str) ≠ "without" := by decide +kernel
theorem due_key {ks ps : List Int} {wd : Str} {v g : V} (h : keyV v = false) : dueOf ks ps wd v g = du "key" v := by
  unfold dueOf; rw [if_neg (by rw [h]; exact Bool.false_ne_true)]
theorem due_lacks {ks ps : List Int} {k : Int} {g : V} (h : keyV (.int k) = true) (n : k ∉ ks) : dueOf ks ps "without" (.int k) g = du "lacks" (.int k) := by
  unfold dueOf; rw [if_pos h]; dsimp only; rw [if_pos rfl, if_neg n]
theorem due_without {ks ps : List Int} {k : Int} {g : V} (h : keyV (.int k) = true) (n : k ∈ ks) : dueOf ks ps "without" (.int k) g = none := by
  unfold dueOf; rw [if_pos h]; dsimp only; rw [if_pos rfl, if_pos n]
theorem due_place {ks ps : List Int} {v g : V} (h : keyV v = true) (b : badP ps g = true) : dueOf ks ps "with" v g = du "place" g := by
  obtain ⟨k, rfl, _⟩ := keyV_int h
  unfold dueOf; rw [if_pos h]; dsimp only; rw [if_neg with_ne, if_pos b]
theorem due_has {ks ps : List Int} {k : Int} {g : V} (h : keyV (.int k) = true) (b : badP ps g = false) (c : k ∈ ks) : dueOf ks ps "with" (.int k) g = du "has" (.int k) := by
  unfold dueOf; rw [if_pos h]; dsimp only; rw [if_neg with_ne, if_neg (by rw [b]; exact Bool.false_ne_true), if_pos c]
theorem due_many {ks ps : List Int} {k : Int} {g : V} (h : keyV (.int k) = true) (b : badP ps g = false) (c : k ∉ ks) (l : ks.length = 6) : dueOf ks ps "with" (.int k) g = du "many" (.int 7) := by
  unfold dueOf; rw [if_pos h]; dsimp only; rw [if_neg with_ne, if_neg (by rw [b]; exact Bool.false_ne_true), if_neg c, if_pos l]
theorem due_with {ks ps : List Int} {k : Int} {g : V} (h : keyV (.int k) = true) (b : badP ps g = false) (c : k ∉ ks) (l : ks.length ≠ 6) : dueOf ks ps "with" (.int k) g = none := by
  unfold dueOf; rw [if_pos h]; dsimp only; rw [if_neg with_ne, if_neg (by rw [b]; exact Bool.false_ne_true), if_neg c, if_neg l]
def Done (ks ps : List Int) (wd : Str) (v g : V) (ks' ps' : List Int) : Prop :=
  (wd = "with" ∧ ∃ k p : Int, v = .int k ∧ g = .int p ∧ k ∉ ks ∧ ks' = insAt ks (cnt ks k) k ∧ ps' = insAt ps (cnt ks k + 1) p) ∨ (wd = "without" ∧ ∃ (k : Int) (j : Nat), v = .int k ∧ ks[j]? = some k ∧ ks' = ks.eraseIdx j ∧ ps' = ps.eraseIdx (j + 1))
section
variable {P : Program} {w : World} {K : PySem.W.Frag} {mg : Str → Option Value} {base : Heap}
abbrev s__law_told : Stmt := top 45
theorem sc__law_told : FnScope ["_law_page", "_law_word", "_law_key", "_law_place", "e"] ["_law_page", "_law_word", "_law_key", "_law_place"] (defScope s__law_told) := ⟨rfl, rfl, rfl, by decide +kernel, rfl, by decide +kernel, by decide +kernel⟩
def spTold (K : PySem.W.Frag) (C : Addr) : Sp := fun vs H Q _ => ∃ (x dx : Addr) (wd : Str) (v g : V) (t t' : Value) (ks ps : List Int), vs = [.ref x, .str wd, v, g] ∧ (wd = "with" ∨ wd = "without") ∧ PgP C dx H x ks ps ∧ Thg K H v t ∧ Thg K H g t' ∧ (∀ p : Int, g = .int p → p ≤ 999999999999999999999999999999) ∧
  (∀ wu u, dueOf ks ps wd v g = some (wu, u) → ∀ l H', H l = none → Same H H' → H' l = some (.lst [.str wu, u]) → Q (.ref l) H') ∧
  (dueOf ks ps wd v g = none → ∀ l H' y dy ks' ps', H l = none → Same H H' → H' l = some (.lst [.str "page", .ref y]) → PgP C dy H' y ks' ps' → Done ks ps wd v g ks' ps' → Q (.ref l) H')
theorem ok_told {C f fK fG cK cP cH cM cL TT fW fO fI1 fI2 fI3 fI4 fI5 : Addr} {fd fdW fdO fd1 fd2 fd3 fd4 fd5 : FuncData} (hd : ∃ f fd, Dn K mg "_law_told" "_law_told" s__law_told ["_law_page", "_law_word", "_law_key", "_law_place"] f fd) (T : Txt K mg) (X : KdN K mg "Inner" "Inner.__init__" (inClass (top 34) 0) C f fd fK fG)
    (xK : ErN K mg "NoKey" "NoKey.__init__" (inClass (top 3) 0) "found" cK TT fI1 fd1) (xP : ErN K mg "NoPlace" "NoPlace.__init__" (inClass (top 5) 0) "found" cP TT fI2 fd2) (xH : ErN K mg "Has" "Has.__init__" (inClass (top 7) 0) "key" cH TT fI3 fd3) (xM : ErN K mg "TooMany" "TooMany.__init__" (inClass (top 8) 0) "count" cM TT fI4 fd4) (xL : ErN K mg "Lacks" "Lacks.__init__" (inClass (top 6) 0) "key" cL TT fI5 fd5) (xT : ExM K TT) (ap : ErrApart K cK cP cH cM cL)
    (mW : Meth K C "with_child" fW) (mO : Meth K C "without_child" fO) (bW : Binds K fdW ["self", "key", "place"] []) (bO : Binds K fdO ["self", "key"] [])
    (gW : FnOk P w K mg base (CXo P w) 10 fW fdW ["self", "key", "place"] (spWC K C cK cP cH cM)) (gO : FnOk P w K mg base (CXo P w) 10 fO fdO ["self", "key"] (spWO K C cK cL)) :
    OkD P w K mg base "_law_told" s__law_told ["_law_page", "_law_word", "_law_key", "_law_place"] 12 (spTold K C) := by
  obtain ⟨f', fd', D⟩ := hd
  refine ⟨f', fd', D, D.fn.ok sc__law_told (fun vs H Q E h => ?_) (fun cdv A outer s H vs Q E hr h => ?_)⟩
  · obtain ⟨_, _, _, _, _, _, _, _, _, rfl, _⟩ := h
    rfl
  · obtain ⟨x, dx, wd, v, g, t, t', ks, ps, rfl, hwd, pg, th, th', gb, q1, q2⟩ := h
    have sc := sc__law_told
    refine' ⟨_, pss_one (ps_try rfl rfl ?b0
      (phs_as (i := 4) (tb := tRet (tLst (tCons (tC (.str "key")) (tCons (tExFld K (tVar 4) "found") tNil)))) xK.xC rfl xK.mC sc.nd rfl rfl rfl ?s1
      (phs_as (i := 4) (tb := tRet (tLst (tCons (tC (.str "place")) (tCons (tExFld K (tVar 4) "found") tNil)))) xP.xC rfl xP.mC sc.nd rfl rfl rfl ?s2
      (phs_as (i := 4) (tb := tRet (tLst (tCons (tC (.str "has")) (tCons (tExFld K (tVar 4) "key") tNil)))) xH.xC rfl xH.mC sc.nd rfl rfl rfl ?s3
      (phs_as (i := 4) (tb := tRet (tLst (tCons (tC (.str "many")) (tCons (tExFld K (tVar 4) "count") tNil)))) xM.xC rfl xM.mC sc.nd rfl rfl rfl ?s4
      (phs_as (i := 4) (tb := tRet (tLst (tCons (tC (.str "lacks")) (tCons (tExFld K (tVar 4) "key") tNil)))) xL.xC rfl xL.mC sc.nd rfl rfl rfl ?s5
      (phs_plain xT rfl xK.mT ?s6 phs_nil))))))), ?_⟩
    case s1 => exact fun e => pss_one (ps_ret (pe_lst (pa_c pe_str (pa_c (pe_exfld (pv 4) rfl) pa_nil))))
    case s2 => exact fun e => pss_one (ps_ret (pe_lst (pa_c pe_str (pa_c (pe_exfld (pv 4) rfl) pa_nil))))
    case s3 => exact fun e => pss_one (ps_ret (pe_lst (pa_c pe_str (pa_c (pe_exfld (pv 4) rfl) pa_nil))))
    case s4 => exact fun e => pss_one (ps_ret (pe_lst (pa_c pe_str (pa_c (pe_exfld (pv 4) rfl) pa_nil))))
    case s5 => exact fun e => pss_one (ps_ret (pe_lst (pa_c pe_str (pa_c (pe_exfld (pv 4) rfl) pa_nil))))
    case s6 => exact fun e => pss_one (ps_ret (pe_lst (pa_c pe_str (pa_c pe_non pa_nil))))
    case b0 => exact (fun E ps xe hp => pss_cons (ps_if (pt_cmpR op_eq (pv 1) pe_str (nomark _)) (pss_one (ps_ret (pe_lst (pa_c pe_str (pa_c (pe_meth (pv 0) X.ins.cl mW gW (hr.mono (by decide)) bW .nil hp (pa_c (pv 2) (pa_c (pv 3) pa_nil))) pa_nil))))) pss_nil)
        (pss_one (ps_ret (pe_lst (pa_c pe_str (pa_c (pe_meth (pv 0) X.ins.cl mO gO (hr.mono (by decide)) bO .nil hp (pa_c (pv 2) pa_nil)) pa_nil))))))
    obtain ⟨tk, tg, hx, hk, hg⟩ := pg.pg
    refine ⟨_, rfl, rfl, _, rfl, ?_⟩
    rcases hwd with rfl | rfl
    · refine iteE (c := true) (decide_eq_true rfl) (iteT ?_)
      refine ⟨_, rfl, x, dx, _, rfl, hx, rfl, _, rfl, _, rfl, x, dx, v, g, t, t', ks, ps, rfl, pg, th, th', gb, ?_, ?_, ?_, ?_, ?_⟩
      · exact fun c e H' he S r => caught_of he S r fun σ hσ dx ar b H2 S2 h1 h2 => th_hit xK (by rw [hσ]; show 4 < 5; decide) S2 h1 h2 fun l H3 S3 fl el => q1 _ _ (due_key c) l H3 fl S3 el
      · exact fun c c2 e H' he S r => caught_of he S r fun σ hσ dx ar b H2 S2 h1 h2 => th_skip ap.pk (th_hit xP (by rw [hσ]; show 4 < 5; decide) S2 h1 h2 fun l H3 S3 fl el => q1 _ _ (due_place c c2) l H3 fl S3 el)
      · rintro k rfl c c2 c3 e H' he S r
        exact caught_of he S r fun σ hσ dx ar b H2 S2 h1 h2 => th_skip ap.hk (th_skip ap.hp (th_hit xH (by rw [hσ]; show 4 < 5; decide) S2 h1 h2 fun l H3 S3 fl el => q1 _ _ (due_has c c2 c3) l H3 fl S3 el))
      · rintro k rfl c c2 c3 c4 e H' he S r
        exact caught_of he S r fun σ hσ dx ar b H2 S2 h1 h2 => th_skip ap.mkk (th_skip ap.mp (th_skip ap.mh (th_hit xM (by rw [hσ]; show 4 < 5; decide) S2 h1 h2 fun l H3 S3 fl el => q1 _ _ (due_many c c2 c3 c4) l H3 fl S3 el)))
      · rintro k p rfl rfl c c2 c3 c4 H' y dy S fy pg'
        exact ⟨(by show 2 ≤ sizeLine; decide), fun l fl => q2 (due_with c c2 c3 c4) l _ y dy _ _ (S.free fl) (S.trans (Same.upd fl)) upd_same (pg'.keep (Same.upd fl)) (.inl ⟨rfl, k, p, rfl, rfl, c3, rfl, rfl⟩)⟩
    · refine iteE (c := false) (by decide +kernel) (iteF ?_)
      refine ⟨_, rfl, x, dx, _, rfl, hx, rfl, _, rfl, x, dx, v, t, ks, ps, rfl, pg, th, ?_, ?_, ?_⟩
      · exact fun c e H' he S r => caught_of he S r fun σ hσ dx ar b H2 S2 h1 h2 => th_hit xK (by rw [hσ]; show 4 < 5; decide) S2 h1 h2 fun l H3 S3 fl el => q1 _ _ (due_key c) l H3 fl S3 el
      · rintro k rfl c c2 e H' he S r
        exact caught_of he S r fun σ hσ dx ar b H2 S2 h1 h2 => th_skip ap.lk (th_skip ap.lp (th_skip ap.lh (th_skip ap.lm (th_hit xL (by rw [hσ]; show 4 < 5; decide) S2 h1 h2 fun l H3 S3 fl el => q1 _ _ (due_lacks c c2) l H3 fl S3 el))))
      · rintro k j rfl hj H' y dy S fy pg'
        have m := List.mem_of_getElem? hj
        have b := pg.up.2 k m
        have hc : keyV (.int k) = true := by
          show (decide (-999999999 ≤ k) && decide (k ≤ 999999999)) = true
          rw [decide_eq_true b.1, decide_eq_true b.2]
          rfl
        exact ⟨(by show 2 ≤ sizeLine; decide), fun l fl => q2 (due_without hc m) l _ y dy _ _ (S.free fl) (S.trans (Same.upd fl)) upd_same (pg'.keep (Same.upd fl)) (.inr ⟨rfl, k, j, rfl, hj, rfl, rfl⟩)⟩
end
end K14
set_option Elab.async false
set_option linter.all false
set_option maxRecDepth 100000
set_option maxHeartbeats 1000000
namespace K14
open PySem L2
def More (d d' : PyData) : Prop := d' = d ∨ ∃ es, d = .list es ∧ d' = .list (es ++ [.str "more"])
theorem isL_list {N : Addr → Prop} {H : Hp} {v : V} {d : PyData} (x : DV N H v d) (h : isL d = true) : ∃ a xs ds, v = .ref a ∧ d = .list ds ∧ ¬ N a ∧ H a = some (.lst xs) ∧ DVs N H xs ds := by
  cases x with
  | lst na e r => exact ⟨_, _, _, rfl, rfl, na, e, r⟩
  | _ => cases h
theorem many_few {ds : List PyData} : ds.length ≤ PyData.weightAll ds := by
  induction ds with
  | nil => simp
  | cons y ys ih => simp only [List.length_cons, PyData.weightAll]; omega
section
variable {P : Program} {w : World} {K : PySem.W.Frag} {mg : Str → Option Value} {base : Heap}
abbrev s__law_is_due : Stmt := top 54
theorem sc__law_is_due : FnScope ["_law_found", "_law_due_here"] ["_law_found", "_law_due_here"] (defScope s__law_is_due) := ⟨rfl, rfl, rfl, by decide +kernel, rfl, by decide +kernel, by decide +kernel⟩
def spIsDue : Sp := fun vs H Q _ => ∃ (N : Addr → Prop) (lf ld : Addr) (wd : Str) (v : V) (d : PyData), vs = [.ref lf, .ref ld] ∧ H lf = some (.lst [.str wd, v]) ∧ H ld = some (.lst [.str wd, v]) ∧ v ≠ .ref lf ∧ v ≠ .ref ld ∧ DV N H v d ∧ Small d ∧ (PyData.str wd).leavesShort 40 = true ∧ wd.cps.size ≤ 100 ∧
  ∀ H' d', (∀ b o, H b = some o → v ≠ .ref b → H' b = some o) → DV N H' v d' → More d d' → Q (.bl true) H'
theorem ok_isdue (hd : ∃ f fd, Dn K mg "_law_is_due" "_law_is_due" s__law_is_due ["_law_found", "_law_due_here"] f fd) (T : Txt K mg) : OkD P w K mg base "_law_is_due" s__law_is_due ["_law_found", "_law_due_here"] 1 spIsDue := by
  obtain ⟨f, fd, D⟩ := hd
  refine ⟨f, fd, D, D.fn.ok sc__law_is_due (fun vs H Q E h => ?_) (fun cdv A outer s H vs Q E hr h => ?_)⟩
  · obtain ⟨_, _, _, _, _, _, rfl, _⟩ := h
    rfl
  · obtain ⟨N, lf, ld, wd, v, d, rfl, hf, hd, nf, nd, tv, ts, hw, hl, k⟩ := h
    have sc := sc__law_is_due
    have F0 : ∀ {H' : Hp} {v : V} {d : PyData} {l : Addr}, DV (fun _ => False) H' v d → H' l = some (.lst [.str wd, v]) → DV (fun _ => False) H' (.ref l) (.list [.str wd, d]) := fun dv e => .lst (fun z => z) e (.cons (.str _) (.cons dv .nil))
    have off : ∀ {H' : Hp} {v : V} {d : PyData}, DV N H' v d → DV (fun _ => False) H' v d := fun x => x.keep (fun _ _ _ z => z) fun _ z => z.elim
    have ok1 := okd_pair hw hl ts.ok ts.dp
    refine' ⟨_, (pss_cons (ps_if (pt_cmpR op_ne (pe_callB (call_reprD hr.gd hr.units) rfl T.n_repr bt_repr (pa_c (pv 0) pa_nil)) (pe_callB (call_reprD hr.gd hr.units) rfl T.n_repr bt_repr (pa_c (pv 1) pa_nil)) (nomark _))
      (pss_one (ps_ret pe_bl))
      pss_nil)
    (pss_cons (ps_if (pt_val (pe_callB call_inst rfl T.n_isinstance bt_isinstance (pa_c (pe_ix ix_list (pv 1) pe_int (fun _ _ => rfl)) (pa_c (pe_bltn (v := .ty "list") rfl T.n_list bt_list rfl) pa_nil))))
      (pss_one (ps_expr (pe_bm PySem.F.plainAttrs_list PySem.F.slot_list_append PySem.F.type_list_append mt_append (pe_ix ix_list (pv 1) pe_int (fun _ _ => rfl)) (pa_c pe_str pa_nil))))
      pss_nil)
    (pss_one (ps_ret (pe_cmpR op_eq (pe_callB (call_reprD hr.gd hr.units) rfl T.n_repr bt_repr (pa_c (pv 0) pa_nil)) (pe_callB (call_reprD hr.gd hr.units) rfl T.n_repr bt_repr (pa_c (pv 1) pa_nil)) (nomark _)))))), ?_⟩
    refine ⟨_, rfl, _, _, _, rfl, F0 (off tv) hf, ok1, _, rfl, _, _, _, rfl, F0 (off tv) hd, ok1, rfl, _, rfl, iteE (c := false) (by rw [decide_eq_true rfl]; rfl) (iteF ?_)⟩
    refine ⟨_, rfl, _, _, _, _, rfl, rfl, SqL.of hd, rfl, v, _, tyD d, _, rfl, tv.thg, .inl ⟨_, rfl, inst_lst tv⟩, _, rfl, ?_⟩
    cases hL : isL d with
    | false =>
      refine iteF ⟨_, rfl, _, _, _, rfl, F0 (off tv) hf, ok1, _, rfl, _, _, _, rfl, F0 (off tv) hd, ok1, rfl, ?_⟩
      rw [decide_eq_true rfl]
      exact k H d (fun b o z _ => z) tv (.inl rfl)
    | true =>
      obtain ⟨a, xs, ds, rfl, rfl, na, ha, rx⟩ := isL_list tv hL
      have av := DVs.avoid tv rx (by simp only [PyData.depth]; omega)
      have lz : xs.length < sizeLine := by
        have l := rx.length
        have wt := ts.ok.wt
        have := many_few (ds := ds)
        simp only [PyData.weight] at wt
        have := big1000
        omega
      have n1 : lf ≠ a := fun e => nf (by rw [e])
      have n2 : ld ≠ a := fun e => nd (by rw [e])
      refine iteT ⟨_, rfl, _, _, _, _, rfl, rfl, SqL.of hd, rfl, .inl ⟨rfl, xs, SqL.of ha⟩, a, xs, _, rfl, rfl, ha, lz, ?_⟩
      have dv6 : DV N (upd H a (.lst (xs ++ [.str "more"]))) (.ref a) (.list (ds ++ [.str "more"])) := .lst na upd_same (DVs.append (av.keep (fun b o nb z => by rw [upd_ne (fun e => nb (.inr e))]; exact z) (fun b z => .inl z)) (.cons (.str _) .nil))
      have hf6 : upd H a (.lst (xs ++ [.str "more"])) lf = some (.lst [.str wd, .ref a]) := by rw [upd_ne n1]; exact hf
      have hd6 : upd H a (.lst (xs ++ [.str "more"])) ld = some (.lst [.str wd, .ref a]) := by rw [upd_ne n2]; exact hd
      have ok6 := okd_pair2 hw hl ts.ok ts.dp
      refine ⟨_, rfl, _, _, _, rfl, F0 (off dv6) hf6, ok6, _, rfl, _, _, _, rfl, F0 (off dv6) hd6, ok6, rfl, ?_⟩
      rw [decide_eq_true rfl]
      exact k _ _ (fun b o z n => by rw [upd_ne (fun e => n (by rw [e]))]; exact z) dv6 (.inr ⟨ds, rfl, rfl⟩)
abbrev s__law_due : Stmt := top 44
theorem sc__law_due : FnScope ["_law_rows", "_law_word", "_law_key", "_law_place", "_law_keys_here", "_law_places_here"] ["_law_rows", "_law_word", "_law_key", "_law_place"] (defScope s__law_due) := ⟨rfl, rfl, rfl, by decide +kernel, rfl, by decide +kernel, by decide +kernel⟩
def spDue (K : PySem.W.Frag) : Sp := fun vs H Q _ => ∃ (r lk lp : Addr) (ks ps : List Int) (wd : Str) (v g : V) (t t' : Value), vs = [.ref r, .str wd, v, g] ∧ H r = some (.lst [.ref lk, .ref lp]) ∧ H lk = some (.lst (ks.map V.int)) ∧ H lp = some (.lst (ps.map V.int)) ∧ (wd = "with" ∨ wd = "without") ∧ Thg K H v t ∧ Thg K H g t' ∧ (∀ p : Int, g = .int p → p ≤ 999999999999999999999999999999) ∧
  (∀ wu u, dueOf ks ps wd v g = some (wu, u) → ∀ l H', H l = none → Same H H' → H' l = some (.lst [.str wu, u]) → Q (.ref l) H') ∧ (dueOf ks ps wd v g = none → Q .non H)
theorem whole_key {v : V} {a b : Int} (ha : a = -999999999) (hb : b = 999999999) : whole v a b = keyV v := by
  subst ha hb
  cases v <;> rfl
theorem whole_place {v : V} {b : Int} (hb : b = 999999999999999999999999999999) (h : ∀ p : Int, v = .int p → p ≤ 999999999999999999999999999999) : whole v 0 b = placeV v := by
  subst hb
  cases v with
  | int p =>
    show (decide (0 ≤ p) && decide (p ≤ 999999999999999999999999999999)) = decide (0 ≤ p)
    rw [decide_eq_true (h p rfl), Bool.and_true]
  | _ => rfl
theorem ok_due (hd : ∃ f fd, Dn K mg "_law_due" "_law_due" s__law_due ["_law_rows", "_law_word", "_law_key", "_law_place"] f fd) (T : Txt K mg) (h1 : OkD P w K mg base "_law_is_number" s__law_is_number ["_law_thing", "_law_low", "_law_high"] 1 (spIsW K)) : OkD P w K mg base "_law_due" s__law_due ["_law_rows", "_law_word", "_law_key", "_law_place"] 2 (spDue K) := by
  obtain ⟨f, fd, D⟩ := hd
  obtain ⟨f1, fd1, D_law_is_number, G_law_is_number⟩ := h1
  refine ⟨f, fd, D, D.fn.ok sc__law_due (fun vs H Q E h => ?_) (fun cdv A outer s H vs Q E hr h => ?_)⟩
  · obtain ⟨_, _, _, _, _, _, _, _, _, _, rfl, _⟩ := h
    rfl
  · obtain ⟨r, lk, lp, ks, ps, wd, v, g, t, t', rfl, hr0, hk, hp, hwd, th, th', gb, q1, q2⟩ := h
    have sc := sc__law_due
    have e9 : (10 : Int) ^ (9 : Int).toNat = 1000000000 := by decide +kernel
    have e30 : (10 : Int) ^ (30 : Int).toNat = 1000000000000000000000000000000 := by decide +kernel
    refine' ⟨_, (pss_cons (ps_asg (pv 0) (pg_tupL rfl (pgs_cons (pg_name (i := 4) sc.nd rfl (Or.inl rfl)) (pgs_cons (pg_name (i := 5) sc.nd rfl (Or.inl rfl)) pgs_nil))))
    (pss_cons (ps_if (pt_not (pt_val (pe_call G_law_is_number (hr.mono (by decide)) rfl D_law_is_number.m D_law_is_number.fn.kp D_law_is_number.b .nil pass0 (pa_c (pv 2) (pa_c (pe_op op_sub pe_int (pe_op op_pow pe_int pe_int)) (pa_c (pe_op op_sub (pe_op op_pow pe_int pe_int) pe_int) pa_nil))))))
      (pss_one (ps_ret (pe_lst (pa_c pe_str (pa_c (pv 2) pa_nil)))))
      pss_nil)
    (pss_cons (ps_if (pt_cmpR op_eq (pv 1) pe_str (nomark _))
      (pss_one (ps_ret (pe_ifExp (pt_cmpR op_in_seq (pv 2) (pv 4) (by with_unfolding_all rfl)) pe_non (pe_lst (pa_c pe_str (pa_c (pv 2) pa_nil))))))
      pss_nil)
    (pss_cons (ps_if (PW.pt (pw_or (pt_not (pt_val (pe_call G_law_is_number (hr.mono (by decide)) rfl D_law_is_number.m D_law_is_number.fn.kp D_law_is_number.b .nil pass0 (pa_c (pv 3) (pa_c pe_int (pa_c (pe_op op_sub (pe_op op_pow pe_int pe_int) pe_int) pa_nil)))))) (pw_or1 (pt_cmpR op_in_seq (pv 3) (pv 5) (by with_unfolding_all rfl)))))
      (pss_one (ps_ret (pe_lst (pa_c pe_str (pa_c (pv 3) pa_nil)))))
      pss_nil)
    (pss_cons (ps_if (pt_cmpR op_in_seq (pv 2) (pv 4) (by with_unfolding_all rfl))
      (pss_one (ps_ret (pe_lst (pa_c pe_str (pa_c (pv 2) pa_nil)))))
      pss_nil)
    (pss_one (ps_ret (pe_ifExp (pt_cmpR op_eq (pe_callB call_len_seq rfl T.n_len bt_len (pa_c (pv 4) pa_nil)) pe_int (nomark _)) (pe_lst (pa_c pe_str (pa_c pe_int pa_nil))) pe_non)))))))), ?_⟩
    refine ⟨_, rfl, r, _, rfl, SqL.of hr0, rfl, _, _, rfl, _, _, rfl, rfl, ?_⟩
    refine ⟨_, rfl, _, _, rfl, rfl, cp (by decide) (by decide), _, _, rfl, rfl, _, _, rfl, rfl, cp (by decide) (by decide), _, _, rfl, rfl, v, t, _, _, rfl, th, _, rfl, ?_⟩
    rw [whole_key (by rw [e9]; rfl) (by rw [e9]; rfl)]
    have two : ∀ (wu : Str) (u : V) {H' : Hp}, dueOf ks ps wd v g = some (wu, u) → 2 ≤ sizeLine ∧ ∀ l, H l = none → Q (.ref l) (upd H l (.lst [.str wu, u])) := fun wu u H' e => ⟨by decide, fun l fl => q1 wu u e l _ fl (Same.upd fl) upd_same⟩
    cases c1 : keyV v with
    | false => exact iteT ⟨_, rfl, two _ _ (H' := H) (due_key c1)⟩
    | true =>
      obtain ⟨k, rfl, _, _⟩ := keyV_int c1
      refine iteF ⟨_, rfl, rfl, _, rfl, ?_⟩
      rcases hwd with rfl | rfl
      · refine iteE (c := false) (by decide +kernel) (iteF ⟨_, rfl, _, _, rfl, rfl, cp (by decide) (by decide), _, _, rfl, rfl, g, t', _, _, rfl, th', _, rfl, ?_⟩)
        rw [whole_place (by rw [e30]; rfl) gb]
        cases c2 : placeV g with
        | false =>
          have bd : badP ps g = true := by
            cases g with
            | int p =>
              have c : decide (0 ≤ p) = false := c2
              show (!(decide (0 ≤ p)) || decide (p ∈ ps)) = true
              rw [c]
              rfl
            | _ => rfl
          exact iteT (iteT ⟨_, rfl, two _ _ (H' := H) (due_place c1 bd)⟩)
        | true =>
          obtain ⟨p, rfl⟩ : ∃ p : Int, g = .int p := by
            cases g with
            | int p => exact ⟨p, rfl⟩
            | _ => cases c2
          have p0 : 0 ≤ p := of_decide_eq_true c2
          refine iteF ⟨_, rfl, _, rfl, lp, _, rfl, .inl (SqL.of hp), rfl, flat_ints, _, rfl, ?_⟩
          by_cases ci : p ∈ ps
          · have bd : badP ps (.int p) = true := by
              show (!(decide (0 ≤ p)) || decide (p ∈ ps)) = true
              rw [decide_eq_true ci, Bool.or_true]
            exact iteE (c := true) (inV_int.mpr ci) (iteT ⟨_, rfl, two _ _ (H' := H) (due_place c1 bd)⟩)
          · have bd : badP ps (.int p) = false := by
              show (!(decide (0 ≤ p)) || decide (p ∈ ps)) = false
              rw [decide_eq_false ci, decide_eq_true p0]
              rfl
            refine iteE (c := false) (not_in ci) (iteF ⟨_, rfl, _, rfl, lk, _, rfl, .inl (SqL.of hk), rfl, flat_ints, _, rfl, ?_⟩)
            by_cases ck : k ∈ ks
            · exact iteE (c := true) (inV_int.mpr ck) (iteT ⟨_, rfl, two _ _ (H' := H) (due_has c1 bd ck)⟩)
            · refine iteE (c := false) (not_in ck) (iteF ⟨_, rfl, lk, _, rfl, .inl (SqL.of hk), rfl, _, rfl, ?_⟩)
              by_cases c6 : ks.length = 6
              · exact iteE (c := true) (decide_eq_true (by rw [List.length_map, c6]; rfl)) (iteT (two _ _ (H' := H) (due_many c1 bd ck c6)))
              · refine iteE (c := false) (decide_eq_false fun z => c6 ?_) (iteF (q2 (due_with c1 bd ck c6)))
                injection z with z
                rw [List.length_map] at z
                omega
      · refine iteE (c := true) (decide_eq_true rfl) (iteT ⟨_, rfl, _, rfl, lk, _, rfl, .inl (SqL.of hk), rfl, flat_ints, _, rfl, ?_⟩)
        by_cases cm : k ∈ ks
        · exact iteE (c := true) (inV_int.mpr cm) (iteT (q2 (due_without c1 cm)))
        · exact iteE (c := false) (not_in cm) (iteF ⟨_, rfl, two _ _ (H' := H) (due_lacks c1 cm)⟩)
end
end K14
set_option Elab.async false
set_option linter.all false
set_option maxRecDepth 100000
set_option maxHeartbeats 1000000
namespace K14
open PySem L2
theorem kit_self {K : PySem.W.Frag} {C : Addr} : PySem.W.kitOne K (.ref C) (.ref C) = some true := by
  unfold PySem.W.kitOne
  rw [if_pos (by simp)]
structure Rows (H : Hp) (r lk lp : Addr) (ks ps : List Int) : Prop where
  r : H r = some (.lst [.ref lk, .ref lp])
  k : H lk = some (.lst (ks.map V.int))
  p : H lp = some (.lst (ps.map V.int))
theorem Rows.keep {H H' : Hp} {r lk lp : Addr} {ks ps : List Int} (x : Rows H r lk lp ks ps) (S : Same H H') : Rows H' r lk lp ks ps := ⟨S _ _ x.r, S _ _ x.k, S _ _ x.p⟩
section
variable {P : Program} {w : World} {K : PySem.W.Frag} {mg : Str → Option Value} {base : Heap}
abbrev s__law_stands : Stmt := top 46
theorem sc__law_stands : FnScope ["_law_page", "_law_rows"] ["_law_page", "_law_rows"] (defScope s__law_stands) := ⟨rfl, rfl, rfl, by decide +kernel, rfl, by decide +kernel, by decide +kernel⟩
def spStands (C : Addr) : Sp := fun vs H Q _ => ∃ (x dx r lk lp : Addr) (ks ps : List Int), vs = [.ref x, .ref r] ∧ PgP C dx H x ks ps ∧ Rows H r lk lp ks ps ∧ ∀ H', Same H H' → Q (.bl true) H'
theorem ok_stands {cInner f fK fG : Addr} {fd fdK fdG : FuncData} (hd : ∃ f fd, Dn K mg "_law_stands" "_law_stands" s__law_stands ["_law_page", "_law_rows"] f fd) (T : Txt K mg) (X : KdN K mg "Inner" "Inner.__init__" (inClass (top 34) 0) cInner f fd fK fG)
    (G_all_keys : FnOk P w K mg base CX0 1 fK fdK ["self"] (spRow cInner true)) (G_goods : FnOk P w K mg base CX0 1 fG fdG ["self"] (spRow cInner false)) (B_all_keys : Binds K fdK ["self"] []) (B_goods : Binds K fdG ["self"] []) : OkD P w K mg base "_law_stands" s__law_stands ["_law_page", "_law_rows"] 2 (spStands cInner) := by
  obtain ⟨f0, fd0, D⟩ := hd
  have CL := X.ins.cl
  have MInner := X.m
  have Me_all_keys := X.k
  have Me_goods := X.g
  refine ⟨f0, fd0, D, D.fn.ok sc__law_stands (fun vs H Q E h => ?_) (fun cdv A outer s H vs Q E hr h => ?_)⟩
  · obtain ⟨_, _, _, _, _, _, _, rfl, _⟩ := h
    rfl
  · obtain ⟨x, dx, r, lk, lp, ks, ps, rfl, pg, rw0, k⟩ := h
    have hu := hr.units0
    refine' ⟨_, (pss_one (ps_ret (pe_and (pe_callB call_instO rfl T.n_isinstance bt_isinstance (pa_c (pv 0) (pa_c (pe_glob (v := .ref cInner) rfl MInner rfl) pa_nil))) (pe_and (pe_cmpR (op_eqL hu) (pe_meth0 (pv 0) CL Me_all_keys G_all_keys (hr.mono (by decide)) B_all_keys .nil pass0) (pe_ix ix_list (pv 1) pe_int (fun _ _ => rfl)) (nomark _)) (pe_one (pe_cmpR (op_eqL hu) (pe_meth0 (pv 0) CL Me_goods G_goods (hr.mono (by decide)) B_goods .nil pass0) (pe_ix ix_list (pv 1) pe_int (fun _ _ => rfl)) (nomark _))))))), ?_⟩
    obtain ⟨tk, tg, hx, hk, hg⟩ := pg.pg
    refine ⟨_, rfl, x, cInner, cInner, dx, _, true, rfl, hx, X.ins, kit_self, _, rfl, iteT ?_⟩
    refine ⟨_, rfl, x, dx, _, rfl, hx, rfl, x, dx, _, _, rfl, pg.pg, fun l2 f2 => ?_⟩
    have S2 := Same.upd (o := .lst (if true = true then ks.map V.int else ps.map V.int)) f2
    have e2 := upd_same (H := H) (a := l2) (o := .lst (if true = true then ks.map V.int else ps.map V.int))
    have rw2 := rw0.keep S2
    have pg2 := pg.keep S2
    generalize upd H l2 _ = H2 at *
    rw [if_pos rfl] at e2
    refine ⟨_, rfl, r, _, _, _, rfl, rfl, SqL.of rw2.r, rfl, l2, lk, _, _, rfl, rfl, SqL.of e2, SqL.of rw2.k, okPs_self plain_ints, _, rfl, iteE (c := true) eqPs_self (iteT ?_)⟩
    obtain ⟨tk2, tg2, hx2, _, _⟩ := pg2.pg
    refine ⟨_, rfl, x, dx, _, rfl, hx2, rfl, x, dx, _, _, rfl, pg2.pg, fun l3 f3 => ?_⟩
    have S3 := Same.upd (o := .lst (if false = true then ks.map V.int else ps.map V.int)) f3
    have e3 := upd_same (H := H2) (a := l3) (o := .lst (if false = true then ks.map V.int else ps.map V.int))
    have rw3 := rw2.keep S3
    generalize upd H2 l3 _ = H3 at *
    rw [if_neg Bool.false_ne_true] at e3
    refine ⟨_, rfl, r, _, _, _, rfl, rfl, SqL.of rw3.r, rfl, l3, lp, _, _, rfl, rfl, SqL.of e3, SqL.of rw3.p, okPs_self plain_ints, ?_⟩
    show Q (.bl (eqPs (ps.map V.int) (ps.map V.int))) _
    rw [eqPs_self]
    exact k _ (S2.trans S3)
abbrev s__law_asked : Stmt := top 51
theorem sc__law_asked : FnScope ["_law_page", "_law_way", "_law_key", "e"] ["_law_page", "_law_way", "_law_key"] (defScope s__law_asked) := ⟨rfl, rfl, rfl, by decide +kernel, rfl, by decide +kernel, by decide +kernel⟩
def spAsked (K : PySem.W.Frag) (C : Addr) : Sp := fun vs H Q _ => ∃ (x dx : Addr) (n : Int) (v : V) (t : Value) (ks ps : List Int), vs = [.ref x, .int n, v] ∧ PgP C dx H x ks ps ∧ Thg K H v t ∧ keyV v = false ∧ ∀ l H', H l = none → Same H H' → H' l = some (.lst [.str "key", v]) → Q (.ref l) H'
theorem ok_asked {C f fK fG cK TT fI1 fC fB fS : Addr} {fd fd1 fdC fdB fdS : FuncData} (hd : ∃ f fd, Dn K mg "_law_asked" "_law_asked" s__law_asked ["_law_page", "_law_way", "_law_key"] f fd) (T : Txt K mg) (X : KdN K mg "Inner" "Inner.__init__" (inClass (top 34) 0) C f fd fK fG)
    (xK : ErN K mg "NoKey" "NoKey.__init__" (inClass (top 3) 0) "found" cK TT fI1 fd1) (xT : ExM K TT) (mC : Meth K C "child" fC) (mB : Meth K C "beyond" fB) (mS : Meth K C "separator" fS) (bC : Binds K fdC ["self", "key"] []) (bB : Binds K fdB ["self", "key"] []) (bS : Binds K fdS ["self", "key"] [])
    (gC : FnOk P w K mg base (CXo P w) 8 fC fdC ["self", "key"] (spLed K C cK 0)) (gB : FnOk P w K mg base (CXo P w) 8 fB fdB ["self", "key"] (spLed K C cK 1)) (gS : FnOk P w K mg base (CXo P w) 8 fS fdS ["self", "key"] (spLed K C cK 2)) :
    OkD P w K mg base "_law_asked" s__law_asked ["_law_page", "_law_way", "_law_key"] 10 (spAsked K C) := by
  obtain ⟨f', fd', D⟩ := hd
  refine ⟨f', fd', D, D.fn.ok sc__law_asked (fun vs H Q E h => ?_) (fun cdv A outer s H vs Q E hr h => ?_)⟩
  · obtain ⟨_, _, _, _, _, _, _, rfl, _⟩ := h
    rfl
  · obtain ⟨x, dx, n, v, t, ks, ps, rfl, pg, th, c, q⟩ := h
    have sc := sc__law_asked
    refine' ⟨_, pss_one (ps_try rfl rfl ?b0
      (phs_as (i := 3) (tb := tRet (tLst (tCons (tC (.str "key")) (tCons (tExFld K (tVar 3) "found") tNil)))) xK.xC rfl xK.mC sc.nd rfl rfl rfl ?s1
      (phs_plain xT rfl xK.mT ?s2 phs_nil))), ?_⟩
    case s1 => exact fun e => pss_one (ps_ret (pe_lst (pa_c pe_str (pa_c (pe_exfld (pv 3) rfl) pa_nil))))
    case s2 => exact fun e => pss_one (ps_ret (pe_lst (pa_c pe_str (pa_c pe_non pa_nil))))
    case b0 => exact (fun E ps xe hp => pss_cons (ps_if (pt_cmpR op_eq (pv 1) pe_int (nomark _)) (pss_one (ps_ret (pe_lst (pa_c pe_str (pa_c (pe_meth (pv 0) X.ins.cl mC gC (hr.mono (by decide)) bC .nil hp (pa_c (pv 2) pa_nil)) pa_nil))))) pss_nil)
        (pss_one (ps_ret (pe_lst (pa_c pe_str (pa_c (pe_ifExp (pt_cmpR op_eq (pv 1) pe_int (nomark _)) (pe_meth (pv 0) X.ins.cl mB gB (hr.mono (by decide)) bB .nil hp (pa_c (pv 2) pa_nil)) (pe_meth (pv 0) X.ins.cl mS gS (hr.mono (by decide)) bS .nil hp (pa_c (pv 2) pa_nil))) pa_nil))))))
    obtain ⟨tk, tg, hx, hk, hg⟩ := pg.pg
    have no : ∀ {k : Int}, v = .int k → keyV v = true → False := fun _ z => by rw [c] at z; cases z
    refine ⟨_, rfl, rfl, _, rfl, ite2 (fun _ => ?_) (fun _ => ⟨_, rfl, rfl, _, rfl, ite2 (fun _ => ?_) (fun _ => ?_)⟩)⟩
    all_goals
      refine ⟨_, rfl, x, dx, _, rfl, hx, rfl, _, rfl, x, dx, v, t, ks, ps, rfl, pg, th, ?_, fun k ek z => (no ek z).elim⟩
      exact fun c e H' he S r => caught_of he S r fun σ hσ dx ar b H2 S2 h1 h2 => th_hit xK (by rw [hσ]; show 3 < 4; decide) S2 h1 h2 fun l H3 S3 fl el => q l H3 fl S3 el
end
end K14
set_option Elab.async false
set_option linter.all false
set_option maxRecDepth 100000
set_option maxHeartbeats 1000000
namespace K14
open PySem L2
def ltV (k : Int) (v : V) : Bool := match v with | .int z => decide (z < k) | _ => false
def below (ks : List Int) (k : Int) : Nat := (ks.filter fun z => decide (z < k)).length
theorem filter_lt (ks : List Int) (k : Int) : ((ks.map V.int).filter (ltV k)).length = below ks k := by
  unfold below
  rw [List.filter_map, List.length_map]
  rfl
theorem below_cnt {ks : List Int} {k : Int} (n : k ∉ ks) : below ks k = cnt ks k := by
  unfold below cnt
  congr 1
  refine List.filter_congr fun z hz => ?_
  have ne : z ≠ k := fun e => n (e ▸ hz)
  exact decide_eq_decide.mpr ⟨fun h => by omega, fun h => by omega⟩
theorem below_at {ks : List Int} {k : Int} {j : Nat} (u : Up ks) (hj : ks[j]? = some k) : below ks k = j := by
  obtain ⟨jl, ej⟩ := List.getElem?_eq_some_iff.mp hj
  have pw := List.pairwise_iff_getElem.mp u.1
  unfold below
  have sp : ks.filter (fun z => decide (z < k)) = ks.take j := by
    conv => lhs; rw [← List.take_append_drop j ks, List.filter_append]
    have a : (ks.take j).filter (fun z => decide (z < k)) = ks.take j := List.filter_eq_self.mpr fun z hz => by
      obtain ⟨i, hi, e⟩ := List.getElem_of_mem hz
      rw [List.length_take] at hi
      rw [List.getElem_take] at e
      have := pw i j (by omega) jl (by omega)
      exact decide_eq_true (by omega)
    have b : (ks.drop j).filter (fun z => decide (z < k)) = [] := List.filter_eq_nil_iff.mpr fun z hz => by
      obtain ⟨i, hi, e⟩ := List.getElem_of_mem hz
      rw [List.length_drop] at hi
      rw [List.getElem_drop] at e
      intro c
      have c' := of_decide_eq_true c
      by_cases i0 : i = 0
      · subst i0
        have : ks[j + 0] = ks[j] := rfl
        omega
      · have := pw j (j + i) jl (by omega) (by omega)
        omega
    rw [a, b, List.append_nil]
  rw [sp, List.length_take]
  omega
section
variable {P : Program} {w : World} {K : PySem.W.Frag} {mg : Str → Option Value} {base : Heap}
abbrev s__law_changed : Stmt := top 52
theorem sc__law_changed : FnScope ["_law_rows", "_law_word", "_law_key", "_law_place", "_law_keys_here", "_law_places_here", "_law_at"] ["_law_rows", "_law_word", "_law_key", "_law_place"] (defScope s__law_changed) := ⟨rfl, rfl, rfl, by decide +kernel, rfl, by decide +kernel, by decide +kernel⟩
def spChanged : Sp := fun vs H Q _ => ∃ (r lk lp : Addr) (wd : Str) (k : Int) (g : V) (ks ps ks' ps' : List Int), vs = [.ref r, .str wd, .int k, g] ∧ Rows H r lk lp ks ps ∧ Up ks ∧ ks.length ≤ 6 ∧ ps.length = ks.length + 1 ∧ Done ks ps wd (.int k) g ks' ps' ∧
  ∀ r' lk' lp' H', Same H H' → H r' = none → H lk' = none → H lp' = none → Rows H' r' lk' lp' ks' ps' → Q (.ref r') H'
theorem ok_changed (hd : ∃ f fd, Dn K mg "_law_changed" "_law_changed" s__law_changed ["_law_rows", "_law_word", "_law_key", "_law_place"] f fd) (T : Txt K mg) : OkD P w K mg base "_law_changed" s__law_changed ["_law_rows", "_law_word", "_law_key", "_law_place"] 1 spChanged := by
  obtain ⟨f, fd, D⟩ := hd
  refine ⟨f, fd, D, D.fn.ok sc__law_changed (fun vs H Q E h => ?_) (fun cdv A outer s H vs Q E hr h => ?_)⟩
  · obtain ⟨_, _, _, _, _, _, _, _, _, _, rfl, _⟩ := h
    rfl
  · obtain ⟨r, lk, lp, wd, k, g, ks, ps, ks', ps', rfl, rw0, up, few, len, dn, q⟩ := h
    have sc := sc__law_changed
    have big := big1000
    refine' ⟨_, (pss_cons (ps_asg (pv 0) (pg_tupL rfl (pgs_cons (pg_name (i := 4) sc.nd rfl (Or.inl rfl)) (pgs_cons (pg_name (i := 5) sc.nd rfl (Or.inl rfl)) pgs_nil))))
    (pss_cons (ps_set (i := 6) sc.nd rfl (Or.inl rfl) (pe_callB call_len_seq rfl T.n_len bt_len (pa_c (pe_comp (blk_mk ["_law_key"] [2]) rfl (pi_list (pv 4)) (fun _ _ _ _ _ => (PTs.one (pt_cmpR op_lt (pv 0) (pv 1) (nomark _)))) (fun _ _ _ _ _ => (pv 0))) pa_nil)))
    (pss_cons (ps_if (pt_cmpR op_eq (pv 1) pe_str (nomark _))
      (pss_one (ps_ret (pe_lst (pa_c (pe_op op_cat (pe_op op_cat (pe_slice sl_list (pv 4) po_none (po_some (pv 6))) (pe_lst (pa_c (pv 2) pa_nil))) (pe_slice sl_list (pv 4) (po_some (pv 6)) po_none)) (pa_c (pe_op op_cat (pe_op op_cat (pe_slice sl_list (pv 5) po_none (po_some (pe_op op_add (pv 6) pe_int))) (pe_lst (pa_c (pv 3) pa_nil))) (pe_slice sl_list (pv 5) (po_some (pe_op op_add (pv 6) pe_int)) po_none)) pa_nil)))))
      pss_nil)
    (pss_one (ps_ret (pe_lst (pa_c (pe_op op_cat (pe_slice sl_list (pv 4) po_none (po_some (pv 6))) (pe_slice sl_list (pv 4) (po_some (pe_op op_add (pv 6) pe_int)) po_none)) (pa_c (pe_op op_cat (pe_slice sl_list (pv 5) po_none (po_some (pe_op op_add (pv 6) pe_int))) (pe_slice sl_list (pv 5) (po_some (pe_op op_add (pv 6) pe_int)) po_none)) pa_nil)))))))), ?_⟩
    refine ⟨_, rfl, r, _, rfl, SqL.of rw0.r, rfl, _, _, rfl, _, _, rfl, rfl, ?_⟩
    dsimp only [gName, tNext]
    refine seq2 (fun σ H1 => σ = [some (.ref r), some (.str wd), some (.int k), some g, some (.ref lk), some (.ref lp), some (.int (below ks k : Nat))] ∧ Same H H1) ?a ?b
    case a =>
      intro N n
      refine tasg1 (tcb1 (comp_f (J := ItB K false lk) (H1 := H) (ks.map V.int) (ltV k) (fun y => y) (fun R q => ⟨_, rfl, lk, rfl, ⟨_, SqL.of rw0.k⟩, q⟩) (it_row (K := K) (tp := false) rw0.k) ?hc ?he ?hz ?q))
      case hz => rw [List.length_map]; omega
      case hc =>
        intro y hy H2 R S2 c
        obtain ⟨z, hz, rfl⟩ := List.mem_map.mp hy
        exact ⟨_, rfl, _, rfl, _, _, rfl, rfl, _, rfl, c H2 (Same.refl _)⟩
      case he =>
        intro y hy hp H2 R S2 c
        exact ⟨_, rfl, c H2 (Same.refl _)⟩
      case q =>
        intro d H2 fd2 S2 e2
        refine ⟨d, _, rfl, .inl (SqL.of e2), ?_⟩
        rw [List.length_map, filter_lt]
        exact n _ _ ⟨rfl, S2⟩
    case b =>
    rintro _ H1 ⟨rfl, S1⟩
    have rw1 := rw0.keep S1
    refine ⟨_, rfl, rfl, _, rfl, ?_⟩
    rcases dn with ⟨rfl, k0, p, ek, rfl, nk, rfl, rfl⟩ | ⟨rfl, k0, j, ek, hj, rfl, rfl⟩
    · cases ek
      rw [below_cnt nk]
      have le := cnt_le ks k
      generalize cnt ks k = c at *
      refine iteE (c := true) (decide_eq_true rfl) (iteT ?_)
      refine ⟨_, rfl, _, rfl, _, rfl, lk, _, rfl, SqL.of rw1.k, fun a1 g1 => ?_⟩
      rw [cut_take (by rw [List.length_map]; omega)]
      have T1 := Same.upd (o := .lst ((ks.map V.int).take c)) g1
      have e1 := upd_same (H := H1) (a := a1) (o := .lst ((ks.map V.int).take c))
      have U1 := S1.trans T1
      generalize upd H1 a1 _ = J1 at *
      refine ⟨_, rfl, (by show 1 ≤ sizeLine; decide), fun a2 g2 => ?_⟩
      have T2 := Same.upd (o := .lst [.int k]) g2
      have e2 := upd_same (H := J1) (a := a2) (o := .lst [.int k])
      have U2 := U1.trans T2
      replace e1 := T2 _ _ e1
      generalize upd J1 a2 _ = J2 at *
      refine ⟨a1, a2, _, _, rfl, rfl, e1, e2, by simp only [List.length_take, List.length_map, List.length_cons, List.length_nil]; omega, fun a3 g3 => ?_⟩
      have T3 := Same.upd (o := .lst ((ks.map V.int).take c ++ [.int k])) g3
      have e3 := upd_same (H := J2) (a := a3) (o := .lst ((ks.map V.int).take c ++ [.int k]))
      have U3 := U2.trans T3
      generalize upd J2 a3 _ = J3 at *
      refine ⟨_, rfl, _, rfl, _, rfl, lk, _, rfl, SqL.of (U3 _ _ rw0.k), fun a4 g4 => ?_⟩
      rw [cut_drop (by rw [List.length_map]; omega)]
      have T4 := Same.upd (o := .lst ((ks.map V.int).drop c)) g4
      have e4 := upd_same (H := J3) (a := a4) (o := .lst ((ks.map V.int).drop c))
      have U4 := U3.trans T4
      replace e3 := T4 _ _ e3
      generalize upd J3 a4 _ = J4 at *
      refine ⟨a3, a4, _, _, rfl, rfl, e3, e4, by simp only [List.length_append, List.length_take, List.length_map, List.length_drop, List.length_cons, List.length_nil]; omega, fun a5 g5 => ?_⟩
      rw [ins_map]
      have T5 := Same.upd (o := .lst ((insAt ks c k).map V.int)) g5
      have e5 := upd_same (H := J4) (a := a5) (o := .lst ((insAt ks c k).map V.int))
      have U5 := U4.trans T5
      have f5 := U4.free g5
      generalize upd J4 a5 _ = J5 at *
      refine ⟨_, rfl, _, rfl, _, _, rfl, rfl, _, rfl, lp, _, rfl, SqL.of (U5 _ _ rw0.p), fun b1 k1 => ?_⟩
      rw [show ((c : Nat) : Int) + 1 = ((c + 1 : Nat) : Int) by omega, cut_take (by rw [List.length_map]; omega)]
      have V1 := Same.upd (o := .lst ((ps.map V.int).take (c + 1))) k1
      have d1 := upd_same (H := J5) (a := b1) (o := .lst ((ps.map V.int).take (c + 1)))
      have W1 := U5.trans V1
      replace e5 := V1 _ _ e5
      generalize upd J5 b1 _ = I1 at *
      refine ⟨_, rfl, (by show 1 ≤ sizeLine; decide), fun b2 k2 => ?_⟩
      have V2 := Same.upd (o := .lst [.int p]) k2
      have d2 := upd_same (H := I1) (a := b2) (o := .lst [.int p])
      have W2 := W1.trans V2
      replace d1 := V2 _ _ d1
      replace e5 := V2 _ _ e5
      generalize upd I1 b2 _ = I2 at *
      refine ⟨b1, b2, _, _, rfl, rfl, d1, d2, by simp only [List.length_take, List.length_map, List.length_cons, List.length_nil]; omega, fun b3 k3 => ?_⟩
      have V3 := Same.upd (o := .lst ((ps.map V.int).take (c + 1) ++ [.int p])) k3
      have d3 := upd_same (H := I2) (a := b3) (o := .lst ((ps.map V.int).take (c + 1) ++ [.int p]))
      have W3 := W2.trans V3
      replace e5 := V3 _ _ e5
      generalize upd I2 b3 _ = I3 at *
      refine ⟨_, rfl, _, rfl, _, _, rfl, rfl, _, rfl, lp, _, rfl, SqL.of (W3 _ _ rw0.p), fun b4 k4 => ?_⟩
      rw [show ((c : Nat) : Int) + 1 = ((c + 1 : Nat) : Int) by omega, cut_drop (by rw [List.length_map]; omega)]
      have V4 := Same.upd (o := .lst ((ps.map V.int).drop (c + 1))) k4
      have d4 := upd_same (H := I3) (a := b4) (o := .lst ((ps.map V.int).drop (c + 1)))
      have W4 := W3.trans V4
      replace d3 := V4 _ _ d3
      replace e5 := V4 _ _ e5
      generalize upd I3 b4 _ = I4 at *
      refine ⟨b3, b4, _, _, rfl, rfl, d3, d4, by simp only [List.length_append, List.length_take, List.length_map, List.length_drop, List.length_cons, List.length_nil]; omega, fun b5 k5 => ?_⟩
      rw [ins_map]
      have V5 := Same.upd (o := .lst ((insAt ps (c + 1) p).map V.int)) k5
      have d5 := upd_same (H := I4) (a := b5) (o := .lst ((insAt ps (c + 1) p).map V.int))
      have W5 := W4.trans V5
      have h5 := W4.free k5
      replace e5 := V5 _ _ e5
      generalize upd I4 b5 _ = I5 at *
      refine ⟨(by show 2 ≤ sizeLine; decide), fun r' fr => ?_⟩
      have V6 := Same.upd (o := .lst [.ref a5, .ref b5]) fr
      exact q r' a5 b5 _ (W5.trans V6) (W5.free fr) f5 h5 ⟨upd_same, V6 _ _ e5, V6 _ _ d5⟩
    · cases ek
      rw [below_at up hj]
      refine iteE (c := false) (by decide +kernel) (iteF ?_)
      have jl : j < ks.length := (List.getElem?_eq_some_iff.mp hj).1
      refine ⟨_, rfl, _, rfl, _, rfl, lk, _, rfl, SqL.of rw1.k, fun a1 g1 => ?_⟩
      rw [cut_take (by rw [List.length_map]; omega)]
      have T1 := Same.upd (o := .lst ((ks.map V.int).take j)) g1
      have e1 := upd_same (H := H1) (a := a1) (o := .lst ((ks.map V.int).take j))
      have U1 := S1.trans T1
      generalize upd H1 a1 _ = J1 at *
      refine ⟨_, rfl, _, rfl, _, _, rfl, rfl, _, rfl, lk, _, rfl, SqL.of (U1 _ _ rw0.k), fun a4 g4 => ?_⟩
      rw [show ((j : Nat) : Int) + 1 = ((j + 1 : Nat) : Int) by omega, cut_drop (by rw [List.length_map]; omega)]
      have T4 := Same.upd (o := .lst ((ks.map V.int).drop (j + 1))) g4
      have e4 := upd_same (H := J1) (a := a4) (o := .lst ((ks.map V.int).drop (j + 1)))
      have U4 := U1.trans T4
      replace e1 := T4 _ _ e1
      generalize upd J1 a4 _ = J4 at *
      refine ⟨a1, a4, _, _, rfl, rfl, e1, e4, by simp only [List.length_take, List.length_map, List.length_drop]; omega, fun a5 g5 => ?_⟩
      rw [er_map]
      have T5 := Same.upd (o := .lst ((ks.eraseIdx j).map V.int)) g5
      have e5 := upd_same (H := J4) (a := a5) (o := .lst ((ks.eraseIdx j).map V.int))
      have U5 := U4.trans T5
      have f5 := U4.free g5
      generalize upd J4 a5 _ = J5 at *
      refine ⟨_, rfl, _, rfl, _, _, rfl, rfl, _, rfl, lp, _, rfl, SqL.of (U5 _ _ rw0.p), fun b1 k1 => ?_⟩
      rw [show ((j : Nat) : Int) + 1 = ((j + 1 : Nat) : Int) by omega, cut_take (by rw [List.length_map]; omega)]
      have V1 := Same.upd (o := .lst ((ps.map V.int).take (j + 1))) k1
      have d1 := upd_same (H := J5) (a := b1) (o := .lst ((ps.map V.int).take (j + 1)))
      have W1 := U5.trans V1
      replace e5 := V1 _ _ e5
      generalize upd J5 b1 _ = I1 at *
      refine ⟨_, rfl, _, rfl, _, _, rfl, rfl, _, rfl, lp, _, rfl, SqL.of (W1 _ _ rw0.p), fun b4 k4 => ?_⟩
      rw [show ((j : Nat) : Int) + 2 = ((j + 1 + 1 : Nat) : Int) by omega, cut_drop (by rw [List.length_map]; omega)]
      have V4 := Same.upd (o := .lst ((ps.map V.int).drop (j + 1 + 1))) k4
      have d4 := upd_same (H := I1) (a := b4) (o := .lst ((ps.map V.int).drop (j + 1 + 1)))
      have W4 := W1.trans V4
      replace d1 := V4 _ _ d1
      replace e5 := V4 _ _ e5
      generalize upd I1 b4 _ = I4 at *
      refine ⟨b1, b4, _, _, rfl, rfl, d1, d4, by simp only [List.length_take, List.length_map, List.length_drop]; omega, fun b5 k5 => ?_⟩
      rw [er_map]
      have V5 := Same.upd (o := .lst ((ps.eraseIdx (j + 1)).map V.int)) k5
      have d5 := upd_same (H := I4) (a := b5) (o := .lst ((ps.eraseIdx (j + 1)).map V.int))
      have W5 := W4.trans V5
      have h5 := W4.free k5
      replace e5 := V5 _ _ e5
      generalize upd I4 b5 _ = I5 at *
      refine ⟨(by show 2 ≤ sizeLine; decide), fun r' fr => ?_⟩
      have V6 := Same.upd (o := .lst [.ref a5, .ref b5]) fr
      exact q r' a5 b5 _ (W5.trans V6) (W5.free fr) f5 h5 ⟨upd_same, V6 _ _ e5, V6 _ _ d5⟩
end
end K14
set_option Elab.async false
set_option linter.all false
set_option maxRecDepth 100000
set_option maxHeartbeats 1000000
namespace K14
open PySem L2
theorem cnt_in {ks : List Int} (u : Up ks) {k : Int} {i : Nat} (h : i < cnt ks k) : ∃ z, ks[i]? = some z ∧ z ≤ k := by
  have le := cnt_le ks k
  have hi : i < ks.length := by omega
  refine ⟨ks[i], List.getElem?_eq_getElem hi, (cnt_split u.1 k).1 _ ?_⟩
  rw [List.mem_take_iff_getElem]
  exact ⟨i, by omega, rfl⟩
theorem cnt_out {ks : List Int} (u : Up ks) {k z : Int} (h : ks[cnt ks k]? = some z) : k < z := by
  obtain ⟨hi, e⟩ := List.getElem?_eq_some_iff.mp h
  refine (cnt_split u.1 k).2 z ?_
  rw [List.mem_drop_iff_getElem]
  exact ⟨0, by omega, by simpa using e⟩
theorem led_small {ks ps : List Int} {k : Int} {w : Nat} (u : Up ks) (ok : ∀ p ∈ ps, Plc p) {H : Hp} : ∃ d, DV (fun _ => False) H (ledOf ks ps k w) d ∧ Small d := by
  have one : ∀ (o : Option Int), (∀ z, o = some z → z.natAbs ≤ 10 ^ 30) → ∃ d, DV (fun _ => False) H (match o with | some p => V.int p | none => .non) d ∧ Small d := fun o h => by
    cases o with
    | none => exact ⟨_, .non, small_none⟩
    | some z => exact ⟨_, .int z, small_int (h z rfl)⟩
  have inP : ∀ {j : Nat} {z : Int}, ps[j]? = some z → z.natAbs ≤ 10 ^ 30 := fun h => by have := ok _ (List.mem_of_getElem? h); unfold Plc at this; omega
  have inK : ∀ {j : Nat} {z : Int}, ks[j]? = some z → z.natAbs ≤ 10 ^ 30 := fun h => by have := u.2 _ (List.mem_of_getElem? h); omega
  unfold ledOf
  split
  · exact one _ fun z h => inP h
  · split
    · exact one _ fun z h => inP h
    · exact one _ fun z h => inK h
theorem at_non {xs : List Int} {j : Nat} (h : j ≤ xs.length) : atI (xs.map V.int ++ [.non]) (j : Int) = some (match xs[j]? with | some p => V.int p | none => .non) := by
  refine atI_nat ?_
  by_cases c : j < xs.length
  · rw [List.getElem?_append_left (by rw [List.length_map]; exact c), List.getElem?_map, List.getElem?_eq_getElem c]
    rfl
  · have e : j = xs.length := by omega
    subst e
    rw [List.getElem?_append_right (by rw [List.length_map]; exact Nat.le_refl _), List.length_map, Nat.sub_self, List.getElem?_eq_none (Nat.le_refl _)]
    rfl
theorem okd_three {a b c : PyData} (ha : Small a) (hb : Small b) (hc : Small c) : Okd 100000 (.list [a, b, c]) := by
  obtain ⟨p, q, r, e⟩ := smalls_row (ds := [a, b, c]) fun d hd => by
    simp only [List.mem_cons, List.not_mem_nil, or_false] at hd
    rcases hd with rfl | rfl | rfl
    · exact ha
    · exact hb
    · exact hc
  refine ⟨p, q, ?_, ?_⟩
  · simp only [PyData.depth]; omega
  · simp only [PyData.weight]
    have : ([a, b, c] : List PyData).length = 3 := rfl
    omega
def left5 (n : Nat) (σ : St) : Nat := match σ[5]? with | some (some (V.int z)) => n - z.toNat | _ => 0
section
variable {P : Program} {w : World} {K : PySem.W.Frag} {mg : Str → Option Value} {base : Heap}
abbrev s__law_led_right : Stmt := top 47
theorem sc__law_led_right : FnScope ["_law_page", "_law_rows", "_law_keys_here", "_law_places_here", "_law_key", "_law_at", "_law_due_here"] ["_law_page", "_law_rows"] (defScope s__law_led_right) := ⟨rfl, rfl, rfl, by decide +kernel, rfl, by decide +kernel, by decide +kernel⟩
theorem ok_ledr {C f fK fG cK fC fB fS : Addr} {fd fdC fdB fdS : FuncData} (hd : ∃ f fd, Dn K mg "_law_led_right" "_law_led_right" s__law_led_right ["_law_page", "_law_rows"] f fd) (T : Txt K mg) (X : KdN K mg "Inner" "Inner.__init__" (inClass (top 34) 0) C f fd fK fG) (h1 : OkD P w K mg base "_law_near" s__law_near ["_law_keys_here"] 1 spNear)
    (Me_child : Meth K C "child" fC) (Me_beyond : Meth K C "beyond" fB) (Me_separator : Meth K C "separator" fS) (B_child : Binds K fdC ["self", "key"] []) (B_beyond : Binds K fdB ["self", "key"] []) (B_separator : Binds K fdS ["self", "key"] [])
    (G_child : FnOk P w K mg base (CXo P w) 8 fC fdC ["self", "key"] (spLed K C cK 0)) (G_beyond : FnOk P w K mg base (CXo P w) 8 fB fdB ["self", "key"] (spLed K C cK 1)) (G_separator : FnOk P w K mg base (CXo P w) 8 fS fdS ["self", "key"] (spLed K C cK 2)) :
    OkD P w K mg base "_law_led_right" s__law_led_right ["_law_page", "_law_rows"] 10 (spStands C) := by
  obtain ⟨f0, fd0, D⟩ := hd
  obtain ⟨f1, fd1, D_law_near, G_law_near⟩ := h1
  have CL := X.ins.cl
  refine ⟨f0, fd0, D, D.fn.ok sc__law_led_right (fun vs H Q E h => ?_) (fun cdv A outer s H vs Q E hr h => ?_)⟩
  · obtain ⟨_, _, _, _, _, _, _, rfl, _⟩ := h
    rfl
  · obtain ⟨x, dx, r, lk, lp, ks, ps, rfl, pg, rw0, kq⟩ := h
    have sc := sc__law_led_right
    have hu := hr.units0
    have few := pg.few
    have len := pg.len
    have big := big1000
    refine' ⟨_, (pss_cons (ps_asg (pv 1) (pg_tupL rfl (pgs_cons (pg_name (i := 2) sc.nd rfl (Or.inl rfl)) (pgs_cons (pg_name (i := 3) sc.nd rfl (Or.inl rfl)) pgs_nil))))
    (pss_cons (ps_for PassesOwn.never rfl (pi_list (pe_call G_law_near (hr.mono (by decide)) rfl D_law_near.m D_law_near.fn.kp D_law_near.b .nil pass0 (pa_c (pv 2) pa_nil))) (pg_name (i := 4) sc.nd rfl (Or.inl rfl))
      (pss_cons (ps_set (i := 5) sc.nd rfl (Or.inl rfl) pe_int)
    (pss_cons (ps_while PassesOwn.never (PW.pt (pw_and (pt_cmpR op_lt (pv 5) (pe_callB call_len_seq rfl T.n_len bt_len (pa_c (pv 2) pa_nil)) (nomark _)) (pw_and1 (pt_cmpR op_le (pe_ix ix_list (pv 2) (pv 5) (fun _ _ => rfl)) (pv 4) (nomark _)))))
      (pss_one (ps_set (i := 5) sc.nd rfl (Or.inl rfl) (pe_op op_add (pv 5) pe_int))))
    (pss_cons (ps_set (i := 6) sc.nd rfl (Or.inl rfl) (pe_lst (pa_c (pe_ix ix_list (pv 3) (pv 5) (fun _ _ => rfl)) (pa_c (pe_ix ix_list (pe_op op_cat (pv 3) (pe_lst (pa_c pe_non pa_nil))) (pe_op op_add (pv 5) pe_int) (fun _ _ => rfl)) (pa_c (pe_ix ix_list (pe_op op_cat (pv 2) (pe_lst (pa_c pe_non pa_nil))) (pv 5) (fun _ _ => rfl)) pa_nil)))))
    (pss_one (ps_if (pt_cmpR op_ne (pe_callB (call_reprD hr.gd hr.units) rfl T.n_repr bt_repr (pa_c (pe_lst (pa_c (pe_meth (pv 0) CL Me_child G_child (hr.mono (by decide)) B_child .nil passX (pa_c (pv 4) pa_nil)) (pa_c (pe_meth (pv 0) CL Me_beyond G_beyond (hr.mono (by decide)) B_beyond .nil passX (pa_c (pv 4) pa_nil)) (pa_c (pe_meth (pv 0) CL Me_separator G_separator (hr.mono (by decide)) B_separator .nil passX (pa_c (pv 4) pa_nil)) pa_nil)))) pa_nil)) (pe_callB (call_reprD hr.gd hr.units) rfl T.n_repr bt_repr (pa_c (pv 6) pa_nil)) (nomark _))
      (pss_one (ps_ret pe_bl))
      pss_nil))))))
    (pss_one (ps_ret pe_bl)))), ?_⟩
    refine ⟨_, rfl, r, _, rfl, SqL.of rw0.r, rfl, _, _, rfl, _, _, rfl, rfl, ?_⟩
    refine ⟨_, rfl, lk, ks, rfl, rw0.k, by omega, pg.up.2, fun l1 H1 ms f1 S1 e1 bm mne ml => ?_⟩
    refine ⟨l1, rfl, ⟨_, SqL.of e1⟩, for_list (fun i σ H2 => (∃ o4 o5 o6, σ = [some (.ref x), some (.ref r), some (.ref lk), some (.ref lp), o4, o5, o6]) ∧ Same H1 H2) ?_ (fun i σ H2 _ ⟨_, S⟩ => SqL.of (S _ _ e1)) ?_ ?_⟩
    · exact ⟨⟨_, _, _, rfl⟩, Same.refl _⟩
    · rintro i v σ H2 hi ⟨⟨o4, o5, o6, rfl⟩, S2⟩
      rw [List.getElem?_map] at hi
      obtain ⟨k, hk, rfl⟩ := Option.map_eq_some_iff.mp hi
      have kb := bm k (List.mem_of_getElem? hk)
      have rw2 := rw0.keep (S1.trans S2)
      have pg2 := pg.keep (S1.trans S2)
      have le := cnt_le ks k
      dsimp only [gName, tNext]
      refine seq2 (fun σ H3 => σ = [some (.ref x), some (.ref r), some (.ref lk), some (.ref lp), some (.int k), some (.int 0), o6] ∧ H2 = H3) (fun N n => n _ _ ⟨rfl, rfl⟩) ?r0
      rintro _ _ ⟨rfl, rfl⟩
      refine seq2 (fun σ H3 => σ = [some (.ref x), some (.ref r), some (.ref lk), some (.ref lp), some (.int k), some (.int (cnt ks k : Nat)), o6] ∧ H2 = H3) ?wh ?rest
      case wh =>
        intro N n
        refine while_by (fun σ H3 => ∃ j : Nat, j ≤ cnt ks k ∧ σ = [some (.ref x), some (.ref r), some (.ref lk), some (.ref lp), some (.int k), some (.int (j : Nat)), o6] ∧ H2 = H3) (fun σ _ => left5 ks.length σ) ⟨0, Nat.zero_le _, rfl, rfl⟩ ?_ ?_
        · rintro _ _ ⟨j, hj, rfl, rfl⟩
          refine ⟨_, rfl, _, rfl, lk, _, rfl, .inl (SqL.of rw2.k), _, _, rfl, rfl, _, rfl, ?_⟩
          by_cases c : j < cnt ks k
          · obtain ⟨z, ez, zk⟩ := cnt_in pg.up c
            refine iteE (c := true) (decide_eq_true (by rw [List.length_map]; omega)) (iteT ⟨_, rfl, _, rfl, lk, _, _, _, rfl, rfl, SqL.of rw2.k, atI_nat (by rw [List.getElem?_map, ez]; rfl), _, rfl, _, _, rfl, rfl, _, rfl, iteE (c := true) (decide_eq_true zk) (iteT ?_)⟩)
            refine ⟨_, rfl, _, _, rfl, rfl, ⟨j + 1, by omega, (by show [some (V.ref x), some (V.ref r), some (V.ref lk), some (V.ref lp), some (V.int k), some (V.int ((j : Int) + 1)), o6] = _; rw [show ((j : Nat) : Int) + 1 = ((j + 1 : Nat) : Int) by omega]), rfl⟩, ?_⟩
            show ks.length - ((j : Int) + 1).toNat < ks.length - ((j : Nat) : Int).toNat
            omega
          · have ej : j = cnt ks k := by omega
            subst ej
            by_cases cl : cnt ks k < ks.length
            · have ez := List.getElem?_eq_getElem cl
              have lt := cnt_out pg.up ez
              refine iteE (c := true) (decide_eq_true (by rw [List.length_map]; omega)) (iteT ⟨_, rfl, _, rfl, lk, _, _, _, rfl, rfl, SqL.of rw2.k, atI_nat (by rw [List.getElem?_map, ez]; rfl), _, rfl, _, _, rfl, rfl, _, rfl, iteE (c := false) (decide_eq_false (by omega)) (iteF ?_)⟩)
              exact n _ _ ⟨rfl, rfl⟩
            · refine iteE (c := false) (decide_eq_false (by rw [List.length_map]; omega)) (iteF (iteF ?_))
              exact n _ _ ⟨rfl, rfl⟩
        · rintro σ H3 Z Z' hZ ⟨v1, q1, v2, q2, a, ys, q3, q4, i1, j1, q5, q6, b, q7, q8⟩
          refine ⟨v1, q1, v2, q2, a, ys, q3, q4, i1, j1, q5, q6, b, q7, ?_⟩
          cases b with
          | false => exact hZ _ _ q8
          | true =>
            obtain ⟨w1, p1, w2, p2, a', xs', i', y', p3, p4, p5, p6, w3, p7, i2, j2, p8, p9, b2, p10, p11⟩ := q8
            exact ⟨w1, p1, w2, p2, a', xs', i', y', p3, p4, p5, p6, w3, p7, i2, j2, p8, p9, b2, p10, hZ _ _ p11⟩
      case rest =>
      rintro _ _ ⟨rfl, rfl⟩
      have lp1 : cnt ks k < ps.length := by omega
      refine ⟨_, rfl, _, rfl, lp, _, _, _, rfl, rfl, SqL.of rw2.p, atI_nat (by rw [List.getElem?_map, List.getElem?_eq_getElem lp1]; rfl), ?_⟩
      have e0 : V.int ps[cnt ks k] = ledOf ks ps k 0 := by
        unfold ledOf
        rw [if_pos rfl, List.getElem?_eq_getElem lp1]
      rw [e0]
      refine ⟨_, rfl, (by show 1 ≤ sizeLine; decide), fun l3 f3 => ?_⟩
      have S3 := Same.upd (o := .lst [.non]) f3
      have e3 := upd_same (H := H2) (a := l3) (o := .lst [.non])
      have rw3 := rw2.keep S3
      have U3 := S2.trans S3
      generalize upd H2 l3 _ = H3 at *
      refine ⟨lp, l3, _, _, rfl, rfl, rw3.p, e3, by simp only [List.length_map, List.length_cons, List.length_nil]; omega, fun l4 f4 => ?_⟩
      have S4 := Same.upd (o := .lst (ps.map V.int ++ [.non])) f4
      have e4 := upd_same (H := H3) (a := l4) (o := .lst (ps.map V.int ++ [.non]))
      have rw4 := rw3.keep S4
      have U4 := U3.trans S4
      generalize upd H3 l4 _ = H4 at *
      refine ⟨_, rfl, _, _, rfl, rfl, l4, _, _, _, rfl, rfl, SqL.of e4, (by have := at_non (xs := ps) (j := cnt ks k + 1) (by omega); rw [show ((cnt ks k + 1 : Nat) : Int) = ((cnt ks k : Nat) : Int) + 1 by omega] at this; exact this), ?_⟩
      have e1' : (match ps[cnt ks k + 1]? with | some p => V.int p | none => .non) = ledOf ks ps k 1 := by
        unfold ledOf
        rw [if_neg (by decide), if_pos rfl]
        all_goals rfl
      rw [e1']
      refine ⟨_, rfl, (by show 1 ≤ sizeLine; decide), fun l5 f5 => ?_⟩
      have S5 := Same.upd (o := .lst [.non]) f5
      have e5 := upd_same (H := H4) (a := l5) (o := .lst [.non])
      have rw5 := rw4.keep S5
      have U5 := U4.trans S5
      generalize upd H4 l5 _ = H5 at *
      refine ⟨lk, l5, _, _, rfl, rfl, rw5.k, e5, by simp only [List.length_map, List.length_cons, List.length_nil]; omega, fun l6 f6 => ?_⟩
      have S6 := Same.upd (o := .lst (ks.map V.int ++ [.non])) f6
      have e6 := upd_same (H := H5) (a := l6) (o := .lst (ks.map V.int ++ [.non]))
      have U6 := U5.trans S6
      generalize upd H5 l6 _ = H6 at *
      refine ⟨_, rfl, l6, _, _, _, rfl, rfl, SqL.of e6, at_non le, ?_⟩
      have e2' : (match ks[cnt ks k]? with | some p => V.int p | none => .non) = ledOf ks ps k 2 := by
        unfold ledOf
        rw [if_neg (by decide), if_neg (by decide)]
        all_goals rfl
      rw [e2']
      refine ⟨(by show 3 ≤ sizeLine; decide), fun ld fd7 => ?_⟩
      have S7 := Same.upd (o := .lst [ledOf ks ps k 0, ledOf ks ps k 1, ledOf ks ps k 2]) fd7
      have e7 := upd_same (H := H6) (a := ld) (o := .lst [ledOf ks ps k 0, ledOf ks ps k 1, ledOf ks ps k 2])
      have U7 := U6.trans S7
      generalize upd H6 ld _ = H7 at *
      have kk : keyV (.int k) = true := by
        show (decide (-999999999 ≤ k) && decide (k ≤ 999999999)) = true
        rw [decide_eq_true kb.1, decide_eq_true kb.2]
        rfl
      have ask : ∀ {H8 : Hp} {w0 : Nat} {R : VK}, Same H1 H8 → (∀ H9, Same H8 H9 → R (ledOf ks ps k w0) H9) → spLed K C cK w0 [.ref x, .int k] H8 R E0 := fun {H8 w0 R} S q => ⟨x, dx, .int k, _, ks, ps, rfl, pg.keep (S1.trans S), (DV.int (N := fun _ => False) (H := H8) k).thg, (fun c => by rw [kk] at c; cases c), fun k' ek _ H9 S9 => by cases ek; exact q H9 S9⟩
      have hxx : ∀ {H8 : Hp}, Same H1 H8 → ∃ tk tg : Addr, H8 x = some (.ins C dx [("key_row", .ref tk), ("good_row", .ref tg)]) := fun S => by
        obtain ⟨tk, tg, hx, _⟩ := (pg.keep (S1.trans S)).pg
        exact ⟨tk, tg, hx⟩
      obtain ⟨_, _, hx7⟩ := hxx U7
      refine ⟨_, rfl, x, dx, _, rfl, hx7, rfl, _, rfl, ?_⟩
      dsimp only [tNil, List.append_nil]
      refine ask U7 fun H8 S8 => ?_
      have U8 := U7.trans S8
      obtain ⟨_, _, hx8⟩ := hxx U8
      refine ⟨_, rfl, x, dx, _, rfl, hx8, rfl, _, rfl, ?_⟩
      dsimp only [tNil, List.append_nil]
      refine ask U8 fun H9 S9 => ?_
      have U9 := U8.trans S9
      obtain ⟨_, _, hx9⟩ := hxx U9
      refine ⟨_, rfl, x, dx, _, rfl, hx9, rfl, _, rfl, ?_⟩
      dsimp only [tNil, List.append_nil]
      refine ask U9 fun H10 S10 => ?_
      have U10 := U9.trans S10
      refine ⟨(by show 3 ≤ sizeLine; decide), fun lf ff => ?_⟩
      have S11 := Same.upd (o := .lst [ledOf ks ps k 0, ledOf ks ps k 1, ledOf ks ps k 2]) ff
      have e11 := upd_same (H := H10) (a := lf) (o := .lst [ledOf ks ps k 0, ledOf ks ps k 1, ledOf ks ps k 2])
      have ed := S11 _ _ (S10 _ _ (S9 _ _ (S8 _ _ e7)))
      have U11 := U10.trans S11
      generalize upd H10 lf _ = H11 at *
      obtain ⟨d0, x0, s0⟩ := led_small (ks := ks) (ps := ps) (k := k) (w := 0) pg.up pg.ok (H := H11)
      obtain ⟨d1, x1, s1⟩ := led_small (ks := ks) (ps := ps) (k := k) (w := 1) pg.up pg.ok (H := H11)
      obtain ⟨d2, x2, s2⟩ := led_small (ks := ks) (ps := ps) (k := k) (w := 2) pg.up pg.ok (H := H11)
      have dv : ∀ {l : Addr}, H11 l = some (.lst [ledOf ks ps k 0, ledOf ks ps k 1, ledOf ks ps k 2]) → DV (fun _ => False) H11 (.ref l) (.list [d0, d1, d2]) := fun e => .lst (fun z => z) e (.cons x0 (.cons x1 (.cons x2 .nil)))
      refine ⟨_, _, _, rfl, dv e11, okd_three s0 s1 s2, _, rfl, _, _, _, rfl, dv ed, okd_three s0 s1 s2, rfl, _, rfl, iteE (c := false) (by rw [decide_eq_true rfl]; rfl) (iteF ?_)⟩
      exact ⟨⟨_, _, _, rfl⟩, U11⟩
    · rintro σ H2 ⟨_, S2⟩
      exact kq _ (S1.trans S2)
end
end K14
set_option Elab.async false
set_option linter.all false
set_option maxRecDepth 100000
set_option maxHeartbeats 1000000
namespace K14
open PySem L2
theorem told_int {p : Addr} {H : Hp} {i : Int} (h : i.natAbs ≤ 10 ^ 30) : Told p H (.int i) (.int i) := ⟨.int i, small_int h⟩
section
variable {P : Program} {w : World} {K : PySem.W.Frag} {mg : Str → Option Value} {base : Heap}
abbrev s__law_deed : Stmt := top 53
theorem sc__law_deed : FnScope ["_law_box_here", "_law_rows", "_law_spoilt", "_law_way", "_law_some", "_law_key", "_law_place"] ["_law_box_here", "_law_rows"] (defScope s__law_deed) := ⟨rfl, rfl, rfl, by decide +kernel, rfl, by decide +kernel, by decide +kernel⟩
def spDeed : Sp := fun vs H Q _ => ∃ (p r lk lp : Addr) (n : Nat) (ks ps : List Int), vs = [.ref p, .ref r] ∧ Box H p n ∧ n ≤ 900000 ∧ Rows H r lk lp ks ps ∧ r ≠ p ∧ lk ≠ p ∧ lp ≠ p ∧ Up ks ∧ ks.length ≤ 6 ∧ ps.length = ks.length + 1 ∧ (∀ q ∈ ps, Plc q) ∧
  ∀ (t : Addr) (wd : Str) (v g : V) (d d' : PyData) (H' : Hp), (wd = "with" ∨ wd = "without") → H' t = some (.tup [.str wd, v, g]) → Told p H' v d → Told p H' g d' → (∀ a, v = .ref a → H a = none) → (∀ a, g = .ref a → H a = none) → (∀ i : Int, g = .int i → i ≤ 999999999999999999999999999999) → Box H' p (n + 20) → KB p H H' → Q (.ref t) H'
theorem ok_deed (hd : ∃ f fd, Dn K mg "_law_deed" "_law_deed" s__law_deed ["_law_box_here", "_law_rows"] f fd) (T : Txt K mg) (h1 : OkD P w K mg base "_law_take" s__law_take ["_law_box_here", "_law_many"] 1 spTake) (h2 : OkD P w K mg base "_law_near" s__law_near ["_law_keys_here"] 1 spNear) (h4 : OkD P w K mg base "_law_odd" s__law_odd ["_law_box_here"] 2 spOdd) :
    OkD P w K mg base "_law_deed" s__law_deed ["_law_box_here", "_law_rows"] 3 spDeed := by
  obtain ⟨f, fd, D⟩ := hd
  obtain ⟨f1, fd1, D_law_take, G_law_take⟩ := h1
  obtain ⟨f2, fd2, D_law_near, G_law_near⟩ := h2
  obtain ⟨f4, fd4, D_law_odd, G_law_odd⟩ := h4
  refine ⟨f, fd, D, D.fn.ok sc__law_deed (fun vs H Q E h => ?_) (fun cdv A outer s H vs Q E hr h => ?_)⟩
  · obtain ⟨_, _, _, _, _, _, _, rfl, _⟩ := h
    rfl
  · obtain ⟨p, r, lk, lp, n, ks, ps, rfl, B, hn, rw0, nr, nk, np, up, few, len, okp, k⟩ := h
    have sc := sc__law_deed
    have hu := hr.units0
    have big := big1000
    have rows : ∀ {H' : Hp}, KB p H H' → Rows H' r lk lp ks ps := fun kb => ⟨kb _ _ rw0.r nr, kb _ _ rw0.k nk, kb _ _ rw0.p np⟩
    refine' ⟨_, (pss_cons (ps_set (i := 2) sc.nd rfl (Or.inl rfl) (pe_call G_law_take (hr.mono (by decide)) rfl D_law_take.m D_law_take.fn.kp D_law_take.b .nil pass0 (pa_c (pv 0) (pa_c pe_int pa_nil))))
    (pss_cons (ps_set (i := 3) sc.nd rfl (Or.inl rfl) (pe_call G_law_take (hr.mono (by decide)) rfl D_law_take.m D_law_take.fn.kp D_law_take.b .nil pass0 (pa_c (pv 0) (pa_c pe_int pa_nil))))
    (pss_cons (ps_set (i := 4) sc.nd rfl (Or.inl rfl) (pe_op op_cat (pe_call G_law_near (hr.mono (by decide)) rfl D_law_near.m D_law_near.fn.kp D_law_near.b .nil pass0 (pa_c (pe_ix ix_list (pv 1) pe_int (fun _ _ => rfl)) pa_nil)) (pe_lst (pa_c (pe_op op_sub (pe_call G_law_take (hr.mono (by decide)) rfl D_law_take.m D_law_take.fn.kp D_law_take.b .nil pass0 (pa_c (pv 0) (pa_c pe_int pa_nil))) pe_int) pa_nil))))
    (pss_cons (ps_set (i := 5) sc.nd rfl (Or.inl rfl) (pe_ix ix_list (pv 4) (pe_call G_law_take (hr.mono (by decide)) rfl D_law_take.m D_law_take.fn.kp D_law_take.b .nil pass0 (pa_c (pv 0) (pa_c (pe_callB call_len_seq rfl T.n_len bt_len (pa_c (pv 4) pa_nil)) pa_nil))) (fun _ _ => rfl)))
    (pss_cons (ps_if (PW.pt (pw_and (pt_cmpR op_eq (pv 3) pe_int (nomark _)) (pw_and1 (pt_cmpR (op_neL hu) (pe_ix ix_list (pv 1) pe_int (fun _ _ => rfl)) (pe_lst pa_nil) (nomark _)))))
      (pss_one (ps_set (i := 5) sc.nd rfl (Or.inl rfl) (pe_ix ix_list (pe_ix ix_list (pv 1) pe_int (fun _ _ => rfl)) (pe_call G_law_take (hr.mono (by decide)) rfl D_law_take.m D_law_take.fn.kp D_law_take.b .nil pass0 (pa_c (pv 0) (pa_c (pe_callB call_len_seq rfl T.n_len bt_len (pa_c (pe_ix ix_list (pv 1) pe_int (fun _ _ => rfl)) pa_nil)) pa_nil))) (fun _ _ => rfl))))
      pss_nil)
    (pss_cons (ps_set (i := 6) sc.nd rfl (Or.inl rfl) (pe_ix ix_list (pe_lst (pa_c (pe_call G_law_take (hr.mono (by decide)) rfl D_law_take.m D_law_take.fn.kp D_law_take.b .nil pass0 (pa_c (pv 0) (pa_c pe_int pa_nil))) (pa_c (pe_op op_sub (pe_op op_sub (pe_op op_pow pe_int pe_int) pe_int) (pe_call G_law_take (hr.mono (by decide)) rfl D_law_take.m D_law_take.fn.kp D_law_take.b .nil pass0 (pa_c (pv 0) (pa_c pe_int pa_nil)))) pa_nil))) (pe_call G_law_take (hr.mono (by decide)) rfl D_law_take.m D_law_take.fn.kp D_law_take.b .nil pass0 (pa_c (pv 0) (pa_c pe_int pa_nil))) (fun _ _ => rfl)))
    (pss_cons (ps_if (PW.pt (pw_or (pt_cmpR op_eq (pv 2) pe_int (nomark _)) (pw_or1 (pt_cmpR op_eq (pv 2) pe_int (nomark _)))))
      (pss_one (ps_set (i := 5) sc.nd rfl (Or.inl rfl) (pe_call G_law_odd (hr.mono (by decide)) rfl D_law_odd.m D_law_odd.fn.kp D_law_odd.b .nil pass0 (pa_c (pv 0) pa_nil))))
      pss_nil)
    (pss_cons (ps_if (PW.pt (pw_or (pt_cmpR op_eq (pv 2) pe_int (nomark _)) (pw_or1 (pt_cmpR op_eq (pv 2) pe_int (nomark _)))))
      (pss_one (ps_set (i := 6) sc.nd rfl (Or.inl rfl) (pe_call G_law_odd (hr.mono (by decide)) rfl D_law_odd.m D_law_odd.fn.kp D_law_odd.b .nil pass0 (pa_c (pv 0) pa_nil))))
      pss_nil)
    (pss_cons (ps_if (pt_cmpR op_eq (pv 2) pe_int (nomark _))
      (pss_one (ps_set (i := 6) sc.nd rfl (Or.inl rfl) (pe_ix ix_list (pe_ix ix_list (pv 1) pe_int (fun _ _ => rfl)) (pe_call G_law_take (hr.mono (by decide)) rfl D_law_take.m D_law_take.fn.kp D_law_take.b .nil pass0 (pa_c (pv 0) (pa_c (pe_callB call_len_seq rfl T.n_len bt_len (pa_c (pe_ix ix_list (pv 1) pe_int (fun _ _ => rfl)) pa_nil)) pa_nil))) (fun _ _ => rfl))))
      pss_nil)
    (pss_one (ps_ret (pe_tup (pa_c (pe_ix ix_list (pe_lst (pa_c pe_str (pa_c pe_str pa_nil))) (pe_callTy call_int1 rfl T.n_int bt_int (pa_c (pe_cmpR op_gt (pv 3) pe_int (nomark _)) pa_nil)) (fun _ _ => rfl)) (pa_c (pv 5) (pa_c (pv 6) pa_nil))))))))))))))), ?_⟩
    refine ⟨_, rfl, p, 8, n, rfl, B, by omega, by decide, by decide, fun sp H1 a0 a1 B1 k1 => ?_⟩
    refine ⟨_, rfl, p, 5, n + 1, rfl, B1, by omega, by decide, by decide, fun way H2 b0 b1 B2 k2 => ?_⟩
    have K2 := k1.trans k2
    have rw2 := rows K2
    refine ⟨_, rfl, r, _, _, _, rfl, rfl, SqL.of rw2.r, rfl, lk, ks, rfl, rw2.k, by omega, up.2, fun l5 H5 ms f5 S5 e5 bm mne ml => ?_⟩
    have B5 := B2.same S5
    have K5 := K2.trans S5.kb
    have n5 : l5 ≠ p := B2.ne (H1 := H2) f5
    refine ⟨_, rfl, p, 30, n + 2, rfl, B5, by omega, by decide, by decide, fun r6 H6 c0 c1 B6 k6 => ⟨_, _, rfl, rfl, (by show 1 ≤ sizeLine; decide), fun l6 f6 => ?_⟩⟩
    have S7 := Same.upd (o := .lst [.int (r6 - 15)]) f6
    have e6 := upd_same (H := H6) (a := l6) (o := .lst [.int (r6 - 15)])
    have e5' := S7 _ _ (k6 _ _ e5 n5)
    have B7 := B6.same S7
    have K7 := (K5.trans k6).trans S7.kb
    generalize upd H6 l6 (.lst [.int (r6 - 15)]) = H7 at *
    refine ⟨l5, l6, _, _, rfl, rfl, e5', e6, by rw [List.length_map]; show ms.length + 1 ≤ _; omega, fun l8 f8 => ?_⟩
    have S8 := Same.upd (o := .lst (ms.map V.int ++ [.int (r6 - 15)])) f8
    have e8 := upd_same (H := H7) (a := l8) (o := .lst (ms.map V.int ++ [.int (r6 - 15)]))
    have n8 : l8 ≠ p := B7.ne (H1 := H7) f8
    have B8 := B7.same S8
    have K8 := K7.trans S8.kb
    generalize upd H7 l8 (.lst (ms.map V.int ++ [.int (r6 - 15)])) = H8 at *
    have em : ms.map V.int ++ [V.int (r6 - 15)] = (ms ++ [r6 - 15]).map V.int := by rw [List.map_append]; rfl
    rw [em] at e8
    have bs : ∀ z ∈ ms ++ [r6 - 15], z.natAbs ≤ 10 ^ 30 := fun z hz => by
      rcases List.mem_append.mp hz with h | h
      · have := bm z h; omega
      · rw [List.mem_singleton.mp h]; omega
    have ls : (ms ++ [r6 - 15]).length ≤ 64 := by rw [List.length_append]; show ms.length + 1 ≤ 64; omega
    have ls0 : 0 < (ms ++ [r6 - 15]).length := by rw [List.length_append]; show 0 < ms.length + 1; omega
    generalize ms ++ [r6 - 15] = ss at *
    clear S5 S7 S8 K2 K5 K7 B1 B2 B5 B6 B7 k1 k2 k6 e5 e5' e6
    refine ⟨_, rfl, _, rfl, _, rfl, _, _, rfl, .inl (SqL.of e8), p, _, n + 3, rfl, B8, by omega, by rw [List.length_map]; omega, by rw [List.length_map]; omega, fun r9 H9 c2 c3 B9 k9 => ?_⟩
    rw [List.length_map] at c3
    obtain ⟨z, hz, ez⟩ := atI_ints (ns := ss) (r := r9) c2 c3
    refine ⟨_, _, _, _, rfl, rfl, SqL.of (k9 _ _ e8 n8), ez, ?_⟩
    have K9 := K8.trans k9
    have zz := bs z hz
    clear K8 k9 B8
    dsimp only [gName, tNext]
    refine seq2 (fun σ H' => ∃ i : Int, σ = [some (.ref p), some (.ref r), some (.int sp), some (.int way), some (.ref l8), some (.int i), none] ∧ i.natAbs ≤ 10 ^ 30 ∧ Box H' p (n + 10) ∧ KB p H H') ?s5 ?r5
    case s5 =>
      intro N q
      have rw9 := rows K9
      refine ⟨_, rfl, rfl, _, rfl, ite2 (fun _ => ?_) (fun _ => iteF (q _ _ ⟨z, rfl, zz, B9.mono (by omega), K9⟩))⟩
      refine ⟨_, rfl, r, _, _, _, rfl, rfl, SqL.of rw9.r, rfl, (by show 0 ≤ sizeLine; decide), fun q0 fq => ?_⟩
      have S10 := Same.upd (o := .lst []) fq
      have e10 := upd_same (H := H9) (a := q0) (o := .lst [])
      have B10 := B9.same S10
      have K10 := K9.trans S10.kb
      generalize upd H9 q0 (.lst []) = H10 at *
      have rw10 := rows K10
      refine ⟨_, _, ks.map V.int, [], rfl, rfl, SqL.of rw10.k, SqL.of e10, okPs_nil, _, rfl, ?_⟩
      rw [eqPs_nil]
      by_cases ne : ks.length = 0
      · refine iteE (c := false) ?_ (iteF (q _ _ ⟨z, rfl, zz, B10.mono (by omega), K10⟩))
        rw [List.length_eq_zero_iff.mp ne]
        rfl
      · refine iteE (c := true) ?_ (iteT ?_)
        · cases ks with
          | nil => exact absurd rfl ne
          | cons a as => rfl
        refine ⟨_, rfl, r, _, _, _, rfl, rfl, SqL.of rw10.r, rfl, _, rfl, _, rfl, r, _, _, _, rfl, rfl, SqL.of rw10.r, rfl, lk, _, rfl, .inl (SqL.of rw10.k), p, _, n + 4, rfl, B10, by omega, by rw [List.length_map]; omega, by rw [List.length_map]; omega, fun r12 H12 d0 d1 B12 k12 => ?_⟩
        rw [List.length_map] at d1
        obtain ⟨y, hy, ey⟩ := atI_ints (ns := ks) (r := r12) d0 d1
        refine ⟨_, _, _, _, rfl, rfl, SqL.of (rows (K10.trans k12)).k, ey, q _ _ ⟨y, rfl, ?_, B12.mono (by omega), K10.trans k12⟩⟩
        have := up.2 y hy
        omega
    case r5 =>
    rintro _ H10 ⟨i, rfl, hi, B10, K10⟩
    clear K9 B9
    have e30 : (10 : Int) ^ (30 : Int).toNat = 1000000000000000000000000000000 := by decide +kernel
    refine ⟨_, rfl, p, 12, n + 10, rfl, B10, by omega, by decide, by decide, fun r11 H11 u0 u1 B11 k11 => ⟨_, _, rfl, rfl, cp (by decide) (by decide), _, _, rfl, rfl, _, rfl, p, 3, n + 10 + 1, rfl, B11, by omega, by decide, by decide, fun r12 H12 x0 x1 B12 k12 => ⟨_, _, rfl, rfl, (by show 2 ≤ sizeLine; decide), fun l13 f13 => ?_⟩⟩⟩
    have S13 := Same.upd (o := .lst [.int r11, .int (10 ^ (30 : Int).toNat - 1 - r12)]) f13
    have e13 := upd_same (H := H12) (a := l13) (o := .lst [.int r11, .int (10 ^ (30 : Int).toNat - 1 - r12)])
    have n13 : l13 ≠ p := B12.ne (H1 := H12) f13
    have B13 := B12.same S13
    have K13 := ((K10.trans k11).trans k12).trans S13.kb
    generalize upd H12 l13 (.lst [.int r11, .int (10 ^ (30 : Int).toNat - 1 - r12)]) = H13 at *
    refine ⟨_, rfl, p, 2, n + 12, rfl, B13, by omega, by decide, by decide, fun r14 H14 y0 y1 B14 k14 => ?_⟩
    obtain ⟨j, hj, ej⟩ := atI_ints (ns := [r11, 10 ^ (30 : Int).toNat - 1 - r12]) (r := r14) y0 (by show r14 < 2; exact y1)
    refine ⟨_, _, _, _, rfl, rfl, SqL.of (k14 _ _ e13 n13), ej, ?_⟩
    have bj : j.natAbs ≤ 10 ^ 30 ∧ j ≤ 999999999999999999999999999999 := by
      rw [e30] at hj
      simp only [List.mem_cons, List.not_mem_nil, or_false] at hj
      omega
    have K14 := K13.trans k14
    clear K10 K13 k11 k12 k14 B10 B11 B12 B13 S13 e13
    dsimp only [gName, tNext]
    refine seq2 (fun σ H' => ∃ v d, σ = [some (.ref p), some (.ref r), some (.int sp), some (.int way), some (.ref l8), some v, some (.int j)] ∧ Told p H' v d ∧ (∀ a, v = .ref a → H a = none) ∧ Box H' p (n + 14) ∧ KB p H H') ?s7 ?r7
    case s7 =>
      intro N q
      have odd : ∀ (Q' : VK), (∀ v H', (∃ d, Told p H' v d ∧ (∀ a, v = .ref a → H a = none) ∧ Box H' p (n + 14) ∧ KB p H H') → Q' v H') → spOdd [.ref p] H14 Q' E0 := fun Q' z => ⟨p, n + 13, rfl, B14, by omega, fun v d H' td fv _ _ B' k' => z v H' ⟨d, td, fun a e => kb_back K14 (fv a e) (by rintro rfl; obtain ⟨xs, q⟩ := B14.lst; rw [fv _ e] at q; cases q), B', K14.trans k'⟩⟩
      refine ⟨_, rfl, rfl, _, rfl, ite2 (fun _ => iteT ?_) (fun _ => ⟨_, rfl, rfl, _, rfl, ite2 (fun _ => ?_) (fun _ => ?_)⟩)⟩
      · exact ⟨_, rfl, odd _ fun v H' ⟨d, td, fv, B', K'⟩ => q _ _ ⟨v, d, rfl, td, fv, B', K'⟩⟩
      · exact ⟨_, rfl, odd _ fun v H' ⟨d, td, fv, B', K'⟩ => q _ _ ⟨v, d, rfl, td, fv, B', K'⟩⟩
      · exact q _ _ ⟨_, _, rfl, told_int hi, (fun a e => nomatch e), B14.mono (by omega), K14⟩
    case r7 =>
    rintro _ H15 ⟨v, d, rfl, tv, fv, B15, K15⟩
    clear K14 B14
    refine seq2 (fun σ H' => ∃ g d', σ = [some (.ref p), some (.ref r), some (.int sp), some (.int way), some (.ref l8), some v, some g] ∧ Told p H' v d ∧ Told p H' g d' ∧ (∀ a, g = .ref a → H a = none) ∧ (∀ i : Int, g = .int i → i ≤ 999999999999999999999999999999) ∧ Box H' p (n + 15) ∧ KB p H H') ?s8 ?r8
    case s8 =>
      intro N q
      have odd : ∀ (Q' : VK), (∀ g H', (∃ d', Told p H' v d ∧ Told p H' g d' ∧ (∀ a, g = .ref a → H a = none) ∧ (∀ i : Int, g = .int i → i ≤ 999999999999999999999999999999) ∧ Box H' p (n + 15) ∧ KB p H H') → Q' g H') → spOdd [.ref p] H15 Q' E0 := fun Q' z => ⟨p, n + 14, rfl, B15, by omega, fun g d' H' td fv bg _ B' k' => z g H' ⟨d', tv.keep k', td, fun a e => kb_back K15 (fv a e) (by rintro rfl; obtain ⟨xs, q⟩ := B15.lst; rw [fv _ e] at q; cases q), bg, B', K15.trans k'⟩⟩
      refine ⟨_, rfl, rfl, _, rfl, ite2 (fun _ => iteT ?_) (fun _ => ⟨_, rfl, rfl, _, rfl, ite2 (fun _ => ?_) (fun _ => ?_)⟩)⟩
      · exact ⟨_, rfl, odd _ fun g H' ⟨d', tv', td, fg, bg, B', K'⟩ => q _ _ ⟨g, d', rfl, tv', td, fg, bg, B', K'⟩⟩
      · exact ⟨_, rfl, odd _ fun g H' ⟨d', tv', td, fg, bg, B', K'⟩ => q _ _ ⟨g, d', rfl, tv', td, fg, bg, B', K'⟩⟩
      · exact q _ _ ⟨_, _, rfl, tv, told_int bj.1, (fun a e => nomatch e), (fun i e => by cases e; exact bj.2), B15.mono (by omega), K15⟩
    case r8 =>
    rintro _ H16 ⟨g, d', rfl, tv, tg, fg, bg, B16, K16⟩
    clear K15 B15
    refine seq2 (fun σ H' => ∃ g d', σ = [some (.ref p), some (.ref r), some (.int sp), some (.int way), some (.ref l8), some v, some g] ∧ Told p H' v d ∧ Told p H' g d' ∧ (∀ a, g = .ref a → H a = none) ∧ (∀ i : Int, g = .int i → i ≤ 999999999999999999999999999999) ∧ Box H' p (n + 16) ∧ KB p H H') ?s9 ?r9
    case s9 =>
      intro N q
      have rw16 := rows K16
      refine ⟨_, rfl, rfl, _, rfl, ite2 (fun _ => ?_) (fun _ => q _ _ ⟨g, d', rfl, tv, tg, fg, bg, B16.mono (by omega), K16⟩)⟩
      refine ⟨_, rfl, r, _, _, _, rfl, rfl, SqL.of rw16.r, rfl, _, rfl, _, rfl, r, _, _, _, rfl, rfl, SqL.of rw16.r, rfl, lp, _, rfl, .inl (SqL.of rw16.p), p, _, n + 15, rfl, B16, by omega, by rw [List.length_map]; omega, by rw [List.length_map]; omega, fun r17 H17 d0 d1 B17 k17 => ?_⟩
      rw [List.length_map] at d1
      obtain ⟨y, hy, ey⟩ := atI_ints (ns := ps) (r := r17) d0 d1
      have py := okp y hy
      unfold Plc at py
      exact ⟨_, _, _, _, rfl, rfl, SqL.of (rows (K16.trans k17)).p, ey, q _ _ ⟨.int y, _, rfl, tv.keep k17, told_int (by omega), (fun a e => nomatch e), (fun i e => by cases e; exact py.2), B17, K16.trans k17⟩⟩
    case r9 =>
    clear g d' tg fg bg tv
    rintro _ H17 ⟨g, d', rfl, tv, tg, fg, bg, B17, K17⟩
    refine ⟨(by show 2 ≤ sizeLine; decide), fun l0 f0 => ⟨_, rfl, _, _, rfl, rfl, .inr ⟨_, rfl, ?_⟩⟩⟩
    obtain ⟨wd, hwd, ew⟩ : ∃ wd : Str, (wd = "with" ∨ wd = "without") ∧ atI [V.str "with", V.str "without"] (if decide (2 < way) = true then 1 else 0) = some (.str wd) := by
      by_cases c : 2 < way
      · exact ⟨"without", .inr rfl, by rw [decide_eq_true c]; rfl⟩
      · exact ⟨"with", .inl rfl, by rw [decide_eq_false c]; rfl⟩
    refine ⟨_, _, _, _, rfl, rfl, SqL.of upd_same, ew, ?_⟩
    have S0 := Same.upd (o := .lst [V.str "with", V.str "without"]) f0
    have B18 := B17.same S0
    have K18 := K17.trans S0.kb
    have tv18 := tv.keep S0.kb
    have tg18 := tg.keep S0.kb
    generalize upd H17 l0 (.lst [V.str "with", V.str "without"]) = H18 at *
    refine ⟨_, rfl, _, rfl, (by show 3 ≤ sizeLine; decide), fun t ft => ?_⟩
    have S := Same.upd (o := .tup [.str wd, v, g]) ft
    exact k t wd v g d d' _ hwd upd_same (tv18.keep S.kb) (tg18.keep S.kb) fv fg bg ((B18.same S).mono (by omega)) (K18.trans S.kb)
end
end K14
set_option Elab.async false
set_option linter.all false
set_option maxRecDepth 100000
set_option maxHeartbeats 1000000
namespace K14
open PySem L2
theorem dv_two {p l : Addr} {H : Hp} {v g : V} {d d' : PyData} (tv : Told p H v d) (tg : Told p H g d') (e : H l = some (.lst [v, g])) : DV (fun _ => False) H (.ref l) (.list [d, d']) :=
  .lst (fun z => z) e (.cons (tv.1.keep (fun _ _ _ z => z) fun _ z => z.elim) (.cons (tg.1.keep (fun _ _ _ z => z) fun _ z => z.elim) .nil))
theorem dv_there {N : Addr → Prop} {H : Hp} {a : Addr} {d : PyData} (x : DV N H (.ref a) d) : ∃ o, H a = some o := by
  cases x with
  | lst _ e _ => exact ⟨_, e⟩
  | tup _ e _ => exact ⟨_, e⟩
  | dct _ e _ => exact ⟨_, e⟩
theorem told_same {p : Addr} {H H' : Hp} {v : V} {d : PyData} (x : Told p H v d) (s : Same H H') : Told p H' v d := x.keep s.kb
theorem w_key : (PyData.str "key").leavesShort 40 = true ∧ ("key" : Str).cps.size ≤ 100 := by decide +kernel
theorem due_told {ks ps : List Int} {wd w : Str} {v g u : V} {p : Addr} {H : Hp} {d d' : PyData} (h : dueOf ks ps wd v g = some (w, u)) (tv : Told p H v d) (tg : Told p H g d') : (∃ d0, Told p H u d0) ∧ (u = v ∨ u = g ∨ u = .int 7) ∧ (PyData.str w).leavesShort 40 = true ∧ w.cps.size ≤ 100 := by
  have w2 : (PyData.str "lacks").leavesShort 40 = true ∧ ("lacks" : Str).cps.size ≤ 100 := by decide +kernel
  have w3 : (PyData.str "place").leavesShort 40 = true ∧ ("place" : Str).cps.size ≤ 100 := by decide +kernel
  have w4 : (PyData.str "many").leavesShort 40 = true ∧ ("many" : Str).cps.size ≤ 100 := by decide +kernel
  have w5 : (PyData.str "has").leavesShort 40 = true ∧ ("has" : Str).cps.size ≤ 100 := by decide +kernel
  cases hc : keyV v with
  | false =>
    rw [due_key hc] at h
    cases h
    exact ⟨⟨_, tv⟩, .inl rfl, w_key⟩
  | true =>
    obtain ⟨k, rfl, _⟩ := keyV_int hc
    unfold dueOf at h
    rw [if_pos hc] at h
    dsimp only at h
    split at h
    · split at h
      · cases h
      · cases h
        exact ⟨⟨_, tv⟩, .inl rfl, w2⟩
    · split at h
      · cases h
        exact ⟨⟨_, tg⟩, .inr (.inl rfl), w3⟩
      · split at h
        · cases h
          exact ⟨⟨_, tv⟩, .inl rfl, w5⟩
        · split at h
          · cases h
            exact ⟨⟨_, told_int (by decide)⟩, .inr (.inr rfl), w4⟩
          · cases h
theorem okd_two {d d' : PyData} (x : Small d) (x' : Small d') : Okd 100000 (.list [d, d']) := by
  obtain ⟨a, b, c, e⟩ := smalls_row (ds := [d, d']) fun y hy => by
    rcases List.mem_cons.mp hy with rfl | hy
    · exact x
    · rw [List.mem_singleton.mp hy]; exact x'
  refine ⟨a, b, ?_, ?_⟩
  · simp only [PyData.depth]; omega
  · simp only [PyData.weight]
    have : ([d, d'] : List PyData).length = 2 := rfl
    omega
def Grown (j : Nat) (d : PyData) : Prop := Small d ∧ (isL d = false ∨ ∃ i, i ≤ j ∧ d = .list (.int 0 :: List.replicate i (.str "more")))
theorem small_more : ∀ i, i ≤ 3 → Small (.list (.int 0 :: List.replicate i (.str "more")))
  | 0, _ => small_l
  | 1, _ => ⟨⟨by decide +kernel, by decide +kernel, by decide +kernel, by decide +kernel⟩, (fun _ z => nomatch z), by decide +kernel⟩
  | 2, _ => ⟨⟨by decide +kernel, by decide +kernel, by decide +kernel, by decide +kernel⟩, (fun _ z => nomatch z), by decide +kernel⟩
  | 3, _ => ⟨⟨by decide +kernel, by decide +kernel, by decide +kernel, by decide +kernel⟩, (fun _ z => nomatch z), by decide +kernel⟩
  | _ + 4, h => absurd h (by omega)
theorem Grown.first {d : PyData} (s : Small d) (h : ∀ es, d = .list es → es = [.int 0]) : Grown 0 d := by
  refine ⟨s, ?_⟩
  cases d with
  | list es =>
    rw [h es rfl]
    exact .inr ⟨0, Nat.le_refl _, rfl⟩
  | _ => exact .inl rfl
theorem Grown.more {j : Nat} {d d' : PyData} (g : Grown j d) (hj : j < 3) (m : More d d') : Grown (j + 1) d' := by
  obtain ⟨s, g⟩ := g
  rcases m with rfl | ⟨es, rfl, rfl⟩
  · refine ⟨s, ?_⟩
    rcases g with g | ⟨i, hi, e⟩
    · exact .inl g
    · exact .inr ⟨i, by omega, e⟩
  · rcases g with g | ⟨i, hi, e⟩
    · cases g
    · cases e
      have e2 : (PyData.int 0 :: List.replicate i (PyData.str "more")) ++ [.str "more"] = .int 0 :: List.replicate (i + 1) (.str "more") := by
        rw [List.cons_append, List.replicate_succ']
      rw [e2]
      exact ⟨small_more _ (by omega), .inr ⟨i + 1, by omega, rfl⟩⟩
theorem Grown.mono {i j : Nat} {d : PyData} (g : Grown i d) (h : i ≤ j) : Grown j d := ⟨g.1, g.2.imp id fun ⟨m, hm, e⟩ => ⟨m, by omega, e⟩⟩
def DueV (o : Option (Str × V)) (H1 H2 : Hp) (u : V) : Prop := (o = none ∧ u = .non) ∨ ∃ wu x l, o = some (wu, x) ∧ u = .ref l ∧ H1 l = none ∧ H2 l = some (.lst [.str wu, x])
def FoundV (C : Addr) (ks ps : List Int) (wd : Str) (v g : V) (H1 H2 : Hp) (lf : Addr) : Prop :=
  (dueOf ks ps wd v g = none ∧ ∃ y dy ks' ps', H2 lf = some (.lst [.str "page", .ref y]) ∧ PgP C dy H2 y ks' ps' ∧ Done ks ps wd v g ks' ps') ∨ ∃ wu x, dueOf ks ps wd v g = some (wu, x) ∧ H2 lf = some (.lst [.str wu, x])
theorem done_int {ks ps ks' ps' : List Int} {wd : Str} {v g : V} (h : Done ks ps wd v g ks' ps') : ∃ k : Int, v = .int k := by
  rcases h with ⟨_, k, _, e, _⟩ | ⟨_, k, _, e, _⟩
  · exact ⟨k, e⟩
  · exact ⟨k, e⟩
section
variable {P : Program} {w : World} {K : PySem.W.Frag} {mg : Str → Option Value} {base : Heap}
abbrev s__law_step : Stmt := top 55
theorem sc__law_step : FnScope ["_law_box_here", "_law_page", "_law_rows", "_law_word", "_law_key", "_law_place", "_law_due_here", "_law_was", "_law_found", "_law_odd_here", "_law_way", "_law_key_there", "_law_more"] ["_law_box_here", "_law_page", "_law_rows"] (defScope s__law_step) := ⟨rfl, rfl, rfl, by decide +kernel, rfl, by decide +kernel, by decide +kernel⟩
def spStep (C : Addr) : Sp := fun vs H Q _ => ∃ (p x dx r lk lp : Addr) (n : Nat) (ks ps : List Int), vs = [.ref p, .ref x, .ref r] ∧ Box H p n ∧ n ≤ 800000 ∧ PgP C dx H x ks ps ∧ Rows H r lk lp ks ps ∧ r ≠ p ∧ lk ≠ p ∧ lp ≠ p ∧
  ∀ (t x' dx' r' lk' lp' : Addr) (ks' ps' : List Int) (H' : Hp), H' t = some (.tup [.ref x', .ref r']) → PgP C dx' H' x' ks' ps' → Rows H' r' lk' lp' ks' ps' → KB p H H' → Q (.ref t) H'
theorem ok_step {C : Addr} (hd : ∃ f fd, Dn K mg "_law_step" "_law_step" s__law_step ["_law_box_here", "_law_page", "_law_rows"] f fd) (T : Txt K mg) (h1 : OkD P w K mg base "_law_deed" s__law_deed ["_law_box_here", "_law_rows"] 3 spDeed) (h2 : OkD P w K mg base "_law_due" s__law_due ["_law_rows", "_law_word", "_law_key", "_law_place"] 2 (spDue K))
    (h3 : OkD P w K mg base "_law_told" s__law_told ["_law_page", "_law_word", "_law_key", "_law_place"] 12 (spTold K C)) (h4 : OkD P w K mg base "_law_is_due" s__law_is_due ["_law_found", "_law_due_here"] 1 spIsDue) (h5 : OkD P w K mg base "_law_stands" s__law_stands ["_law_page", "_law_rows"] 2 (spStands C))
    (h6 : OkD P w K mg base "_law_odd" s__law_odd ["_law_box_here"] 2 spOdd) (h7 : OkD P w K mg base "_law_is_number" s__law_is_number ["_law_thing", "_law_low", "_law_high"] 1 (spIsW K)) (h8 : OkD P w K mg base "_law_asked" s__law_asked ["_law_page", "_law_way", "_law_key"] 10 (spAsked K C)) (h9 : OkD P w K mg base "_law_changed" s__law_changed ["_law_rows", "_law_word", "_law_key", "_law_place"] 1 spChanged) (h10 : OkD P w K mg base "_law_led_right" s__law_led_right ["_law_page", "_law_rows"] 10 (spStands C)) :
    OkD P w K mg base "_law_step" s__law_step ["_law_box_here", "_law_page", "_law_rows"] 14 (spStep C) := by
  obtain ⟨f, fd, D⟩ := hd
  obtain ⟨f1, fd1, D_law_deed, G_law_deed⟩ := h1
  obtain ⟨f2, fd2, D_law_due, G_law_due⟩ := h2
  obtain ⟨f3, fd3, D_law_told, G_law_told⟩ := h3
  obtain ⟨f4, fd4, D_law_is_due, G_law_is_due⟩ := h4
  obtain ⟨f5, fd5, D_law_stands, G_law_stands⟩ := h5
  obtain ⟨f6, fd6, D_law_odd, G_law_odd⟩ := h6
  obtain ⟨f7, fd7, D_law_is_number, G_law_is_number⟩ := h7
  obtain ⟨f8, fd8, D_law_asked, G_law_asked⟩ := h8
  obtain ⟨f9, fd9, D_law_changed, G_law_changed⟩ := h9
  obtain ⟨f10, fd10, D_law_led_right, G_law_led_right⟩ := h10
  refine ⟨f, fd, D, D.fn.ok sc__law_step (fun vs H Q E h => ?_) (fun cdv A outer s H vs Q E hr h => ?_)⟩
  · obtain ⟨_, _, _, _, _, _, _, _, _, rfl, _⟩ := h
    rfl
  · obtain ⟨p, x, dx, r, lk, lp, n, ks, ps, rfl, B, hn, pg, rw0, nr, nk, np, k⟩ := h
    have sc := sc__law_step
    have e9 : (10 : Int) ^ (9 : Int).toNat = 1000000000 := by decide +kernel
    have rows : ∀ {H' : Hp}, KB p H H' → Rows H' r lk lp ks ps := fun kb => ⟨kb _ _ rw0.r nr, kb _ _ rw0.k nk, kb _ _ rw0.p np⟩
    have kbp : ∀ {H' : Hp}, KB p H H' → PgP C dx H' x ks ps := fun {H'} kb => pg.past fun b o h nl => kb b o h fun e => by
      subst e
      obtain ⟨_, q⟩ := B.lst
      rw [h] at q
      cases q
      exact nl _ rfl
    refine' ⟨_, (pss_cons (ps_asg (pe_call G_law_deed (hr.mono (by decide)) rfl D_law_deed.m D_law_deed.fn.kp D_law_deed.b .nil pass0 (pa_c (pv 0) (pa_c (pv 2) pa_nil))) (pg_tup rfl (pgs_cons (pg_name (i := 3) sc.nd rfl (Or.inl rfl)) (pgs_cons (pg_name (i := 4) sc.nd rfl (Or.inl rfl)) (pgs_cons (pg_name (i := 5) sc.nd rfl (Or.inl rfl)) pgs_nil)))))
    (pss_cons (ps_set (i := 6) sc.nd rfl (Or.inl rfl) (pe_call G_law_due (hr.mono (by decide)) rfl D_law_due.m D_law_due.fn.kp D_law_due.b .nil pass0 (pa_c (pv 2) (pa_c (pv 3) (pa_c (pv 4) (pa_c (pv 5) pa_nil))))))
    (pss_cons (ps_set (i := 7) sc.nd rfl (Or.inl rfl) (pe_callB (call_reprD hr.gd hr.units) rfl T.n_repr bt_repr (pa_c (pe_lst (pa_c (pv 4) (pa_c (pv 5) pa_nil))) pa_nil)))
    (pss_cons (ps_set (i := 8) sc.nd rfl (Or.inl rfl) (pe_call G_law_told (hr.mono (by decide)) rfl D_law_told.m D_law_told.fn.kp D_law_told.b .nil pass0 (pa_c (pv 1) (pa_c (pv 3) (pa_c (pv 4) (pa_c (pv 5) pa_nil))))))
    (pss_cons (ps_if (pt_cmpR op_ne (pe_callB (call_reprD hr.gd hr.units) rfl T.n_repr bt_repr (pa_c (pe_lst (pa_c (pv 4) (pa_c (pv 5) pa_nil))) pa_nil)) (pv 7) (nomark _))
      (pss_one (ps_ret pe_non))
      pss_nil)
    (pss_cons (ps_set (i := 9) sc.nd rfl (Or.inl rfl) (pe_call G_law_odd (hr.mono (by decide)) rfl D_law_odd.m D_law_odd.fn.kp D_law_odd.b .nil pass0 (pa_c (pv 0) pa_nil)))
    (pss_cons (ps_for PassesOwn.never rfl (pi_range1 rfl T.n_range (pa_c pe_int pa_nil)) (pg_name (i := 10) sc.nd rfl (Or.inl rfl))
      (pss_cons (ps_set (i := 11) sc.nd rfl (Or.inl rfl) (pe_call G_law_is_number (hr.mono (by decide)) rfl D_law_is_number.m D_law_is_number.fn.kp D_law_is_number.b .nil pass0 (pa_c (pv 9) (pa_c (pe_op op_sub pe_int (pe_op op_pow pe_int pe_int)) (pa_c (pe_op op_sub (pe_op op_pow pe_int pe_int) pe_int) pa_nil)))))
    (pss_one (ps_if (PW.pt (pw_and (pt_not (pt_val (pv 11))) (pw_and1 (pt_not (pt_val (pe_call G_law_is_due (hr.mono (by decide)) rfl D_law_is_due.m D_law_is_due.fn.kp D_law_is_due.b .nil pass0 (pa_c (pe_call G_law_asked (hr.mono (by decide)) rfl D_law_asked.m D_law_asked.fn.kp D_law_asked.b .nil pass0 (pa_c (pv 1) (pa_c (pv 10) (pa_c (pv 9) pa_nil)))) (pa_c (pe_lst (pa_c pe_str (pa_c (pv 9) pa_nil))) pa_nil))))))))
      (pss_one (ps_ret pe_non))
      pss_nil))))
    (pss_cons (ps_if (pt_cmpR op_notN (pv 6) pe_non (nomark _))
      (pss_one (ps_ret (pe_ifExp (pt_val (pe_call G_law_is_due (hr.mono (by decide)) rfl D_law_is_due.m D_law_is_due.fn.kp D_law_is_due.b .nil pass0 (pa_c (pv 8) (pa_c (pv 6) pa_nil)))) (pe_tup (pa_c (pv 1) (pa_c (pv 2) pa_nil))) pe_non)))
      pss_nil)
    (pss_cons (ps_set (i := 12) sc.nd rfl (Or.inl rfl) (pe_call G_law_changed (hr.mono (by decide)) rfl D_law_changed.m D_law_changed.fn.kp D_law_changed.b .nil pass0 (pa_c (pv 2) (pa_c (pv 3) (pa_c (pv 4) (pa_c (pv 5) pa_nil))))))
    (pss_cons (ps_if (PW.pt (pw_or (pt_cmpR op_ne (pe_ix ix_list (pv 8) pe_int (fun _ _ => rfl)) pe_str (nomark _)) (pw_or (pt_not (pt_val (pe_call G_law_stands (hr.mono (by decide)) rfl D_law_stands.m D_law_stands.fn.kp D_law_stands.b .nil pass0 (pa_c (pe_ix ix_list (pv 8) pe_int (fun _ _ => rfl)) (pa_c (pv 12) pa_nil))))) (pw_or1 (pt_not (pt_val (pe_call G_law_led_right (hr.mono (by decide)) rfl D_law_led_right.m D_law_led_right.fn.kp D_law_led_right.b .nil pass0 (pa_c (pe_ix ix_list (pv 8) pe_int (fun _ _ => rfl)) (pa_c (pv 12) pa_nil)))))))))
      (pss_one (ps_ret pe_non))
      pss_nil)
    (pss_one (ps_ret (pe_tup (pa_c (pe_ix ix_list (pv 8) pe_int (fun _ _ => rfl)) (pa_c (pv 12) pa_nil))))))))))))))), ?_⟩
    refine ⟨_, rfl, _, rfl, p, r, lk, lp, n, ks, ps, rfl, B, by omega, rw0, nr, nk, np, pg.up, pg.few, pg.len, pg.ok, fun t wd v g d d' H1 hwd et tv tg fv fg bg B1 k1 => ?_⟩
    refine ⟨t, _, rfl, SqT.of et, rfl, _, _, rfl, _, _, rfl, _, _, rfl, rfl, ?_⟩
    have rw1 := rows k1
    dsimp only [gName, tNext]
    refine seq2 (fun σ H2 => ∃ u6, σ = [some (.ref p), some (.ref x), some (.ref r), some (.str wd), some v, some g, some u6, none, none, none, none, none, none] ∧ Same H1 H2 ∧ DueV (dueOf ks ps wd v g) H1 H2 u6) ?s2 ?r2
    case s2 =>
      intro N q
      exact ⟨_, rfl, _, rfl, _, rfl, _, rfl, r, lk, lp, ks, ps, wd, v, g, _, _, rfl, rw1.r, rw1.k, rw1.p, hwd, tv.1.thg, tg.1.thg, bg, fun wu u hdu l H2 fl S2 el => q _ _ ⟨_, rfl, S2, .inr ⟨wu, u, l, hdu, rfl, fl, el⟩⟩, fun hdu => q _ _ ⟨_, rfl, Same.refl _, .inl ⟨hdu, rfl⟩⟩⟩
    case r2 =>
    rintro _ H2 ⟨u6, rfl, S2, dv6⟩
    refine ⟨_, rfl, _, rfl, (by show 2 ≤ sizeLine; decide), fun l3 f3 => ?_⟩
    have S3 := Same.upd (o := .lst [v, g]) f3
    have e3 := upd_same (H := H2) (a := l3) (o := .lst [v, g])
    have S13 := S2.trans S3
    generalize upd H2 l3 (.lst [v, g]) = H3 at *
    have tv3 := told_same tv S13
    have tg3 := told_same tg S13
    refine ⟨.ref l3, fun _ => False, _, rfl, dv_two tv3 tg3 e3, okd_two tv.2 tg.2, ?_⟩
    dsimp only [gName, tNext]
    refine seq2 (fun σ H4 => ∃ lf, σ = [some (.ref p), some (.ref x), some (.ref r), some (.str wd), some v, some g, some u6, some (.str (PyData.list [d, d']).shown), some (.ref lf), none, none, none, none] ∧ Same H3 H4 ∧ H3 lf = none ∧ FoundV C ks ps wd v g H3 H4 lf) ?s4 ?r4
    case s4 =>
      intro N q
      exact ⟨_, rfl, _, rfl, _, rfl, _, rfl, x, dx, wd, v, g, _, _, ks, ps, rfl, hwd, kbp (k1.trans S13.kb), tv3.1.thg, tg3.1.thg, bg, fun wu u hdu l H4 fl S4 el => q _ _ ⟨l, rfl, S4, fl, .inr ⟨wu, u, hdu, el⟩⟩, fun hdu l H4 y dy ks' ps' fl S4 el py dn => q _ _ ⟨l, rfl, S4, fl, .inl ⟨hdu, y, dy, ks', ps', el, py, dn⟩⟩⟩
    case r4 =>
    rintro _ H4 ⟨lf, rfl, S4, flf, fv4⟩
    refine ⟨_, rfl, _, rfl, (by show 2 ≤ sizeLine; decide), fun l5 f5 => ?_⟩
    have S5 := Same.upd (o := .lst [v, g]) f5
    have e5 := upd_same (H := H4) (a := l5) (o := .lst [v, g])
    have S35 := S4.trans S5
    generalize upd H4 l5 (.lst [v, g]) = H5 at *
    have S15 := S13.trans S35
    have tv5 := told_same tv S15
    have tg5 := told_same tg S15
    refine ⟨.ref l5, fun _ => False, _, rfl, dv_two tv5 tg5 e5, okd_two tv.2 tg.2, _, rfl, rfl, _, rfl, iteE (c := false) (by rw [decide_eq_true rfl]; rfl) (iteF ?_)⟩
    have B5 := B1.same S15
    refine ⟨_, rfl, p, n + 20, rfl, B5, by omega, fun v2 d2 H6 t2 f2 b2 g2 B6 k6 => ?_⟩
    have fo : ∀ b o, H5 b = some o → v2 ≠ .ref b := fun b o z e => by rw [f2 b e] at z; cases z
    refine ⟨3, rfl, by decide, by decide, for_range (fun i σ H7 => ∃ o10 o11 d7, σ = [some (.ref p), some (.ref x), some (.ref r), some (.str wd), some v, some g, some u6, some (.str (PyData.list [d, d']).shown), some (.ref lf), some v2, o10, o11, none] ∧ KB p H5 H7 ∧ DV (· = p) H7 v2 d7 ∧ Grown i d7) ⟨_, _, d2, rfl, k6, t2.1, Grown.first t2.2 g2⟩ ?_ ?_⟩
    · rintro i σ H7 hi ⟨o10, o11, d7, rfl, k7, v7, g7⟩
      have hi3 : i < 3 := hi
      have K7 := (k1.trans S15.kb).trans k7
      dsimp only [gName, tNext]
      refine ⟨_, rfl, _, _, rfl, rfl, cp (by decide) (by decide), _, _, rfl, rfl, _, _, rfl, rfl, cp (by decide) (by decide), _, _, rfl, rfl, v2, _, _, _, rfl, v7.thg, ?_⟩
      rw [whole_key (by rw [e9]; rfl) (by rw [e9]; rfl)]
      refine ⟨_, rfl, _, rfl, ?_⟩
      cases c : keyV v2 with
      | true => exact iteF (iteF ⟨_, _, d7, rfl, k7, v7, g7.mono (by omega)⟩)
      | false =>
        refine iteT ⟨_, rfl, _, rfl, _, rfl, x, dx, _, v2, _, ks, ps, rfl, kbp K7, v7.thg, c, fun l8 H8 f8 S8 e8 => ⟨_, rfl, (by show 2 ≤ sizeLine; decide), fun l9 f9 => ?_⟩⟩
        have S9 := Same.upd (o := .lst [.str "key", v2]) f9
        have e9' := upd_same (H := H8) (a := l9) (o := .lst [.str "key", v2])
        generalize upd H8 l9 (.lst [.str "key", v2]) = H9 at *
        have v9 : DV (· = p) H9 v2 d7 := v7.keep (fun a o _ z => S9 _ _ (S8 _ _ z)) fun _ z => z
        have n8 : v2 ≠ .ref l8 := fun e => by subst e; obtain ⟨_, q⟩ := dv_there v7; rw [f8] at q; cases q
        have n9 : v2 ≠ .ref l9 := fun e => by subst e; obtain ⟨_, q⟩ := dv_there v7; rw [S8.free f9] at q; cases q
        refine ⟨(· = p), l8, l9, "key", v2, d7, rfl, S9 _ _ e8, e9', n8, n9, v9, g7.1, w_key.1, w_key.2, fun H10 d10 k10 v10 m10 => ⟨_, rfl, iteF ?_⟩⟩
        exact ⟨_, _, d10, rfl, fun b o z nb => k10 b o (S9 _ _ (S8 _ _ (k7 b o z nb))) (fo b o z), v10, g7.more hi3 m10⟩
    · rintro σ H7 ⟨o10, o11, d7, rfl, k7, v7, g7⟩
      have K7 := (k1.trans S15.kb).trans k7
      have tv7 := tv5.keep k7
      have tg7 := tg5.keep k7
      have nlf : lf ≠ p := by
        obtain ⟨_, q⟩ := (B1.same S13).lst
        exact (ne_of_none q flf).symm
      rcases dv6 with ⟨hdu, rfl⟩ | ⟨wu, u, l, hdu, rfl, fl, el⟩
      · rcases fv4 with ⟨_, y, dy, ks', ps', ef, py, dn⟩ | ⟨_, _, hdu2, _⟩
        · obtain ⟨k0, rfl⟩ := done_int dn
          have py7 : PgP C dy H7 y ks' ps' := by
            obtain ⟨_, q⟩ := (B1.same (S13.trans S4)).lst
            exact (py.past fun b o h nl => k7 b o (S5 _ _ h) fun e => by
              subst e
              rw [h] at q
              cases q
              exact nl _ rfl)
          have ef7 := k7 _ _ (S5 _ _ ef) nlf
          refine ⟨_, rfl, rfl, _, rfl, iteE (c := false) (by rfl) (iteF ?_)⟩
          refine ⟨_, rfl, _, rfl, _, rfl, _, rfl, r, lk, lp, wd, k0, g, ks, ps, ks', ps', rfl, rows K7, pg.up, pg.few, pg.len, dn, fun r' lk' lp' H8 S8 fr fk fp rw8 => ?_⟩
          refine ⟨_, rfl, _, _, _, _, rfl, rfl, SqL.of (S8 _ _ ef7), rfl, rfl, _, rfl, iteE (c := false) (by decide +kernel) (iteF ?_)⟩
          refine ⟨_, rfl, _, _, _, _, rfl, rfl, SqL.of (S8 _ _ ef7), rfl, _, rfl, y, dy, r', lk', lp', ks', ps', rfl, py7.keep S8, rw8, fun H9 S9 => ⟨_, rfl, iteF ?_⟩⟩
          have S89 := S8.trans S9
          refine ⟨_, rfl, _, _, _, _, rfl, rfl, SqL.of (S89 _ _ ef7), rfl, _, rfl, y, dy, r', lk', lp', ks', ps', rfl, py7.keep S89, rw8.keep S9, fun H10 S10 => ⟨_, rfl, iteF ?_⟩⟩
          have S810 := S89.trans S10
          refine ⟨_, rfl, _, _, _, _, rfl, rfl, SqL.of (S810 _ _ ef7), rfl, _, rfl, (by show 2 ≤ sizeLine; decide), fun t9 f9 => ?_⟩
          have S11 := Same.upd (o := .tup [.ref y, .ref r']) f9
          exact k t9 y dy r' lk' lp' ks' ps' _ upd_same ((py7.keep S810).keep S11) ((rw8.keep (S9.trans S10)).keep S11) ((K7.trans S810.kb).trans S11.kb)
        · rw [hdu] at hdu2
          cases hdu2
      · rcases fv4 with ⟨hdu2, _⟩ | ⟨wu', u', hdu2, ef⟩
        · rw [hdu] at hdu2
          cases hdu2
        · rw [hdu] at hdu2
          cases hdu2
          have ef7 := k7 _ _ (S5 _ _ ef) nlf
          have nl : l ≠ p := by
            obtain ⟨_, q⟩ := B1.lst
            exact (ne_of_none q fl).symm
          have el7 := k7 _ _ (S35 _ _ (S3 _ _ el)) nl
          obtain ⟨⟨d0, td0⟩, hu, w1, w2⟩ := due_told hdu tv7 tg7
          have flu : ∀ a, u = .ref a → H a = none := fun a e => by
            rcases hu with rfl | rfl | rfl
            · exact fv a e
            · exact fg a e
            · cases e
          have old : ∀ a, u = .ref a → H1 a ≠ none := fun a e z => by
            rcases hu with rfl | rfl | rfl
            · subst e; obtain ⟨_, q⟩ := dv_there tv.1; rw [z] at q; cases q
            · subst e; obtain ⟨_, q⟩ := dv_there tg.1; rw [z] at q; cases q
            · cases e
          refine ⟨_, rfl, rfl, _, rfl, iteE (c := true) (by rfl) (iteT ?_)⟩
          refine ⟨_, rfl, _, rfl, (· = p), lf, l, _, u, d0, rfl, ef7, el7, fun e => old lf e (S13.free flf), fun e => old l e fl, td0.1, td0.2, w1, w2, fun H8 d8 k8 v8 m8 => ⟨_, rfl, iteT ?_⟩⟩
          have K8 : KB p H H8 := fun b o z nb => k8 b o (K7 b o z nb) fun e => by rw [flu b e] at z; cases z
          refine ⟨_, rfl, _, rfl, (by show 2 ≤ sizeLine; decide), fun t9 f9 => ?_⟩
          have S9 := Same.upd (o := .tup [.ref x, .ref r]) f9
          exact k t9 x dx r lk lp ks ps _ upd_same ((kbp K8).keep S9) ((rows K8).keep S9) (K8.trans S9.kb)
end
end K14
set_option Elab.async false
set_option linter.all false
set_option maxRecDepth 100000
set_option maxHeartbeats 1000000
namespace K14
open PySem L2
def MtOk (P : Program) (w : World) (K : PySem.W.Frag) (mg : Str → Option Value) (base : Heap) (CX : CXT) (C : Addr) (nm : Str) (ps : List Str) (k : Nat) (sp : Sp) : Prop :=
  ∃ f fd, Meth K C nm f ∧ Binds K fd ps [] ∧ FnOk P w K mg base CX k f fd ps sp
structure Kin (K : PySem.W.Frag) (L I : Addr) : Prop where
  ci : PySem.W.kitOne K (.ref I) (.ref L) = some false
  ic : PySem.W.kitOne K (.ref L) (.ref I) = some false
  c : ∀ d, PySem.W.kitOne K (tyD d) (.ref L) = some false
  i : ∀ d, PySem.W.kitOne K (tyD d) (.ref I) = some false
theorem op_notInK {X : Cx} {K : PySem.W.Frag} (e : X.K = K) : OpR X (compareOp .NotIn) (rIn K true) := by subst e; exact op_notIn_seq
theorem up_small {ks : List Int} (h : Up ks) : ∀ z ∈ ks, z.natAbs ≤ 10 ^ 30 := fun z hz => by have := h.2 z hz; omega
theorem in_small {gs : List Int} (h : ∀ g ∈ gs, -999999999 ≤ g ∧ g ≤ 999999999) : ∀ z ∈ gs, z.natAbs ≤ 10 ^ 30 := fun z hz => by have := h z hz; omega
theorem plc_small {ps : List Int} (h : ∀ p ∈ ps, Plc p) : ∀ z ∈ ps, z.natAbs ≤ 10 ^ 30 := fun z hz => by have := h z hz; unfold Plc at this; omega
theorem okd_rows {ks gs : List Int} (hk : ∀ z ∈ ks, z.natAbs ≤ 10 ^ 30) (hg : ∀ z ∈ gs, z.natAbs ≤ 10 ^ 30) (lk : ks.length ≤ 7) (lg : gs.length ≤ 7) : Okd 100000 (.list [.list (ks.map PyData.int), .list (gs.map PyData.int)]) := by
  have sm : ∀ {ns : List Int}, (∀ z ∈ ns, z.natAbs ≤ 10 ^ 30) → ∀ d ∈ ns.map PyData.int, Small d := fun {ns} h d hd => by
    obtain ⟨g, hg, rfl⟩ := List.mem_map.mp hd
    exact small_int (h g hg)
  obtain ⟨a, b, c, e⟩ := smalls_row (sm hk)
  obtain ⟨a', b', c', e'⟩ := smalls_row (sm hg)
  rw [List.length_map] at e e'
  refine ⟨?_, ?_, ?_, ?_⟩
  · simp only [PyData.showable, PyData.showableAll, a, a', Bool.and_self]
  · simp only [PyData.leavesShort, PyData.leavesShortAll, b, b', Bool.and_self]
  · simp only [PyData.depth, PyData.depthAll]; omega
  · simp only [PyData.weight, PyData.weightAll]; omega
theorem Okd.row {ns : List Int} (h : ∀ z ∈ ns, z.natAbs ≤ 10 ^ 30) (l : ns.length ≤ 100) : Okd 100000 (.list (ns.map PyData.int)) := by
  obtain ⟨a, b, c, e⟩ := smalls_row (ds := ns.map PyData.int) fun d hd => by
    obtain ⟨g, hg, rfl⟩ := List.mem_map.mp hd
    exact small_int (h g hg)
  rw [List.length_map] at e
  refine ⟨a, b, ?_, ?_⟩
  · simp only [PyData.depth]; omega
  · simp only [PyData.weight]; omega
def Tells (C CI : Addr) (H : Hp) (v : V) (txt : Str) : Prop :=
  (∃ (y dy D : Addr) (ks gs : List Int), (D = C ∨ D = CI) ∧ v = .ref y ∧ Pg D dy H y (ks.map V.int) (gs.map V.int) ∧ Okd 100000 (.list [.list (ks.map PyData.int), .list (gs.map PyData.int)]) ∧ txt = (PyData.list [.list (ks.map PyData.int), .list (gs.map PyData.int)]).shown) ∨
  (∃ d, DV (fun _ => False) H v d ∧ Okd 100000 d ∧ txt = d.shown)
theorem Pg.keepS {C dx x : Addr} {H H' : Hp} {xs ys : List V} (p : Pg C dx H x xs ys) (S : Same H H') : Pg C dx H' x xs ys := let ⟨tk, tg, a, b, c⟩ := p; ⟨tk, tg, S _ _ a, S _ _ b, S _ _ c⟩
theorem Tells.keep {C CI : Addr} {H H' : Hp} {v : V} {txt : Str} (t : Tells C CI H v txt) (S : Same H H') : Tells C CI H' v txt := by
  rcases t with ⟨y, dy, D, ks, gs, hD, e, p, o, q⟩ | ⟨d, x, o, q⟩
  · exact .inl ⟨y, dy, D, ks, gs, hD, e, p.keepS S, o, q⟩
  · exact .inr ⟨d, x.keep (fun a o _ z => S a o z) fun _ z => z, o, q⟩
section
variable {P : Program} {w : World} {K : PySem.W.Frag} {mg : Str → Option Value} {base : Heap}
theorem sc_kin : FnScope ["self", "thing"] ["self", "thing"] (defScope (inClass (top 34) 7)) := ⟨rfl, rfl, rfl, by decide +kernel, rfl, by decide +kernel, by decide +kernel⟩
def spKin (K : PySem.W.Frag) (C : Addr) : Sp := fun vs H Q _ => ∃ (x : Addr) (v : V) (t : Value) (b : Bool), vs = [.ref x, v] ∧ Any1 K H v t ∧ PySem.W.kitOne K t (.ref C) = some b ∧ Q (.bl b) H
theorem ok_kin {C fW : Addr} {fdW : FuncData} (hf : Fun K "is_kin" "Inner.is_kin" (inClass (top 34) 7) fW fdW) (T : Txt K mg) (mC : mg "Inner" = some (.ref C)) : FnOk P w K mg base CX0 1 fW fdW ["self", "thing"] (spKin K C) := by
  refine hf.ok sc_kin (fun vs H Q E h => ?_) (fun cdv A outer s H vs Q E hr h => ?_)
  · obtain ⟨_, _, _, _, rfl, _⟩ := h
    rfl
  · obtain ⟨x, v, t, b, rfl, a, e, k⟩ := h
    exact ⟨_, (pss_one (ps_ret (pe_callB call_instA rfl T.n_isinstance bt_isinstance (pa_c (pv 1) (pa_c (pe_glob (v := .ref C) rfl mC rfl) pa_nil))))), _, rfl, v, .ref C, t, b, rfl, a, .inr (.inl ⟨C, rfl, e⟩), k⟩
theorem sc_same : FnScope ["self", "thing"] ["self", "thing"] (defScope (inClass (top 32) 4)) := ⟨rfl, rfl, rfl, by decide +kernel, rfl, by decide +kernel, by decide +kernel⟩
def spSame (K : PySem.W.Frag) (C : Addr) : Sp := fun vs H Q _ => ∃ (x dx : Addr) (v : V) (t : Value) (ks gs : List Int) (b : Bool), vs = [.ref x, v] ∧ PgP C dx H x ks gs ∧ Any1 K H v t ∧ PySem.W.kitOne K t (.ref C) = some b ∧ (b = true → ∃ y dy, v = .ref y ∧ ∃ ks' gs' : List Int, Pg C dy H y (ks'.map V.int) (gs'.map V.int) ∧ Q (.bl (decide (ks = ks') && decide (gs = gs'))) H) ∧ (b = false → Q (.bl false) H)
theorem ok_same {C f fK fG fN fW : Addr} {fd fdN fdW : FuncData} (hf : Fun K "same" "Page.same" (inClass (top 32) 4) fW fdW) (T : Txt K mg) (X : KdN K mg "Inner" "Inner.__init__" (inClass (top 34) 0) C f fd fK fG)
    (mN : Meth K C "is_kin" fN) (bN : Binds K fdN ["self", "thing"] []) (gN : FnOk P w K mg base CX0 1 fN fdN ["self", "thing"] (spKin K C)) : FnOk P w K mg base CX0 3 fW fdW ["self", "thing"] (spSame K C) := by
  refine hf.ok sc_same (fun vs H Q E h => ?_) (fun cdv A outer s H vs Q E hr h => ?_)
  · obtain ⟨_, _, _, _, _, _, _, rfl, _⟩ := h
    rfl
  · obtain ⟨x, dx, v, t, ks, gs, b, rfl, pg, a, e, b1, b2⟩ := h
    have hu := hr.units0
    refine ⟨_, (pss_one (ps_ret (pe_and (pe_meth (pv 0) X.ins.cl mN gN (hr.mono (by decide)) bN .nil pass0 (pa_c (pv 1) pa_nil)) (pe_and (pe_cmpR (op_eqTT hu) (pe_fld (pv 0) rfl) (pe_fld (pv 1) rfl) (nomark _)) (pe_one (pe_cmpR (op_eqTT hu) (pe_fld (pv 0) rfl) (pe_fld (pv 1) rfl) (nomark _))))))), ?_⟩
    obtain ⟨tk, tg, hx, hk, hg⟩ := pg.pg
    refine ⟨_, rfl, x, dx, _, rfl, hx, rfl, _, rfl, x, v, t, b, rfl, a, e, b, rfl, ?_⟩
    cases b with
    | false => exact iteF (b2 rfl)
    | true =>
      obtain ⟨y, dy, rfl, ks', gs', ⟨tk', tg', hy, hk', hg'⟩, q⟩ := b1 rfl
      refine iteT ⟨_, rfl, x, C, dx, _, _, rfl, hx, X.ins.cl, X.n1, rfl, _, rfl, y, C, dy, _, _, rfl, hy, X.ins.cl, X.n1, rfl, tk, tk', _, _, rfl, rfl, SqT.of hk, SqT.of hk', okP_ints, _, rfl, ?_⟩
      rw [eqPs_ints]
      by_cases c : ks = ks'
      · rw [decide_eq_true c, Bool.true_and] at q
        rw [decide_eq_true c]
        refine iteT ⟨_, rfl, x, C, dx, _, _, rfl, hx, X.ins.cl, X.n2, rfl, _, rfl, y, C, dy, _, _, rfl, hy, X.ins.cl, X.n2, rfl, tg, tg', _, _, rfl, rfl, SqT.of hg, SqT.of hg', okP_ints, ?_⟩
        rw [eqPs_ints]
        exact q
      · rw [decide_eq_false c, Bool.false_and] at q
        rw [decide_eq_false c]
        exact iteF q
abbrev s__law_page_told : Stmt := top 48
theorem sc__law_page_told : FnScope ["_law_thing"] ["_law_thing"] (defScope s__law_page_told) := ⟨rfl, rfl, rfl, by decide +kernel, rfl, by decide +kernel, by decide +kernel⟩
def spPT (C CI : Addr) : Sp := fun vs H Q _ => ∃ (v : V) (txt : Str), vs = [v] ∧ Tells C CI H v txt ∧ ∀ H', Same H H' → Q (.str txt) H'
theorem ok_pt {cLeaf cInner : Addr} (hd : ∃ f fd, Dn K mg "_law_page_told" "_law_page_told" s__law_page_told ["_law_thing"] f fd) (T : Txt K mg) (MLeaf : mg "Leaf" = some (.ref cLeaf)) (MInner : mg "Inner" = some (.ref cInner)) (kn : Kin K cLeaf cInner) (cl : InsC K cLeaf) (ci : InsC K cInner)
    (k1 : MtOk P w K mg base CX0 cLeaf "all_keys" ["self"] 1 (spRow cLeaf true)) (g1 : MtOk P w K mg base CX0 cLeaf "goods" ["self"] 1 (spRow cLeaf false)) (k2 : MtOk P w K mg base CX0 cInner "all_keys" ["self"] 1 (spRow cInner true)) (g2 : MtOk P w K mg base CX0 cInner "goods" ["self"] 1 (spRow cInner false)) :
    OkD P w K mg base "_law_page_told" s__law_page_told ["_law_thing"] 2 (spPT cLeaf cInner) := by
  obtain ⟨f, fd, D⟩ := hd
  refine ⟨f, fd, D, D.fn.ok sc__law_page_told (fun vs H Q E h => ?_) (fun cdv A outer s H vs Q E hr h => ?_)⟩
  · obtain ⟨_, _, rfl, _⟩ := h
    rfl
  · obtain ⟨v, txt, rfl, tl, k⟩ := h
    have cs : ∀ c ∈ [V.ref cLeaf, V.ref cInner], (∃ n, c = .ty n) ∨ ∃ a, c = .ref a := fun c hc => by
      simp only [List.mem_cons, List.not_mem_nil, or_false] at hc
      rcases hc with rfl | rfl <;> exact .inr ⟨_, rfl⟩
    rcases tl with ⟨y, dy, D, ks, gs, hD, rfl, p, o, rfl⟩ | ⟨d, x, o, rfl⟩
    · have main : ∀ (D : Addr), InsC K D → MtOk P w K mg base CX0 D "all_keys" ["self"] 1 (spRow D true) → MtOk P w K mg base CX0 D "goods" ["self"] 1 (spRow D false) → Pg D dy H y (ks.map V.int) (gs.map V.int) → PySem.W.kitAny K (.ref D) [.ref cLeaf, .ref cInner] = some true →
          ∃ t, PSs ((cxOf CX0 P w K mg base ["_law_thing"] "_law_page_told" (defScope s__law_page_told) f cdv A outer s H E).nox) (defBody s__law_page_told) t ∧ t { nx := fun _ H' => Q .non H', rt := Q } (start ["_law_thing"] [.ref y]) H := by
        intro D iD mK mG p ka
        obtain ⟨fK, fdK, Me_all_keys, B_all_keys, G_all_keys⟩ := mK
        obtain ⟨fG, fdG, Me_goods, B_goods, G_goods⟩ := mG
        have CL := iD.cl
        refine ⟨_, (pss_one (ps_ret (pe_ifExp (pt_val (pe_callB call_instA rfl T.n_isinstance bt_isinstance (pa_c (pv 0) (pa_c (pe_tup (pa_c (pe_glob (v := .ref cLeaf) rfl MLeaf rfl) (pa_c (pe_glob (v := .ref cInner) rfl MInner rfl) pa_nil))) pa_nil)))) (pe_callB (call_reprD hr.gd hr.units) rfl T.n_repr bt_repr (pa_c (pe_lst (pa_c (pe_meth0 (pv 0) CL Me_all_keys G_all_keys (hr.mono (by decide)) B_all_keys .nil pass0) (pa_c (pe_meth0 (pv 0) CL Me_goods G_goods (hr.mono (by decide)) B_goods .nil pass0) pa_nil))) pa_nil)) (pe_callB (call_reprD hr.gd hr.units) rfl T.n_repr bt_repr (pa_c (pv 0) pa_nil))))), ?_⟩
        obtain ⟨tk, tg, hx, hk, hg⟩ := p
        refine ⟨_, rfl, (by show 2 ≤ sizeLine; decide), fun tt ft => ?_⟩
        have S1 := Same.upd (o := .tup [.ref cLeaf, .ref cInner]) ft
        refine ⟨.ref y, .ref tt, .ref D, true, rfl, .inr ⟨y, D, dy, _, rfl, S1 _ _ hx, iD, rfl⟩, .inr (.inr ⟨tt, _, rfl, upd_same, cs, ka⟩), _, rfl, iteT ?_⟩
        generalize upd H tt (.tup [.ref cLeaf, .ref cInner]) = H1 at *
        refine ⟨_, rfl, y, dy, _, rfl, S1 _ _ hx, rfl, y, dy, _, _, rfl, ⟨tk, tg, S1 _ _ hx, S1 _ _ hk, S1 _ _ hg⟩, fun l2 f2 => ?_⟩
        have S2 := Same.upd (o := .lst (if true = true then ks.map V.int else gs.map V.int)) f2
        have e2 := upd_same (H := H1) (a := l2) (o := .lst (if true = true then ks.map V.int else gs.map V.int))
        have S02 := S1.trans S2
        generalize upd H1 l2 _ = H2 at *
        refine ⟨_, rfl, y, dy, _, rfl, S02 _ _ hx, rfl, y, dy, _, _, rfl, ⟨tk, tg, S02 _ _ hx, S02 _ _ hk, S02 _ _ hg⟩, fun l3 f3 => ?_⟩
        have S3 := Same.upd (o := .lst (if false = true then ks.map V.int else gs.map V.int)) f3
        have e3 := upd_same (H := H2) (a := l3) (o := .lst (if false = true then ks.map V.int else gs.map V.int))
        have e2' := S3 _ _ e2
        have S03 := S02.trans S3
        generalize upd H2 l3 _ = H3 at *
        refine ⟨(by show 2 ≤ sizeLine; decide), fun l4 f4 => ?_⟩
        have S4 := Same.upd (o := .lst [.ref l2, .ref l3]) f4
        refine ⟨.ref l4, fun _ => False, _, rfl, .lst (fun z => z) upd_same (.cons (.lst (fun z => z) (S4 _ _ e2') (dvs_ints ks)) (.cons (.lst (fun z => z) (S4 _ _ e3) (dvs_ints gs)) .nil)), o, ?_⟩
        exact k _ (S03.trans S4)
      rcases hD with rfl | rfl
      · exact main _ cl k1 g1 p (by unfold PySem.W.kitAny; rw [kit_self])
      · exact main _ ci k2 g2 p (by unfold PySem.W.kitAny; rw [kn.ci]; dsimp only; unfold PySem.W.kitAny; rw [kit_self])
    · obtain ⟨fK, fdK, Me_all_keys, B_all_keys, G_all_keys⟩ := k1
      obtain ⟨fG, fdG, Me_goods, B_goods, G_goods⟩ := g1
      have CL := cl.cl
      refine ⟨_, (pss_one (ps_ret (pe_ifExp (pt_val (pe_callB call_instA rfl T.n_isinstance bt_isinstance (pa_c (pv 0) (pa_c (pe_tup (pa_c (pe_glob (v := .ref cLeaf) rfl MLeaf rfl) (pa_c (pe_glob (v := .ref cInner) rfl MInner rfl) pa_nil))) pa_nil)))) (pe_callB (call_reprD hr.gd hr.units) rfl T.n_repr bt_repr (pa_c (pe_lst (pa_c (pe_meth0 (pv 0) CL Me_all_keys G_all_keys (hr.mono (by decide)) B_all_keys .nil pass0) (pa_c (pe_meth0 (pv 0) CL Me_goods G_goods (hr.mono (by decide)) B_goods .nil pass0) pa_nil))) pa_nil)) (pe_callB (call_reprD hr.gd hr.units) rfl T.n_repr bt_repr (pa_c (pv 0) pa_nil))))), ?_⟩
      refine ⟨_, rfl, (by show 2 ≤ sizeLine; decide), fun tt ft => ?_⟩
      have S1 := Same.upd (o := .tup [.ref cLeaf, .ref cInner]) ft
      have x1 : DV (fun _ => False) _ v d := x.keep (fun a o _ z => S1 a o z) fun _ z => z
      refine ⟨v, .ref tt, tyD d, false, rfl, .inl x1.thg, .inr (.inr ⟨tt, _, rfl, upd_same, cs, ?_⟩), _, rfl, iteF ?_⟩
      · show PySem.W.kitAny K (tyD d) [.ref cLeaf, .ref cInner] = some false
        unfold PySem.W.kitAny
        rw [kn.c]
        dsimp only
        unfold PySem.W.kitAny
        rw [kn.i]
        rfl
      · exact ⟨_, rfl, v, fun _ => False, d, rfl, x1, o, k _ S1⟩
end
end K14
set_option Elab.async false
set_option linter.all false
set_option maxRecDepth 100000
set_option maxHeartbeats 1000000
namespace K14
open PySem L2
theorem un_m1 {X : Cx} : UnR X (unaryOp .USub) (fun x H Q => x = .int 1 ∧ Q (.int (-1)) H) := fun pins s σ H x v Q I r ⟨e, q⟩ => un_neg pins s σ H x v Q I r ⟨1, e, q⟩
def LItem (C : Addr) (ks ps : List Int) (H : Hp) (t : Addr) : Prop := ∃ (y dy : Addr) (ks' ps' : List Int) (b : Bool), H t = some (.tup [.ref y, .bl b]) ∧ PgP C dy H y ks' ps' ∧ b = (decide (ks = ks') && decide (ps = ps'))
theorem LItem.keep {C : Addr} {ks ps : List Int} {H H' : Hp} {t : Addr} (x : LItem C ks ps H t) (S : Same H H') : LItem C ks ps H' t := let ⟨y, dy, ks', ps', b, e, p, q⟩ := x; ⟨y, dy, ks', ps', b, S _ _ e, p.keep S, q⟩
theorem PgP.updL {C dx x l : Addr} {H : Hp} {ks ps : List Int} {xs ys : List V} (p : PgP C dx H x ks ps) (h : H l = some (.lst xs)) : PgP C dx (upd H l (.lst ys)) x ks ps := p.past fun b o hb nl => by
  rw [upd_ne]
  · exact hb
  · rintro rfl
    rw [h] at hb
    cases hb
    exact nl _ rfl
theorem LItem.updL {C l : Addr} {ks ps : List Int} {H : Hp} {t : Addr} {xs ys : List V} (x : LItem C ks ps H t) (h : H l = some (.lst xs)) : LItem C ks ps (upd H l (.lst ys)) t :=
  let ⟨y, dy, ks', ps', b, e, p, q⟩ := x; ⟨y, dy, ks', ps', b, by rw [upd_ne (ne_of e h (by intro z; cases z))]; exact e, p.updL h, q⟩
def swap (gs : List Int) (i : Nat) : List Int := gs.take i ++ [gs.getD (i + 1) 0, gs.getD i 0] ++ gs.drop (i + 2)
theorem swap_len {gs : List Int} {i : Nat} (h : i + 1 < gs.length) : (swap gs i).length = gs.length := by
  unfold swap
  simp only [List.length_append, List.length_take, List.length_cons, List.length_nil, List.length_drop]
  omega
theorem getD_mem {gs : List Int} {i : Nat} (h : i < gs.length) : gs.getD i 0 ∈ gs := by
  rw [List.getD_eq_getElem?_getD, List.getElem?_eq_getElem h]
  exact List.getElem_mem h
theorem two_here {gs : List Int} {i : Nat} (h : i + 1 < gs.length) : gs = gs.take i ++ ([gs.getD i 0, gs.getD (i + 1) 0] ++ gs.drop (i + 2)) := by
  have g0 : gs.getD i 0 = gs[i] := by rw [List.getD_eq_getElem?_getD, List.getElem?_eq_getElem (by omega)]; rfl
  have g1 : gs.getD (i + 1) 0 = gs[i + 1] := by rw [List.getD_eq_getElem?_getD, List.getElem?_eq_getElem (by omega)]; rfl
  have d1 : gs.drop i = gs[i] :: gs.drop (i + 1) := List.drop_eq_getElem_cons (by omega)
  have d2 : gs.drop (i + 1) = gs[i + 1] :: gs.drop (i + 2) := List.drop_eq_getElem_cons (by omega)
  rw [g0, g1]
  show gs = gs.take i ++ (gs[i] :: gs[i + 1] :: gs.drop (i + 2))
  rw [← d2, ← d1, List.take_append_drop]
theorem swap_perm {gs : List Int} {i : Nat} (h : i + 1 < gs.length) : (swap gs i).Perm gs := by
  unfold swap
  rw [List.append_assoc]
  have e := two_here h
  refine List.Perm.trans (List.Perm.append_left _ ?_) (List.Perm.of_eq e.symm)
  exact List.Perm.swap ..
theorem swap_ne {gs : List Int} {i : Nat} (h : i + 1 < gs.length) (nd : gs.Nodup) : gs ≠ swap gs i := fun z => by
  unfold swap at z
  rw [List.append_assoc] at z
  have e := two_here h
  have z2 := List.append_cancel_left (e.symm.trans z)
  injection z2 with z3 _
  have g0 : gs.getD i 0 = gs[i] := by rw [List.getD_eq_getElem?_getD, List.getElem?_eq_getElem (by omega)]; rfl
  have g1 : gs.getD (i + 1) 0 = gs[i + 1] := by rw [List.getD_eq_getElem?_getD, List.getElem?_eq_getElem (by omega)]; rfl
  rw [g0, g1] at z3
  exact List.pairwise_iff_getElem.mp nd i (i + 1) (by omega) h (by omega) z3
theorem swap_mem {gs : List Int} {i : Nat} (h : i + 1 < gs.length) {z : Int} (m : z ∈ swap gs i) : z ∈ gs := by
  unfold swap at m
  rcases List.mem_append.mp m with m | m
  · rcases List.mem_append.mp m with m | m
    · exact List.mem_of_mem_take m
    · simp only [List.mem_cons, List.not_mem_nil, or_false] at m
      rcases m with rfl | rfl
      · exact getD_mem h
      · exact getD_mem (by omega)
  · exact List.mem_of_mem_drop m
theorem swap_map {gs : List Int} {i : Nat} (h : i + 1 < gs.length) : (gs.map V.int).take i ++ [.int (gs.getD (i + 1) 0), .int (gs.getD i 0)] ++ (gs.map V.int).drop (i + 2) = (swap gs i).map V.int := by
  unfold swap
  rw [List.map_append, List.map_append, List.map_take, List.map_drop]
  rfl
theorem at_intG {gs : List Int} {i : Nat} (h : i < gs.length) : atI (gs.map V.int) (i : Int) = some (.int (gs.getD i 0)) := by
  refine atI_nat ?_
  rw [List.getElem?_map, List.getD_eq_getElem?_getD, List.getElem?_eq_getElem h]
  rfl
theorem atI_end {gs : List Int} (h : 0 < gs.length) : atI (gs.map V.int) (-1) = some (.int (gs.getD (gs.length - 1) 0)) := by
  have hj : (gs.length - 1) < gs.length := by omega
  unfold atI ixN
  rw [if_neg (by decide), if_pos (by rw [List.length_map]; omega), Option.bind_some, List.length_map, show ((-1 + (gs.length : Int)).toNat) = gs.length - 1 by omega, List.getElem?_map, List.getElem?_eq_getElem hj, List.getD_eq_getElem?_getD, List.getElem?_eq_getElem hj]
  rfl
def spread (ks : List Int) : List Int := [ks.getD 0 0 - 1] ++ (ks.drop 1).take (ks.length - 2) ++ [ks.getD (ks.length - 1) 0 + 1]
theorem spread_map {ks : List Int} (h : 1 < ks.length) : [V.int (ks.getD 0 0 - 1)] ++ cutV (ks.map V.int) (some 1) (some (-1)) ++ [.int (ks.getD (ks.length - 1) 0 + 1)] = (spread ks).map V.int := by
  unfold spread cutV
  rw [List.length_map]
  have e1 : HT.sIx ks.length 0 (some 1) = 1 := by rw [sIx_nat (by decide)]; show min 1 _ = 1; omega
  have e2 : HT.sIx ks.length ks.length (some (-1)) = ks.length - 1 := by
    unfold HT.sIx
    show (if (-1 : Int) < 0 then _ else _) = _
    rw [if_pos (by decide)]
    omega
  rw [e1, e2, List.map_append, List.map_append, List.map_take, List.map_drop, show ks.length - 1 - 1 = ks.length - 2 by omega]
  rfl
theorem spread_len {ks : List Int} (h : 1 < ks.length) : (spread ks).length = ks.length := by
  unfold spread
  simp only [List.length_append, List.length_take, List.length_cons, List.length_nil, List.length_drop]
  omega
theorem spread_ne {ks : List Int} (h : 1 < ks.length) : ks ≠ spread ks := by
  intro e
  have e0 : ks[0]? = (spread ks)[0]? := by rw [← e]
  rw [List.getElem?_eq_getElem (by omega)] at e0
  unfold spread at e0
  simp only [List.cons_append, List.nil_append, List.getElem?_cons_zero, Option.some.injEq] at e0
  rw [List.getD_eq_getElem?_getD, List.getElem?_eq_getElem (by omega)] at e0
  simp only [Option.getD_some] at e0
  omega
theorem spread_up {ks : List Int} (u : Up ks) (h : 1 < ks.length) (h0 : -999999999 < ks.getD 0 0) (h1 : ks.getD (ks.length - 1) 0 < 999999999) : Up (spread ks) := by
  have g0 : ks.getD 0 0 = ks[0] := by rw [List.getD_eq_getElem?_getD, List.getElem?_eq_getElem (by omega)]; rfl
  have g1 : ks.getD (ks.length - 1) 0 = ks[ks.length - 1] := by rw [List.getD_eq_getElem?_getD, List.getElem?_eq_getElem (by omega)]; rfl
  have pw := List.pairwise_iff_getElem.mp u.1
  have mid : ∀ z ∈ (ks.drop 1).take (ks.length - 2), ∃ j : Nat, ∃ hj : j < ks.length, 0 < j ∧ j < ks.length - 1 ∧ z = ks[j] := fun z hz => by
    obtain ⟨i, hi, e⟩ := List.getElem_of_mem hz
    rw [List.length_take, List.length_drop] at hi
    rw [List.getElem_take, List.getElem_drop] at e
    exact ⟨1 + i, by omega, by omega, by omega, e.symm⟩
  refine ⟨?_, fun z hz => ?_⟩
  · unfold spread
    rw [List.pairwise_append, List.pairwise_append]
    refine ⟨⟨List.pairwise_singleton .., (u.1.sublist ((List.take_sublist _ _).trans (List.drop_sublist _ _))), fun a ha b hb => ?_⟩, List.pairwise_singleton .., fun a ha b hb => ?_⟩
    · obtain ⟨j, hj, j0, j1, rfl⟩ := mid b hb
      rw [List.mem_singleton.mp ha, g0]
      have := pw 0 j (by omega) hj j0
      omega
    · rw [List.mem_singleton.mp hb, g1]
      rcases List.mem_append.mp ha with ha | ha
      · rw [List.mem_singleton.mp ha, g0]
        have := pw 0 (ks.length - 1) (by omega) (by omega) (by omega)
        omega
      · obtain ⟨j, hj, j0, j1, rfl⟩ := mid a ha
        have := pw j (ks.length - 1) hj (by omega) j1
        omega
  · unfold spread at hz
    rcases List.mem_append.mp hz with hz | hz
    · rcases List.mem_append.mp hz with hz | hz
      · rw [List.mem_singleton.mp hz]
        have := u.2 ks[0] (List.getElem_mem (by omega))
        rw [g0] at h0 ⊢
        omega
      · obtain ⟨j, hj, _, _, rfl⟩ := mid z hz
        exact u.2 _ (List.getElem_mem hj)
    · rw [List.mem_singleton.mp hz]
      have := u.2 ks[ks.length - 1] (List.getElem_mem (by omega))
      rw [g1] at h1 ⊢
      omega
section
variable {P : Program} {w : World} {K : PySem.W.Frag} {mg : Str → Option Value} {base : Heap}
abbrev s__law_exchanged : Stmt := top 49
theorem sc__law_exchanged : FnScope ["_law_keys_here", "_law_places_here", "_law_found", "_law_k", "_law_other"] ["_law_keys_here", "_law_places_here"] (defScope s__law_exchanged) := ⟨rfl, rfl, rfl, by decide +kernel, rfl, by decide +kernel, by decide +kernel⟩
def spEx (C : Addr) : Sp := fun vs H Q _ => ∃ (lk lg : Addr) (ks gs : List Int), vs = [.ref lk, .ref lg] ∧ H lk = some (.lst (ks.map V.int)) ∧ H lg = some (.lst (gs.map V.int)) ∧ Up ks ∧ ks.length ≤ 6 ∧ gs.length = ks.length + 1 ∧ (∀ g ∈ gs, Plc g) ∧ gs.Nodup ∧
  ∀ l H' (ts : List Addr), H l = none → Same H H' → H' l = some (.lst (ts.map V.ref)) → ts.length ≤ 20 → (∀ t ∈ ts, LItem C ks gs H' t) → Q (.ref l) H'
theorem ok_ex {C f fK fG cE : Addr} {fd : FuncData} (hd : ∃ f fd, Dn K mg "_law_exchanged" "_law_exchanged" s__law_exchanged ["_law_keys_here", "_law_places_here"] f fd) (T : Txt K mg) (XInner : KdN K mg "Inner" "Inner.__init__" (inClass (top 34) 0) C f fd fK fG)
    (GInner : FnOk P w K mg base (CXo P w) 8 f fd ["self", "keys", "goods"] (spMake C cE fun dk dg => PagePlaces dg (lenD dk + 1))) : OkD P w K mg base "_law_exchanged" s__law_exchanged ["_law_keys_here", "_law_places_here"] 10 (spEx C) := by
  obtain ⟨f0, fd0, D⟩ := hd
  refine ⟨f0, fd0, D, D.fn.ok sc__law_exchanged (fun vs H Q E h => ?_) (fun cdv A outer s H vs Q E hr h => ?_)⟩
  · obtain ⟨_, _, _, _, rfl, _⟩ := h
    rfl
  · obtain ⟨lk, lg, ks, gs, rfl, hk, hg, up, few, len, ok, nd, k⟩ := h
    have sc := sc__law_exchanged
    have hu := hr.units0
    refine' ⟨_, (pss_cons (ps_set (i := 2) sc.nd rfl (Or.inl rfl) (pe_lst pa_nil))
    (pss_cons (ps_for PassesOwn.never rfl (pi_range1 rfl T.n_range (pa_c (pe_callB call_len_seq rfl T.n_len bt_len (pa_c (pv 0) pa_nil)) pa_nil)) (pg_name (i := 3) sc.nd rfl (Or.inl rfl))
      (pss_cons (ps_set (i := 4) sc.nd rfl (Or.inl rfl) (pe_op op_cat (pe_op op_cat (pe_slice sl_list (pv 1) po_none (po_some (pv 3))) (pe_lst (pa_c (pe_ix ix_list (pv 1) (pe_op op_add (pv 3) pe_int) (fun _ _ => rfl)) (pa_c (pe_ix ix_list (pv 1) (pv 3) (fun _ _ => rfl)) pa_nil)))) (pe_slice sl_list (pv 1) (po_some (pe_op op_add (pv 3) pe_int)) po_none)))
    (pss_one (ps_expr (pe_bm PySem.F.plainAttrs_list PySem.F.slot_list_append PySem.F.type_list_append mt_append (pv 2) (pa_c (pe_tup (pa_c (pe_make XInner.mak GInner (hr.mono (by decide)) rfl XInner.m XInner.bi .nil passX (pa_c (pv 0) (pa_c (pv 4) pa_nil))) (pa_c pe_bl pa_nil))) pa_nil))))))
    (pss_cons (ps_if (PW.pt (pw_and (pt_cmpR op_gt (pe_callB call_len_seq rfl T.n_len bt_len (pa_c (pv 0) pa_nil)) pe_int (nomark _)) (pw_and (pt_cmpR op_gt (pe_ix ix_list (pv 0) pe_int (fun _ _ => rfl)) (pe_op op_sub pe_int (pe_op op_pow pe_int pe_int)) (nomark _)) (pw_and1 (pt_cmpR op_lt (pe_ix ix_list (pv 0) (pe_un un_neg pe_int) (fun _ _ => rfl)) (pe_op op_sub (pe_op op_pow pe_int pe_int) pe_int) (nomark _))))))
      (pss_one (ps_expr (pe_bm PySem.F.plainAttrs_list PySem.F.slot_list_append PySem.F.type_list_append mt_append (pv 2) (pa_c (pe_tup (pa_c (pe_make XInner.mak GInner (hr.mono (by decide)) rfl XInner.m XInner.bi .nil passX (pa_c (pe_op op_cat (pe_op op_cat (pe_lst (pa_c (pe_op op_sub (pe_ix ix_list (pv 0) pe_int (fun _ _ => rfl)) pe_int) pa_nil)) (pe_slice sl_list (pv 0) (po_some pe_int) (po_some (pe_un un_neg pe_int)))) (pe_lst (pa_c (pe_op op_add (pe_ix ix_list (pv 0) (pe_un un_neg pe_int) (fun _ _ => rfl)) pe_int) pa_nil))) (pa_c (pv 1) pa_nil))) (pa_c pe_bl pa_nil))) pa_nil))))
      pss_nil)
    (pss_one (ps_ret (pv 2)))))), ?_⟩
    have e9 : (10 : Int) ^ (9 : Int).toNat = 1000000000 := by decide +kernel
    refine ⟨(by show 0 ≤ sizeLine; decide), fun lf flf => ?_⟩
    have S5 := Same.upd (o := .lst []) flf
    have e5 := upd_same (H := H) (a := lf) (o := .lst [])
    generalize upd H lf (.lst []) = H5 at *
    dsimp only [gName, tNext]
    have add : ∀ {H6 : Hp} {t : Addr} {ts : List Addr}, Same H H6 → H6 lf = some (.lst (ts.map V.ref)) → (∀ t ∈ ts, LItem C ks gs H6 t) → LItem C ks gs H6 t → Same H (upd H6 lf (.lst (ts.map V.ref ++ [.ref t]))) ∧ upd H6 lf (.lst (ts.map V.ref ++ [.ref t])) lf = some (.lst ((ts ++ [t]).map V.ref)) ∧ ∀ t' ∈ ts ++ [t], LItem C ks gs (upd H6 lf (.lst (ts.map V.ref ++ [.ref t]))) t' := fun {H6 t ts} S e it i => by
      refine ⟨fun c o z => ?_, ?_, fun t' ht => ?_⟩
      · rw [upd_ne (ne_of_none z flf)]; exact S _ _ z
      · rw [upd_same, List.map_append]; rfl
      · rcases List.mem_append.mp ht with h | h
        · exact (it t' h).updL e
        · rw [List.mem_singleton.mp h]; exact i.updL e
    refine seq2 (fun σ H6 => (∃ o3 o4, σ = [some (.ref lk), some (.ref lg), some (.ref lf), o3, o4]) ∧ ∃ ts : List Addr, Same H H6 ∧ H6 lf = some (.lst (ts.map V.ref)) ∧ ts.length ≤ 10 ∧ ∀ t ∈ ts, LItem C ks gs H6 t) ?loop ?rest
    case loop =>
      intro N q
      refine ⟨_, rfl, lk, _, rfl, .inl (SqL.of (S5 _ _ hk)), _, rfl, by rw [List.length_map]; omega, by rw [List.length_map]; omega, for_range (fun i σ H6 => (∃ o3 o4, σ = [some (.ref lk), some (.ref lg), some (.ref lf), o3, o4]) ∧ ∃ ts : List Addr, Same H H6 ∧ H6 lf = some (.lst (ts.map V.ref)) ∧ ts.length = i ∧ ∀ t ∈ ts, LItem C ks gs H6 t) ⟨⟨none, none, rfl⟩, [], S5, e5, rfl, fun t ht => by cases ht⟩ ?_ ?_⟩
      case refine_2 =>
        rintro σ H6 ⟨a, ts, b, c, d, e⟩
        refine q _ _ ⟨a, ts, b, c, ?_, e⟩
        rw [d, List.length_map]
        omega
      rintro i σ H6 hi ⟨⟨o3, o4, rfl⟩, ts, S6, e6, lt6, it6⟩
      rw [List.length_map] at hi
      have hi0 : i < ks.length := by omega
      have hi1 : i + 1 < gs.length := by omega
      have c1 : ((0 : Int) + (i : Int)) = ((i : Nat) : Int) := by omega
      have hg6 := S6 _ _ hg
      refine ⟨_, rfl, _, rfl, _, rfl, lg, _, rfl, SqL.of hg6, fun l7 f7 => ?_⟩
      rw [c1, cut_take (by rw [List.length_map]; omega)]
      have S7 := Same.upd (o := .lst ((gs.map V.int).take i)) f7
      have e7 := upd_same (H := H6) (a := l7) (o := .lst ((gs.map V.int).take i))
      have S67 := S6.trans S7
      replace e6 := S7 _ _ e6
      generalize upd H6 l7 (.lst ((gs.map V.int).take i)) = H7 at *
      refine ⟨_, rfl, _, rfl, _, _, rfl, rfl, lg, _, _, _, rfl, rfl, SqL.of (S67 _ _ hg), (by have := at_intG hi1; rw [show ((i + 1 : Nat) : Int) = (i : Int) + 1 by omega] at this; exact this), ?_⟩
      refine ⟨_, rfl, _, rfl, lg, _, _, _, rfl, rfl, SqL.of (S67 _ _ hg), at_intG (by omega), (by show 2 ≤ sizeLine; decide), fun l8 f8 => ?_⟩
      have S8 := Same.upd (o := .lst [.int (gs.getD (i + 1) 0), .int (gs.getD i 0)]) f8
      have e8 := upd_same (H := H7) (a := l8) (o := .lst [.int (gs.getD (i + 1) 0), .int (gs.getD i 0)])
      have S68 := S67.trans S8
      replace e6 := S8 _ _ e6
      replace e7 := S8 _ _ e7
      generalize upd H7 l8 _ = H8 at *
      refine ⟨l7, l8, _, _, rfl, rfl, e7, e8, by rw [List.length_take, List.length_map]; have := big1000; show min i gs.length + 2 ≤ _; omega, fun l9 f9 => ?_⟩
      have S9 := Same.upd (o := .lst ((gs.map V.int).take i ++ [.int (gs.getD (i + 1) 0), .int (gs.getD i 0)])) f9
      have e9' := upd_same (H := H8) (a := l9) (o := .lst ((gs.map V.int).take i ++ [.int (gs.getD (i + 1) 0), .int (gs.getD i 0)]))
      have S69 := S68.trans S9
      replace e6 := S9 _ _ e6
      generalize upd H8 l9 _ = H9 at *
      refine ⟨_, rfl, _, rfl, _, _, rfl, rfl, _, rfl, lg, _, rfl, SqL.of (S69 _ _ hg), fun l10 f10 => ?_⟩
      rw [show ((i : Nat) : Int) + 2 = ((i + 2 : Nat) : Int) by omega, cut_drop (by rw [List.length_map]; omega)]
      have S10 := Same.upd (o := .lst ((gs.map V.int).drop (i + 2))) f10
      have e10 := upd_same (H := H9) (a := l10) (o := .lst ((gs.map V.int).drop (i + 2)))
      have S610 := S69.trans S10
      replace e6 := S10 _ _ e6
      replace e9' := S10 _ _ e9'
      generalize upd H9 l10 _ = H10 at *
      refine ⟨l9, l10, _, _, rfl, rfl, e9', e10, by simp only [List.length_append, List.length_take, List.length_map, List.length_drop, List.length_cons, List.length_nil]; have := big1000; omega, fun lo fo => ?_⟩
      rw [swap_map hi1]
      have S11 := Same.upd (o := .lst ((swap gs i).map V.int)) fo
      have e11 := upd_same (H := H10) (a := lo) (o := .lst ((swap gs i).map V.int))
      have S611 := S610.trans S11
      replace e6 := S11 _ _ e6
      have itS : ∀ t ∈ ts, LItem C ks gs H10 t := fun t ht => (it6 t ht).keep (((S7.trans S8).trans S9).trans S10)
      replace it6 : ∀ t ∈ ts, LItem C ks gs (upd H10 lo (.lst ((swap gs i).map V.int))) t := fun t ht => (itS t ht).keep S11
      clear itS
      generalize upd H10 lo (.lst ((swap gs i).map V.int)) = H11 at *
      refine ⟨_, rfl, .inl ⟨rfl, _, SqL.of e6⟩, _, rfl, _, rfl, ?_⟩
      intro y dy fy fdy nyd
      refine make_p (tp := false) (tp' := false) (ks := ks) (ps := swap gs i) (S611 _ _ hk) e11 up few (fun g hg => ok g (swap_mem hi1 hg)) ((swap_perm hi1).nodup_iff.mpr nd) (by rw [swap_len hi1]; exact len) fy fdy fun H12 S12 pg => ⟨rfl, ?_⟩
      have S612 := S611.trans S12
      refine ⟨(by show 2 ≤ sizeLine; decide), fun t13 f13 => ?_⟩
      have S13 := Same.upd (o := .tup [.ref y, .bl false]) f13
      have it13 : LItem C ks gs (upd H12 t13 (.tup [.ref y, .bl false])) t13 := ⟨y, dy, ks, swap gs i, _, upd_same, pg.keep S13, by rw [decide_eq_false (swap_ne hi1 nd), Bool.and_false]⟩
      have S613 := S612.trans S13
      have e13 := S13 _ _ (S12 _ _ e6)
      have its : ∀ t ∈ ts, LItem C ks gs (upd H12 t13 (.tup [.ref y, .bl false])) t := fun t ht => (it6 t ht).keep (S12.trans S13)
      generalize upd H12 t13 _ = H13 at *
      obtain ⟨r1, r2, r3⟩ := add S613 e13 its it13
      exact ⟨lf, _, _, rfl, rfl, e13, by rw [List.length_map]; have := big1000; omega, ⟨_, _, rfl⟩, ts ++ [t13], r1, r2, by rw [List.length_append, lt6]; rfl, r3⟩
    case rest =>
    rintro _ H6 ⟨⟨o3, o4, rfl⟩, ts, S6, e6, lt6, it6⟩
    refine seq2 (fun σ H7 => (∃ o3 o4, σ = [some (.ref lk), some (.ref lg), some (.ref lf), o3, o4]) ∧ ∃ ts : List Addr, Same H H7 ∧ H7 lf = some (.lst (ts.map V.ref)) ∧ ts.length ≤ 11 ∧ ∀ t ∈ ts, LItem C ks gs H7 t) ?if3 ?ret
    case ret =>
      rintro _ H7 ⟨⟨o3, o4, rfl⟩, ts, S7, e7, lt7, it7⟩
      exact ⟨_, rfl, k lf H7 ts flf S7 e7 (by omega) it7⟩
    case if3 =>
    intro N q
    have skip : N [some (.ref lk), some (.ref lg), some (.ref lf), o3, o4] H6 := q _ _ ⟨⟨_, _, rfl⟩, ts, S6, e6, by omega, it6⟩
    have hk6 := S6 _ _ hk
    refine ⟨_, rfl, lk, _, rfl, .inl (SqL.of hk6), _, _, rfl, rfl, _, rfl, ite2 (fun c1 => ?_) (fun c1 => iteF skip)⟩
    have l1' : 1 < ks.length := by
      have : (1 : Int) < ((ks.map V.int).length : Nat) := of_decide_eq_true c1
      rw [List.length_map] at this
      omega
    have a0 : atI (ks.map V.int) 0 = some (.int (ks.getD 0 0)) := at_intG (i := 0) (by omega)
    refine ⟨_, rfl, lk, _, _, _, rfl, rfl, SqL.of hk6, a0, _, _, rfl, rfl, cp (by decide) (by decide), _, _, rfl, rfl, _, _, rfl, rfl, _, rfl, ite2 (fun c2 => ?_) (fun c2 => iteF skip)⟩
    have h0 : 1 - (10 : Int) ^ (9 : Int).toNat < ks.getD 0 0 := of_decide_eq_true c2
    refine ⟨_, rfl, _, rfl, lk, _, _, _, rfl, rfl, SqL.of hk6, atI_end (by omega), _, _, rfl, rfl, cp (by decide) (by decide), _, _, rfl, rfl, _, _, rfl, rfl, _, rfl, ite2 (fun c3 => ?_) (fun c3 => skip)⟩
    have h1 : ks.getD (ks.length - 1) 0 < (10 : Int) ^ (9 : Int).toNat - 1 := of_decide_eq_true c3
    rw [e9] at h0 h1
    have su := spread_up up l1' (by omega) (by omega)
    refine ⟨_, rfl, .inl ⟨rfl, _, SqL.of e6⟩, ?_⟩
    refine ⟨_, rfl, lk, _, _, _, rfl, rfl, SqL.of hk6, a0, _, _, rfl, rfl, (by show 1 ≤ sizeLine; decide), fun l7 f7 => ?_⟩
    have S7 := Same.upd (o := .lst [.int (ks.getD 0 0 - 1)]) f7
    have e7 := upd_same (H := H6) (a := l7) (o := .lst [.int (ks.getD 0 0 - 1)])
    have S67 := S6.trans S7
    generalize upd H6 l7 _ = H7 at *
    refine ⟨_, rfl, _, rfl, _, rfl, _, rfl, lk, _, rfl, SqL.of (S67 _ _ hk), fun l8 f8 => ?_⟩
    have S8 := Same.upd (o := .lst (cutV (ks.map V.int) (some 1) (some (-1)))) f8
    have e8 := upd_same (H := H7) (a := l8) (o := .lst (cutV (ks.map V.int) (some 1) (some (-1))))
    have S68 := S67.trans S8
    replace e7 := S8 _ _ e7
    have lc : (cutV (ks.map V.int) (some 1) (some (-1))).length ≤ 6 := by have := cutV_length (ks.map V.int) (some 1) (some (-1)); rw [List.length_map] at this; omega
    refine ⟨l7, l8, _, _, rfl, rfl, e7, e8, by have := big1000; show 1 + (cutV (ks.map V.int) (some 1) (some (-1))).length ≤ _; omega, fun l9 f9 => ?_⟩
    generalize upd H7 l8 _ = H8 at *
    have S9 := Same.upd (o := .lst ([.int (ks.getD 0 0 - 1)] ++ cutV (ks.map V.int) (some 1) (some (-1)))) f9
    have e9' := upd_same (H := H8) (a := l9) (o := .lst ([.int (ks.getD 0 0 - 1)] ++ cutV (ks.map V.int) (some 1) (some (-1))))
    have S69 := S68.trans S9
    generalize upd H8 l9 _ = H9 at *
    refine ⟨_, rfl, _, rfl, lk, _, _, _, rfl, rfl, SqL.of (S69 _ _ hk), atI_end (by omega), _, _, rfl, rfl, (by show 1 ≤ sizeLine; decide), fun l10 f10 => ?_⟩
    have S10 := Same.upd (o := .lst [.int (ks.getD (ks.length - 1) 0 + 1)]) f10
    have e10 := upd_same (H := H9) (a := l10) (o := .lst [.int (ks.getD (ks.length - 1) 0 + 1)])
    have S610 := S69.trans S10
    replace e9' := S10 _ _ e9'
    generalize upd H9 l10 _ = H10 at *
    refine ⟨l9, l10, _, _, rfl, rfl, e9', e10, by rw [List.length_append]; have := big1000; show 1 + (cutV (ks.map V.int) (some 1) (some (-1))).length + 1 ≤ _; omega, fun l11 f11 => ?_⟩
    rw [spread_map l1']
    have S11 := Same.upd (o := .lst ((spread ks).map V.int)) f11
    have e11 := upd_same (H := H10) (a := l11) (o := .lst ((spread ks).map V.int))
    have S611 := S610.trans S11
    have T6 : Same H6 (upd H10 l11 (.lst ((spread ks).map V.int))) := (((S7.trans S8).trans S9).trans S10).trans S11
    generalize upd H10 l11 _ = H11 at *
    refine ⟨_, rfl, ?_⟩
    intro y dy fy fdy nyd
    refine make_p (tp := false) (tp' := false) (ks := spread ks) (ps := gs) e11 (S611 _ _ hg) su (by rw [spread_len l1']; exact few) ok nd (by rw [spread_len l1']; exact len) fy fdy fun H12 S12 pg => ⟨rfl, ?_⟩
    have S612 := S611.trans S12
    refine ⟨(by show 2 ≤ sizeLine; decide), fun t13 f13 => ?_⟩
    have S13 := Same.upd (o := .tup [.ref y, .bl false]) f13
    have it13 : LItem C ks gs (upd H12 t13 (.tup [.ref y, .bl false])) t13 := ⟨y, dy, spread ks, gs, _, upd_same, pg.keep S13, by rw [decide_eq_false (spread_ne l1')]; rfl⟩
    have T13 := (T6.trans S12).trans S13
    have its : ∀ t ∈ ts, LItem C ks gs (upd H12 t13 (.tup [.ref y, .bl false])) t := fun t ht => (it6 t ht).keep T13
    have e13 := T13 _ _ e6
    have S613 := S612.trans S13
    generalize upd H12 t13 _ = H13 at *
    obtain ⟨r1, r2, r3⟩ := add S613 e13 its it13
    exact ⟨lf, _, _, rfl, rfl, e13, by rw [List.length_map]; have := big1000; omega, q _ _ ⟨⟨_, _, rfl⟩, ts ++ [t13], r1, r2, by rw [List.length_append]; show ts.length + 1 ≤ 11; omega, r3⟩⟩
end
end K14
set_option Elab.async false
set_option linter.all false
set_option maxRecDepth 100000
set_option maxHeartbeats 1000000
namespace K14
open PySem L2
theorem Pg.updL {C dx x l : Addr} {H : Hp} {xs ys zs ws : List V} (p : Pg C dx H x xs ys) (h : H l = some (.lst zs)) : Pg C dx (upd H l (.lst ws)) x xs ys := by
  obtain ⟨tk, tg, a, b, c⟩ := p
  refine ⟨tk, tg, ?_, ?_, ?_⟩
  · rw [upd_ne (ne_of a h (by intro z; cases z))]; exact a
  · rw [upd_ne (ne_of b h (by intro z; cases z))]; exact b
  · rw [upd_ne (ne_of c h (by intro z; cases z))]; exact c
theorem PgI.updL {C dx x l : Addr} {H : Hp} {ks gs : List Int} {xs ys : List V} (p : PgI C dx H x ks gs) (h : H l = some (.lst xs)) : PgI C dx (upd H l (.lst ys)) x ks gs := ⟨p.pg.updL h, p.len, p.few, p.up, p.ok⟩
def SItem (L I : Addr) (N : Addr → Prop) (ks ps : List Int) (H : Hp) (t : Addr) : Prop := ∃ (v : V) (b : Bool), H t = some (.tup [v, .bl b]) ∧
  ((∃ (y dy : Addr) (ks' ps' : List Int), v = .ref y ∧ PgP I dy H y ks' ps' ∧ b = (decide (ks = ks') && decide (ps = ps'))) ∨
   (∃ (y dy : Addr) (ks' gs' : List Int), v = .ref y ∧ PgI L dy H y ks' gs' ∧ b = false) ∨
   (∃ d, DV N H v d ∧ Okd 100000 d ∧ b = false))
theorem SItem.keep {C CI : Addr} {N : Addr → Prop} {ks gs : List Int} {H H' : Hp} {t : Addr} (x : SItem C CI N ks gs H t) (S : Same H H') : SItem C CI N ks gs H' t := by
  obtain ⟨v, b, e, h⟩ := x
  refine ⟨v, b, S _ _ e, ?_⟩
  rcases h with ⟨y, dy, ks', gs', e1, p, q⟩ | ⟨y, dy, ks', gs', e1, p, q⟩ | ⟨d, p, o, q⟩
  · exact .inl ⟨y, dy, ks', gs', e1, p.keep S, q⟩
  · exact .inr (.inl ⟨y, dy, ks', gs', e1, p.keep S, q⟩)
  · exact .inr (.inr ⟨d, p.keep (fun a o _ z => S a o z) fun _ z => z, o, q⟩)
theorem SItem.updL {C CI L : Addr} {ks gs : List Int} {H : Hp} {t : Addr} {xs ys : List V} (x : SItem C CI (fun a => a = L) ks gs H t) (h : H L = some (.lst xs)) : SItem C CI (fun a => a = L) ks gs (upd H L (.lst ys)) t := by
  obtain ⟨v, b, e, g⟩ := x
  refine ⟨v, b, by rw [upd_ne (ne_of e h (by intro z; cases z))]; exact e, ?_⟩
  rcases g with ⟨y, dy, ks', gs', e1, p, q⟩ | ⟨y, dy, ks', gs', e1, p, q⟩ | ⟨d, p, o, q⟩
  · exact .inl ⟨y, dy, ks', gs', e1, p.updL h, q⟩
  · exact .inr (.inl ⟨y, dy, ks', gs', e1, p.updL h, q⟩)
  · exact .inr (.inr ⟨d, p.keep (fun a o n z => by rw [upd_ne n]; exact z) fun _ z => z, o, q⟩)
theorem LItem.s {L I : Addr} {N : Addr → Prop} {ks gs : List Int} {H : Hp} {t : Addr} (x : LItem I ks gs H t) : SItem L I N ks gs H t := let ⟨y, dy, ks', gs', b, e, p, q⟩ := x; ⟨.ref y, b, e, .inl ⟨y, dy, ks', gs', rfl, p, q⟩⟩
theorem SItem.use {K : PySem.W.Frag} {L I : Addr} {N : Addr → Prop} {ks gs : List Int} {H : Hp} {t : Addr} (kn : Kin K L I) (cl : InsC K L) (ci : InsC K I) (x : SItem L I N ks gs H t) : ∃ (v : V) (b : Bool), H t = some (.tup [v, .bl b]) ∧ (∃ txt, Tells L I H v txt) ∧
    ∃ (u : Value) (kb : Bool), Any1 K H v u ∧ PySem.W.kitOne K u (.ref I) = some kb ∧ (kb = true → ∃ y dy, v = .ref y ∧ ∃ ks' gs' : List Int, Pg I dy H y (ks'.map V.int) (gs'.map V.int) ∧ b = (decide (ks = ks') && decide (gs = gs'))) ∧ (kb = false → b = false) := by
  obtain ⟨v, b, e, g⟩ := x
  refine ⟨v, b, e, ?_⟩
  rcases g with ⟨y, dy, ks', gs', rfl, p, q⟩ | ⟨y, dy, ks', gs', rfl, p, q⟩ | ⟨d, p, o, q⟩
  · obtain ⟨tk, tg, hy, _, _⟩ := p.pg
    exact ⟨⟨_, .inl ⟨y, dy, I, ks', gs', .inr rfl, rfl, p.pg, okd_rows (up_small p.up) (plc_small p.ok) (by have := p.few; omega) (by have := p.few; have := p.len; omega), rfl⟩⟩, .ref I, true, .inr ⟨y, I, dy, _, rfl, hy, ci, rfl⟩, kit_self, fun _ => ⟨y, dy, rfl, ks', gs', p.pg, q⟩, fun z => by cases z⟩
  · obtain ⟨tk, tg, hy, _, _⟩ := p.pg
    exact ⟨⟨_, .inl ⟨y, dy, L, ks', gs', .inl rfl, rfl, p.pg, okd_rows (up_small p.up) (in_small p.ok) (by have := p.few; omega) (by have := p.few; have := p.len; omega), rfl⟩⟩, .ref L, false, .inr ⟨y, L, dy, _, rfl, hy, cl, rfl⟩, kn.ic, (fun z => by cases z), fun _ => q⟩
  · have p' : DV (fun _ => False) H v d := p.keep (fun a o _ z => z) fun _ z => z.elim
    exact ⟨⟨_, .inr ⟨d, p', o, rfl⟩⟩, tyD d, false, .inl p'.thg, kn.i d, (fun z => by cases z), fun _ => q⟩
theorem hole : ∀ (n : Nat) (ps : List Int), (∀ i : Nat, i < n → (i : Int) ∈ ps) → n ≤ ps.length
  | 0, _, _ => Nat.zero_le _
  | n + 1, ps, h => by
    have m := h n (by omega)
    have l := hole n (ps.erase (n : Int)) fun i hi => (List.mem_erase_of_ne (by omega)).mpr (h i (by omega))
    rw [List.length_erase_of_mem m] at l
    have : 0 < ps.length := List.length_pos_of_mem m
    omega
def notIn (ps : List Int) (v : V) : Bool := !inV v (ps.map V.int)
theorem fresh_ex (ps : List Int) : ∃ (f : Int) (rest : List V), (upTo 0 (ps.length + 1)).filter (notIn ps) = .int f :: rest ∧ f ∉ ps ∧ 0 ≤ f ∧ f ≤ ps.length := by
  have mem : ∀ v ∈ (upTo 0 (ps.length + 1)).filter (notIn ps), ∃ f : Int, v = .int f ∧ f ∉ ps ∧ 0 ≤ f ∧ f ≤ ps.length := fun v hv => by
    obtain ⟨h1, h2⟩ := List.mem_filter.mp hv
    unfold L2.upTo at h1
    obtain ⟨j, hj, rfl⟩ := List.mem_map.mp h1
    have hj' := List.mem_range.mp hj
    refine ⟨0 + (j : Int), rfl, fun hm => ?_, by omega, by omega⟩
    unfold notIn at h2
    rw [inV_int.mpr hm] at h2
    cases h2
  cases c : (upTo 0 (ps.length + 1)).filter (notIn ps) with
  | nil =>
    have all : ∀ i : Nat, i < ps.length + 1 → (i : Int) ∈ ps := fun i hi => by
      refine Classical.byContradiction fun hn => ?_
      have hm : V.int (0 + (i : Int)) ∈ (upTo 0 (ps.length + 1)).filter (notIn ps) := List.mem_filter.mpr ⟨List.mem_map.mpr ⟨i, List.mem_range.mpr hi, rfl⟩, by
        unfold notIn
        rw [show (0 : Int) + (i : Int) = (i : Int) by omega, not_in hn]
        rfl⟩
      rw [c] at hm
      cases hm
    have := hole _ _ all
    omega
  | cons v rest =>
    obtain ⟨f, rfl, h⟩ := mem v (by rw [c]; exact List.mem_cons_self ..)
    exact ⟨f, rest, rfl, h⟩
theorem cut_last {xs : List Int} (h : 0 < xs.length) : cutV (xs.map V.int) none (some (-1)) = (xs.take (xs.length - 1)).map V.int := by
  unfold cutV
  have e2 : HT.sIx (xs.map V.int).length (xs.map V.int).length (some (-1)) = xs.length - 1 := by
    rw [List.length_map]
    unfold HT.sIx
    show (if (-1 : Int) < 0 then _ else _) = _
    rw [if_pos (by decide)]
    omega
  rw [sIx_no, e2, List.drop_zero, List.map_take]
  rfl
theorem last_ok {ps : List Int} {f : Int} (h : 0 < ps.length) (hf : f ∉ ps) (nd : ps.Nodup) (ok : ∀ p ∈ ps, Plc p) (pf : Plc f) : (ps.take (ps.length - 1) ++ [f]).Nodup ∧ (∀ p ∈ ps.take (ps.length - 1) ++ [f], Plc p) ∧ (ps.take (ps.length - 1) ++ [f]).length = ps.length ∧ ps ≠ ps.take (ps.length - 1) ++ [f] := by
  refine ⟨?_, fun p hp => ?_, ?_, fun e => hf ?_⟩
  · rw [List.nodup_append]
    exact ⟨nd.sublist (List.take_sublist _ _), by simp, fun a ha b hb e => hf (by rw [List.mem_singleton.mp hb] at e; rw [← e]; exact List.mem_of_mem_take ha)⟩
  · rcases List.mem_append.mp hp with q | q
    · exact ok p (List.mem_of_mem_take q)
    · rw [List.mem_singleton.mp q]; exact pf
  · simp only [List.length_append, List.length_take, List.length_cons, List.length_nil]; omega
  · rw [e]; exact List.mem_append_right _ (List.mem_singleton.mpr rfl)
theorem first_ok {ps : List Int} {f : Int} (h : 0 < ps.length) (hf : f ∉ ps) (nd : ps.Nodup) (ok : ∀ p ∈ ps, Plc p) (pf : Plc f) : (f :: ps.drop 1).Nodup ∧ (∀ p ∈ f :: ps.drop 1, Plc p) ∧ (f :: ps.drop 1).length = ps.length ∧ ps ≠ f :: ps.drop 1 := by
  refine ⟨?_, fun p hp => ?_, ?_, fun e => hf ?_⟩
  · exact List.nodup_cons.mpr ⟨fun m => hf (List.mem_of_mem_drop m), nd.sublist (List.drop_sublist _ _)⟩
  · rcases List.mem_cons.mp hp with q | q
    · rw [q]; exact pf
    · exact ok p (List.mem_of_mem_drop q)
  · simp only [List.length_cons, List.length_drop]; omega
  · rw [e]; exact List.mem_cons_self ..
theorem rev_self {ps : List Int} (h : 0 < ps.length) (nd : ps.Nodup) : decide (ps = ps.reverse) = decide (ps.length = 1) := by
  refine decide_eq_decide.mpr ⟨fun e => ?_, fun e => ?_⟩
  · refine Classical.byContradiction fun n1 => ?_
    have e0 : ps[0]? = ps.reverse[0]? := by rw [← e]
    rw [List.getElem?_reverse (by omega), List.getElem?_eq_getElem (by omega), List.getElem?_eq_getElem (by omega)] at e0
    injection e0 with e0
    exact List.pairwise_iff_getElem.mp nd 0 (ps.length - 1 - 0) (by omega) (by omega) (by omega) e0
  · match ps, e with
    | [a], _ => rfl
theorem tail_ok {ks ps : List Int} (l : ps.length = ks.length + 1) : (ks.drop 1).length + 1 = (ps.take (max 1 ks.length)).length ∧ decide (ks = []) = (decide (ks = ks.drop 1) && decide (ps = ps.take (max 1 ks.length))) := by
  refine ⟨by simp only [List.length_drop, List.length_take]; omega, ?_⟩
  cases ks with
  | nil =>
    have e : ps = ps.take (max 1 ([] : List Int).length) := (List.take_of_length_le (by simp only [List.length_nil] at l ⊢; omega)).symm
    rw [decide_eq_true (rfl : ([] : List Int) = []), decide_eq_true e]
    rfl
  | cons a as =>
    have e : (a :: as) ≠ (a :: as).drop 1 := fun z => by
      have := congrArg List.length z
      simp only [List.length_cons, List.length_drop] at this
      omega
    rw [decide_eq_false e, decide_eq_false (by simp)]
    rfl
theorem zeros (k : Nat) : (List.replicate k [V.int 0]).flatten = (List.replicate k (0 : Int)).map V.int := by
  induction k with
  | zero => rfl
  | succ k ih => rw [List.replicate_succ, List.flatten_cons, ih, List.replicate_succ]; rfl
theorem set_up {ks : List Int} (u : Up ks) {j : Nat} (hj : j < ks.length) (hn : ks.getD j 0 + 1 ∉ ks) (hb : ks.getD j 0 < 999999999) : Up (ks.set j (ks.getD j 0 + 1)) := by
  have g0 : ks.getD j 0 = ks[j] := by rw [List.getD_eq_getElem?_getD, List.getElem?_eq_getElem hj]; rfl
  rw [g0] at hn hb ⊢
  have pw := List.pairwise_iff_getElem.mp u.1
  refine ⟨List.pairwise_iff_getElem.mpr fun a b ha hb' hab => ?_, fun z hz => ?_⟩
  · rw [List.length_set] at ha hb'
    have h := pw a b ha hb' hab
    rw [List.getElem_set, List.getElem_set]
    by_cases ca : j = a
    · subst ca
      rw [if_pos rfl, if_neg (by omega)]
      have ne : ks[b] ≠ ks[j] + 1 := fun z => hn (by rw [← z]; exact List.getElem_mem hb')
      omega
    · rw [if_neg ca]
      by_cases cb : j = b
      · subst cb
        rw [if_pos rfl]
        omega
      · rw [if_neg cb]
        exact h
  · rcases List.mem_or_eq_of_mem_set hz with h | h
    · exact u.2 z h
    · have := u.2 _ (List.getElem_mem hj)
      omega
theorem set_ne {ks : List Int} {j : Nat} (hj : j < ks.length) : ks ≠ ks.set j (ks.getD j 0 + 1) := fun e => by
  have h : ks[j]? = (ks.set j (ks.getD j 0 + 1))[j]? := by rw [← e]
  rw [List.getElem?_set_self hj, List.getElem?_eq_getElem hj, List.getD_eq_getElem?_getD, List.getElem?_eq_getElem hj] at h
  simp only [Option.getD_some, Option.some.injEq] at h
  omega
theorem ixN_nat {n i : Nat} (h : i < n) : ixN n (i : Int) = some i := by
  unfold ixN
  rw [if_pos (by omega), if_pos (by omega)]
  rfl
theorem okd_c {d : PyData} (a : d.showable = true) (b : d.leavesShort 40 = true) (c : d.depth ≤ 10) (e : d.weight ≤ 1000) : Okd 100000 d := ⟨a, b, by omega, by omega⟩
theorem okd_rowsT {ks gs : List Int} (hk : ∀ z ∈ ks, z.natAbs ≤ 10 ^ 30) (hg : ∀ z ∈ gs, z.natAbs ≤ 10 ^ 30) (lk : ks.length ≤ 7) (lg : gs.length ≤ 7) : Okd 100000 (.tuple [.tuple (ks.map PyData.int), .tuple (gs.map PyData.int)]) := by
  have sm : ∀ {ns : List Int}, (∀ z ∈ ns, z.natAbs ≤ 10 ^ 30) → ∀ d ∈ ns.map PyData.int, Small d := fun {ns} h d hd => by
    obtain ⟨g, hg, rfl⟩ := List.mem_map.mp hd
    exact small_int (h g hg)
  obtain ⟨a, b, c, e⟩ := smalls_row (sm hk)
  obtain ⟨a', b', c', e'⟩ := smalls_row (sm hg)
  rw [List.length_map] at e e'
  refine ⟨?_, ?_, ?_, ?_⟩
  · simp only [PyData.showable, PyData.showableAll, a, a', Bool.and_self]
  · simp only [PyData.leavesShort, PyData.leavesShortAll, b, b', Bool.and_self]
  · simp only [PyData.depth, PyData.depthAll]; omega
  · simp only [PyData.weight, PyData.weightAll]; omega
theorem any_keep {K : PySem.W.Frag} {H H' : Hp} {v : V} {t : Value} (a : Any1 K H v t) (S : Same H H') : Any1 K H' v t := by
  rcases a with a | ⟨x, C, dx, fs, e, h, c, q⟩
  · exact .inl (a.keep S)
  · exact .inr ⟨x, C, dx, fs, e, S _ _ h, c, q⟩
end K14
set_option Elab.async false
set_option linter.all false
set_option maxRecDepth 100000
set_option maxHeartbeats 2000000
namespace K14
open PySem L2
theorem dv_kb {L : Addr} {H H' : Hp} {v : V} {d : PyData} (x : DV (fun a => a = L) H v d) (k : KB L H H') : DV (fun a => a = L) H' v d := x.keep (fun a o n z => k a o z n) fun _ z => z
section
variable {P : Program} {w : World} {K : PySem.W.Frag} {mg : Str → Option Value} {base : Heap}
abbrev s__law_same_right : Stmt := top 50
theorem sc__law_same_right : FnScope ["_law_page", "_law_keys_here", "_law_places_here", "_law_fresh", "_law_things", "_law_k", "_law_more", "_law_thing", "_law_due_here", "_law_kept", "_law_found"] ["_law_page", "_law_keys_here", "_law_places_here"] (defScope s__law_same_right) := ⟨rfl, rfl, rfl, by decide +kernel, rfl, by decide +kernel, by decide +kernel⟩
def spSR (C : Addr) : Sp := fun vs H Q _ => ∃ (x dx lk lg : Addr) (ks ps : List Int), vs = [.ref x, .ref lk, .ref lg] ∧ PgP C dx H x ks ps ∧ H lk = some (.lst (ks.map V.int)) ∧ H lg = some (.lst (ps.map V.int)) ∧ ∀ H', Q (.bl true) H'
theorem ok_sr {LF CI f fK fG f' fK' fG' cE cE' : Addr} {fd fd' : FuncData} (hd : ∃ f fd, Dn K mg "_law_same_right" "_law_same_right" s__law_same_right ["_law_page", "_law_keys_here", "_law_places_here"] f fd) (T : Txt K mg) (kn : Kin K LF CI) (cl : InsC K LF) (ci : InsC K CI)
    (XLeaf : KdN K mg "Leaf" "Leaf.__init__" (inClass (top 33) 0) LF f fd fK fG) (XInner : KdN K mg "Inner" "Inner.__init__" (inClass (top 34) 0) CI f' fd' fK' fG')
    (GLeaf : FnOk P w K mg base (CXo P w) 8 f fd ["self", "keys", "goods"] (spMake LF cE fun dk dg => PageGoods dg (lenD dk))) (GInner : FnOk P w K mg base (CXo P w) 8 f' fd' ["self", "keys", "goods"] (spMake CI cE' fun dk dg => PagePlaces dg (lenD dk + 1)))
    (m1 : MtOk P w K mg base CX0 CI "same" ["self", "thing"] 3 (spSame K CI))
    (h1 : OkD P w K mg base "_law_exchanged" s__law_exchanged ["_law_keys_here", "_law_places_here"] 10 (spEx CI)) (h2 : OkD P w K mg base "_law_page_told" s__law_page_told ["_law_thing"] 2 (spPT LF CI)) (h3 : OkD P w K mg base "_law_stands" s__law_stands ["_law_page", "_law_rows"] 2 (spStands CI)) : OkD P w K mg base "_law_same_right" s__law_same_right ["_law_page", "_law_keys_here", "_law_places_here"] 11 (spSR CI) := by
  obtain ⟨f0, fd0, D⟩ := hd
  obtain ⟨f1, fd1, D_law_exchanged, G_law_exchanged⟩ := h1
  obtain ⟨f2, fd2, D_law_page_told, G_law_page_told⟩ := h2
  obtain ⟨f3, fd3, D_law_stands, G_law_stands⟩ := h3
  obtain ⟨fS, fdS, Me_same, B_same, G_same⟩ := m1
  have CL' := ci.cl
  refine ⟨f0, fd0, D, D.fn.ok sc__law_same_right (fun vs H Q E h => ?_) (fun cdv A outer s H vs Q E hr h => ?_)⟩
  · obtain ⟨_, _, _, _, _, _, rfl, _⟩ := h
    rfl
  · obtain ⟨x, dx, lk, lg, ks, ps, rfl, pg, hk, hg, k⟩ := h
    have sc := sc__law_same_right
    have hu := hr.units0
    have up := pg.up
    have few := pg.few
    have len := pg.len
    have ok := pg.ok
    have nd := pg.nd
    have big := big1000
    have CL := CL'
    have e9 : (10 : Int) ^ (9 : Int).toNat = 1000000000 := by decide +kernel
    refine' ⟨_, (pss_cons (ps_set (i := 3) sc.nd rfl (Or.inl rfl) (pe_ix ix_list (pe_comp (blk_mk ["_law_places_here"] [2]) rfl (pi_range1 rfl T.n_range (pa_c (pe_op op_add (pe_callB call_len_seq rfl T.n_len bt_len (pa_c (pv 2) pa_nil)) pe_int) pa_nil)) (fun _ _ _ _ _ => (PTs.one (pt_cmpR (op_notInK (K := K) rfl) (pv 0) (pv 1) (by with_unfolding_all rfl)))) (fun _ _ _ _ _ => (pv 0))) pe_int (fun _ _ => rfl)))
    (pss_cons (ps_set (i := 4) sc.nd rfl (Or.inl rfl) (pe_lst (pa_c (pe_tup (pa_c (pe_make XInner.mak GInner (hr.mono (by decide)) rfl XInner.m XInner.bi .nil passX (pa_c (pe_callTy call_list_of rfl T.n_list bt_list (pa_c (pv 1) pa_nil)) (pa_c (pe_callTy call_list_of rfl T.n_list bt_list (pa_c (pv 2) pa_nil)) pa_nil))) (pa_c pe_bl pa_nil))) (pa_c (pe_tup (pa_c (pe_make XInner.mak GInner (hr.mono (by decide)) rfl XInner.m XInner.bi .nil passX (pa_c (pv 1) (pa_c (pe_op op_cat (pe_slice sl_list (pv 2) po_none (po_some (pe_un un_neg pe_int))) (pe_lst (pa_c (pv 3) pa_nil))) pa_nil))) (pa_c pe_bl pa_nil))) pa_nil))))
    (pss_cons (ps_expr (pe_bm PySem.F.plainAttrs_list PySem.F.slot_list_append PySem.F.type_list_append mt_append (pv 4) (pa_c (pe_tup (pa_c (pe_make XInner.mak GInner (hr.mono (by decide)) rfl XInner.m XInner.bi .nil passX (pa_c (pv 1) (pa_c (pe_op op_cat (pe_lst (pa_c (pv 3) pa_nil)) (pe_slice sl_list (pv 2) (po_some pe_int) po_none)) pa_nil))) (pa_c pe_bl pa_nil))) pa_nil)))
    (pss_cons (ps_expr (pe_bm PySem.F.plainAttrs_list PySem.F.slot_list_append PySem.F.type_list_append mt_append (pv 4) (pa_c (pe_tup (pa_c (pe_make XInner.mak GInner (hr.mono (by decide)) rfl XInner.m XInner.bi .nil passX (pa_c (pv 1) (pa_c (pe_rev (pv 2) (pe_un un_m1 pe_int)) pa_nil))) (pa_c (pe_cmpR op_eq (pe_callB call_len_seq rfl T.n_len bt_len (pa_c (pv 2) pa_nil)) pe_int (nomark _)) pa_nil))) pa_nil)))
    (pss_cons (ps_expr (pe_bm PySem.F.plainAttrs_list PySem.F.slot_list_append PySem.F.type_list_append mt_append (pv 4) (pa_c (pe_tup (pa_c (pe_make XInner.mak GInner (hr.mono (by decide)) rfl XInner.m XInner.bi .nil passX (pa_c (pe_slice sl_list (pv 1) (po_some pe_int) po_none) (pa_c (pe_slice sl_list (pv 2) po_none (po_some (pe_callB (call_max2 rfl) rfl T.n_max bt_max (pa_c pe_int (pa_c (pe_callB call_len_seq rfl T.n_len bt_len (pa_c (pv 1) pa_nil)) pa_nil))))) pa_nil))) (pa_c (pe_cmpR (op_eqL hu) (pv 1) (pe_lst pa_nil) (nomark _)) pa_nil))) pa_nil)))
    (pss_cons (ps_expr (pe_bm PySem.F.plainAttrs_list PySem.F.slot_list_append PySem.F.type_list_append mt_append (pv 4) (pa_c (pe_tup (pa_c (pe_make XLeaf.mak GLeaf (hr.mono (by decide)) rfl XLeaf.m XLeaf.bi .nil passX (pa_c (pv 1) (pa_c (pe_op op_rep (pe_lst (pa_c pe_int pa_nil)) (pe_callB call_len_seq rfl T.n_len bt_len (pa_c (pv 1) pa_nil))) pa_nil))) (pa_c pe_bl pa_nil))) pa_nil)))
    (pss_cons (ps_for PassesOwn.never rfl (pi_range1 rfl T.n_range (pa_c (pe_callB call_len_seq rfl T.n_len bt_len (pa_c (pv 1) pa_nil)) pa_nil)) (pg_name (i := 5) sc.nd rfl (Or.inl rfl))
      (pss_one (ps_if (PW.pt (pw_and (pt_cmpR op_notIn_seq (pe_op op_add (pe_ix ix_list (pv 1) (pv 5) (fun _ _ => rfl)) pe_int) (pv 1) (by with_unfolding_all rfl)) (pw_and1 (pt_cmpR op_lt (pe_ix ix_list (pv 1) (pv 5) (fun _ _ => rfl)) (pe_op op_sub (pe_op op_pow pe_int pe_int) pe_int) (nomark _)))))
      (pss_cons (ps_set (i := 6) sc.nd rfl (Or.inl rfl) (pe_callTy call_list_of rfl T.n_list bt_list (pa_c (pv 1) pa_nil)))
    (pss_cons (ps_asg (pe_op op_add (pe_ix ix_list (pv 1) (pv 5) (fun _ _ => rfl)) pe_int) (pg_sub (pv 6) (pv 5) set_list))
    (pss_one (ps_expr (pe_bm PySem.F.plainAttrs_list PySem.F.slot_list_append PySem.F.type_list_append mt_append (pv 4) (pa_c (pe_tup (pa_c (pe_make XInner.mak GInner (hr.mono (by decide)) rfl XInner.m XInner.bi .nil passX (pa_c (pv 6) (pa_c (pv 2) pa_nil))) (pa_c pe_bl pa_nil))) pa_nil))))))
      pss_nil)))
    (pss_cons (ps_for PassesOwn.never rfl (pi_list (pe_lst (pa_c pe_non (pa_c (pv 1) (pa_c (pe_tup (pa_c (pe_callTy call_tuple_of rfl T.n_tuple bt_tuple (pa_c (pv 1) pa_nil)) (pa_c (pe_callTy call_tuple_of rfl T.n_tuple bt_tuple (pa_c (pv 2) pa_nil)) pa_nil))) (pa_c pe_str (pa_c pe_dnewK (pa_c pe_int (pa_c pe_bl pa_nil))))))))) (pg_name (i := 7) sc.nd rfl (Or.inl rfl))
      (pss_one (ps_expr (pe_bm PySem.F.plainAttrs_list PySem.F.slot_list_append PySem.F.type_list_append mt_append (pv 4) (pa_c (pe_tup (pa_c (pv 7) (pa_c pe_bl pa_nil))) pa_nil)))))
    (pss_cons (ps_for PassesOwn.never rfl (pi_list (pe_op op_cat (pv 4) (pe_call G_law_exchanged (hr.mono (by decide)) rfl D_law_exchanged.m D_law_exchanged.fn.kp D_law_exchanged.b .nil pass0 (pa_c (pv 1) (pa_c (pv 2) pa_nil))))) (pg_tup rfl (pgs_cons (pg_name (i := 7) sc.nd rfl (Or.inl rfl)) (pgs_cons (pg_name (i := 8) sc.nd rfl (Or.inl rfl)) pgs_nil)))
      (pss_cons (ps_set (i := 9) sc.nd rfl (Or.inl rfl) (pe_call G_law_page_told (hr.mono (by decide)) rfl D_law_page_told.m D_law_page_told.fn.kp D_law_page_told.b .nil pass0 (pa_c (pv 7) pa_nil)))
    (pss_cons (ps_set (i := 10) sc.nd rfl (Or.inl rfl) (pe_meth (pv 0) CL Me_same G_same (hr.mono (by decide)) B_same .nil pass0 (pa_c (pv 7) pa_nil)))
    (pss_one (ps_if (PW.pt (pw_or (pt_not (pt_val (pe_callB call_inst rfl T.n_isinstance bt_isinstance (pa_c (pv 10) (pa_c (pe_bltn (v := .ty "bool") rfl T.n_bool bt_bool rfl) pa_nil))))) (pw_or (pt_cmpR op_ne (pv 10) (pv 8) (nomark _)) (pw_or1 (pt_cmpR op_ne (pe_call G_law_page_told (hr.mono (by decide)) rfl D_law_page_told.m D_law_page_told.fn.kp D_law_page_told.b .nil pass0 (pa_c (pv 7) pa_nil)) (pv 9) (nomark _))))))
      (pss_one (ps_ret pe_bl))
      pss_nil)))))
    (pss_one (ps_ret (pe_call G_law_stands (hr.mono (by decide)) rfl D_law_stands.m D_law_stands.fn.kp D_law_stands.b .nil pass0 (pa_c (pv 0) (pa_c (pe_lst (pa_c (pv 1) (pa_c (pv 2) pa_nil))) pa_nil)))))))))))))), ?_⟩
    dsimp only [gName, tNext]
    refine seq2 (fun σ H1 => ∃ f : Int, σ = [some (.ref x), some (.ref lk), some (.ref lg), some (.int f), none, none, none, none, none, none, none] ∧ Same H H1 ∧ f ∉ ps ∧ Plc f) ?s0 ?r0
    case s0 =>
      intro N q
      obtain ⟨f, rest, ef, nf, f0, f1⟩ := fresh_ex ps
      refine tasg1 (top1 (comp_f (J := Itr 0 (ps.length + 1)) (H1 := H) (upTo 0 (ps.length + 1)) (notIn ps) (fun y => y) (fun R r => ⟨_, rfl, lg, _, rfl, .inl (SqL.of hg), _, _, rfl, rfl, _, rfl, by rw [List.length_map]; omega, by rw [List.length_map]; omega, ?rr⟩) it_rng ?hc ?he ?hz ?q))
      case rr => rw [List.length_map]; exact r
      case hz => simp only [L2.upTo, List.length_map, List.length_range]; omega
      case hc =>
        intro y hy H2 R S2 c
        obtain ⟨j, hj, rfl⟩ := List.mem_map.mp hy
        exact ⟨_, rfl, _, rfl, lg, _, rfl, .inl (SqL.of (S2 _ _ hg)), rfl, flat_ints, _, rfl, c H2 (Same.refl _)⟩
      case he =>
        intro y hy hp H2 R S2 c
        exact ⟨_, rfl, c H2 (Same.refl _)⟩
      case q =>
        intro d H2 fd2 S2 e2
        rw [ef] at e2
        exact ⟨d, _, _, _, rfl, rfl, SqL.of e2, atI_nat (j := 0) (by rfl), q _ _ ⟨f, rfl, S2, nf, f0, by omega⟩⟩
    case r0 =>
    rintro _ H1 ⟨f, rfl, S1, nf, pf⟩
    refine seq2 (fun σ H2 => ∃ (L : Addr) (ts : List Addr), σ = [some (.ref x), some (.ref lk), some (.ref lg), some (.int f), some (.ref L), none, none, none, none, none, none] ∧ H L = none ∧ Same H H2 ∧ H2 L = some (.lst (ts.map V.ref)) ∧ ts.length ≤ 2 ∧ ∀ t ∈ ts, SItem LF CI (fun a => a = L) ks ps H2 t) ?s1 ?r1
    case s1 =>
      intro N q
      refine ⟨_, rfl, lk, _, rfl, .inl (SqL.of (S1 _ _ hk)), fun l1 f1 => ?_⟩
      have T1 := Same.upd (o := .lst (ks.map V.int)) f1
      have e1 := upd_same (H := H1) (a := l1) (o := .lst (ks.map V.int))
      replace S1 := S1.trans T1
      generalize upd H1 l1 _ = H2 at *
      refine ⟨_, rfl, lg, _, rfl, .inl (SqL.of (S1 _ _ hg)), fun l2 f2 => ?_⟩
      have T2 := Same.upd (o := .lst (ps.map V.int)) f2
      have e2 := upd_same (H := H2) (a := l2) (o := .lst (ps.map V.int))
      replace S1 := S1.trans T2
      replace e1 := T2 _ _ e1
      generalize upd H2 l2 _ = H3 at *
      intro y dy fy fdy nyd
      refine make_p (tp := false) (tp' := false) (ks := ks) (ps := ps) e1 e2 up few ok nd len fy fdy fun H4 T4 pg4 => ⟨rfl, ?_⟩
      replace S1 := S1.trans T4
      refine ⟨(by show 2 ≤ sizeLine; decide), fun t1 g1 => ?_⟩
      have T5 := Same.upd (o := .tup [.ref y, .bl true]) g1
      have i1 : LItem CI ks ps (upd H4 t1 (.tup [.ref y, .bl true])) t1 := ⟨y, dy, ks, ps, _, upd_same, pg4.keep T5, by rw [decide_eq_true rfl, decide_eq_true rfl]; rfl⟩
      replace S1 := S1.trans T5
      generalize upd H4 t1 _ = H5 at *
      refine ⟨_, rfl, _, rfl, _, rfl, _, rfl, lg, _, rfl, SqL.of (S1 _ _ hg), fun l6 f6 => ?_⟩
      rw [cut_last (by omega)]
      have T6 := Same.upd (o := .lst ((ps.take (ps.length - 1)).map V.int)) f6
      have e6 := upd_same (H := H5) (a := l6) (o := .lst ((ps.take (ps.length - 1)).map V.int))
      replace S1 := S1.trans T6
      replace i1 := i1.keep T6
      generalize upd H5 l6 _ = H6 at *
      refine ⟨_, rfl, (by show 1 ≤ sizeLine; decide), fun l7 f7 => ?_⟩
      have T7 := Same.upd (o := .lst [.int f]) f7
      have e7 := upd_same (H := H6) (a := l7) (o := .lst [.int f])
      replace S1 := S1.trans T7
      replace i1 := i1.keep T7
      replace e6 := T7 _ _ e6
      generalize upd H6 l7 _ = H7 at *
      refine ⟨l6, l7, _, _, rfl, rfl, e6, e7, by rw [List.length_map, List.length_take]; show _ + 1 ≤ _; omega, fun l8 f8 => ?_⟩
      have em : (ps.take (ps.length - 1)).map V.int ++ [V.int f] = (ps.take (ps.length - 1) ++ [f]).map V.int := by rw [List.map_append]; rfl
      rw [em]
      obtain ⟨a1, a2, a3, a4⟩ := last_ok (by omega) nf nd ok pf
      generalize ps.take (ps.length - 1) ++ [f] = os at *
      have T8 := Same.upd (o := .lst (os.map V.int)) f8
      have e8 := upd_same (H := H7) (a := l8) (o := .lst (os.map V.int))
      replace S1 := S1.trans T8
      replace i1 := i1.keep T8
      generalize upd H7 l8 _ = H8 at *
      intro y2 dy2 fy2 fdy2 nyd2
      refine make_p (tp := false) (tp' := false) (ks := ks) (ps := os) (S1 _ _ hk) e8 up few a2 a1 (by omega) fy2 fdy2 fun H9 T9 pg9 => ⟨rfl, ?_⟩
      replace S1 := S1.trans T9
      replace i1 := i1.keep T9
      refine ⟨(by show 2 ≤ sizeLine; decide), fun t2 g2 => ?_⟩
      have T10 := Same.upd (o := .tup [.ref y2, .bl false]) g2
      have i2 : LItem CI ks ps (upd H9 t2 (.tup [.ref y2, .bl false])) t2 := ⟨y2, dy2, ks, os, _, upd_same, pg9.keep T10, by rw [decide_eq_false a4, Bool.and_false]⟩
      replace S1 := S1.trans T10
      replace i1 := i1.keep T10
      generalize upd H9 t2 _ = H10 at *
      refine ⟨(by show 2 ≤ sizeLine; decide), fun L fL => ?_⟩
      have T11 := Same.upd (o := .lst [.ref t1, .ref t2]) fL
      exact q _ _ ⟨L, [t1, t2], rfl, S1.free fL, S1.trans T11, upd_same, (by show 2 ≤ 2; decide), fun t ht => by
        simp only [List.mem_cons, List.not_mem_nil, or_false] at ht
        rcases ht with rfl | rfl
        · exact (i1.keep T11).s
        · exact (i2.keep T11).s⟩
    case r1 =>
    rintro _ H2 ⟨L, ts, rfl, fL, S2, e2, lt2, it2⟩
    clear S1
    have add : ∀ {H6 : Hp} {t : Addr} {ts : List Addr}, Same H H6 → H6 L = some (.lst (ts.map V.ref)) → (∀ t ∈ ts, SItem LF CI (fun a => a = L) ks ps H6 t) → SItem LF CI (fun a => a = L) ks ps H6 t → Same H (upd H6 L (.lst (ts.map V.ref ++ [.ref t]))) ∧ upd H6 L (.lst (ts.map V.ref ++ [.ref t])) L = some (.lst ((ts ++ [t]).map V.ref)) ∧ ∀ t' ∈ ts ++ [t], SItem LF CI (fun a => a = L) ks ps (upd H6 L (.lst (ts.map V.ref ++ [.ref t]))) t' := fun {H6 t ts} S e it i => by
      refine ⟨fun c o z => ?_, ?_, fun t' ht => ?_⟩
      · rw [upd_ne (ne_of_none z fL)]; exact S _ _ z
      · rw [upd_same, List.map_append]; rfl
      · rcases List.mem_append.mp ht with h | h
        · exact (it t' h).updL e
        · rw [List.mem_singleton.mp h]; exact i.updL e
    refine seq2 (fun σ H3 => ∃ ts : List Addr, σ = [some (.ref x), some (.ref lk), some (.ref lg), some (.int f), some (.ref L), none, none, none, none, none, none] ∧ Same H H3 ∧ H3 L = some (.lst (ts.map V.ref)) ∧ ts.length ≤ 3 ∧ ∀ t ∈ ts, SItem LF CI (fun a => a = L) ks ps H3 t) ?s2 ?r2
    case s2 =>
      intro N q
      refine ⟨_, rfl, .inl ⟨rfl, _, SqL.of e2⟩, _, rfl, _, rfl, (by show 1 ≤ sizeLine; decide), fun l3 f3 => ?_⟩
      have T3 := Same.upd (o := .lst [.int f]) f3
      have e3 := upd_same (H := H2) (a := l3) (o := .lst [.int f])
      have S3 := S2.trans T3
      have U := T3
      generalize upd H2 l3 _ = H3 at *
      refine ⟨_, rfl, _, rfl, lg, _, rfl, SqL.of (S3 _ _ hg), fun l4 f4 => ?_⟩
      rw [show (1 : Int) = ((1 : Nat) : Int) from rfl, cut_drop (by rw [List.length_map]; omega), ← List.map_drop]
      have T4 := Same.upd (o := .lst ((ps.drop 1).map V.int)) f4
      have e4 := upd_same (H := H3) (a := l4) (o := .lst ((ps.drop 1).map V.int))
      replace S3 := S3.trans T4
      replace U := U.trans T4
      replace e3 := T4 _ _ e3
      generalize upd H3 l4 _ = H4 at *
      refine ⟨l3, l4, _, _, rfl, rfl, e3, e4, by rw [List.length_map, List.length_drop]; show 1 + _ ≤ _; omega, fun l5 f5 => ?_⟩
      have em : [V.int f] ++ (ps.drop 1).map V.int = (f :: ps.drop 1).map V.int := rfl
      rw [em]
      obtain ⟨a1, a2, a3, a4⟩ := first_ok (by omega) nf nd ok pf
      generalize f :: ps.drop 1 = os at *
      have T5 := Same.upd (o := .lst (os.map V.int)) f5
      have e5 := upd_same (H := H4) (a := l5) (o := .lst (os.map V.int))
      replace S3 := S3.trans T5
      replace U := U.trans T5
      generalize upd H4 l5 _ = H5 at *
      intro y dy fy fdy nyd
      refine make_p (tp := false) (tp' := false) (ks := ks) (ps := os) (S3 _ _ hk) e5 up few a2 a1 (by omega) fy fdy fun H6 T6 pg6 => ⟨rfl, ?_⟩
      replace S3 := S3.trans T6
      replace U := U.trans T6
      refine ⟨(by show 2 ≤ sizeLine; decide), fun t7 f7 => ?_⟩
      have T7 := Same.upd (o := .tup [.ref y, .bl false]) f7
      have i7 : LItem CI ks ps (upd H6 t7 (.tup [.ref y, .bl false])) t7 := ⟨y, dy, ks, os, _, upd_same, pg6.keep T7, by rw [decide_eq_false a4, Bool.and_false]⟩
      replace S3 := S3.trans T7
      replace U := U.trans T7
      generalize upd H6 t7 _ = H7 at *
      have e7 := U _ _ e2
      obtain ⟨r1, r2, r3⟩ := add S3 e7 (fun t ht => (it2 t ht).keep U) i7.s
      exact ⟨L, _, _, rfl, rfl, e7, by rw [List.length_map]; omega, q _ _ ⟨ts ++ [t7], rfl, r1, r2, by rw [List.length_append]; show ts.length + 1 ≤ 3; omega, r3⟩⟩
    case r2 =>
    clear it2 lt2 e2 S2 ts
    rintro _ H3 ⟨ts, rfl, S2, e2, lt2, it2⟩
    clear H2
    refine seq2 (fun σ H4 => ∃ ts : List Addr, σ = [some (.ref x), some (.ref lk), some (.ref lg), some (.int f), some (.ref L), none, none, none, none, none, none] ∧ Same H H4 ∧ H4 L = some (.lst (ts.map V.ref)) ∧ ts.length ≤ 4 ∧ ∀ t ∈ ts, SItem LF CI (fun a => a = L) ks ps H4 t) ?s3 ?r3
    case s3 =>
      intro N q
      refine ⟨_, rfl, .inl ⟨rfl, _, SqL.of e2⟩, _, rfl, _, rfl, lg, _, rfl, SqL.of (S2 _ _ hg), fun l5 f5 => ?_⟩
      rw [← List.map_reverse]
      have U := Same.upd (o := .lst (ps.reverse.map V.int)) f5
      have e5 := upd_same (H := H3) (a := l5) (o := .lst (ps.reverse.map V.int))
      have S3 := S2.trans U
      generalize upd H3 l5 _ = H5 at *
      intro y dy fy fdy nyd
      refine make_p (tp := false) (tp' := false) (ks := ks) (ps := ps.reverse) (S3 _ _ hk) e5 up few (fun p hp => ok p (List.mem_reverse.mp hp)) ((List.reverse_perm ps).nodup_iff.mpr nd) (by rw [List.length_reverse]; exact len) fy fdy fun H6 T6 pg6 => ⟨rfl, ?_⟩
      replace S3 := S3.trans T6
      replace U := U.trans T6
      refine ⟨_, rfl, lg, _, rfl, .inl (SqL.of (S3 _ _ hg)), rfl, ?_⟩
      have eb : decide (V.int (((ps.map V.int).length : Nat) : Int) = V.int 1) = decide (ps.length = 1) := decide_eq_decide.mpr ⟨fun z => by injection z with z; rw [List.length_map] at z; omega, fun z => by rw [List.length_map, z]; rfl⟩
      rw [eb]
      refine ⟨(by show 2 ≤ sizeLine; decide), fun t7 f7 => ?_⟩
      have T7 := Same.upd (o := .tup [.ref y, .bl (decide (ps.length = 1))]) f7
      have i7 : LItem CI ks ps (upd H6 t7 (.tup [.ref y, .bl (decide (ps.length = 1))])) t7 := ⟨y, dy, ks, ps.reverse, _, upd_same, pg6.keep T7, by rw [decide_eq_true (rfl : ks = ks), Bool.true_and, rev_self (by omega) nd]⟩
      replace S3 := S3.trans T7
      replace U := U.trans T7
      generalize upd H6 t7 _ = H7 at *
      have e7 := U _ _ e2
      obtain ⟨r1, r2, r3⟩ := add S3 e7 (fun t ht => (it2 t ht).keep U) i7.s
      exact ⟨L, _, _, rfl, rfl, e7, by rw [List.length_map]; omega, q _ _ ⟨ts ++ [t7], rfl, r1, r2, by rw [List.length_append]; show ts.length + 1 ≤ 4; omega, r3⟩⟩
    case r3 =>
    clear it2 lt2 e2 S2 ts
    rintro _ H4 ⟨ts, rfl, S2, e2, lt2, it2⟩
    clear H3
    refine seq2 (fun σ H4 => ∃ ts : List Addr, σ = [some (.ref x), some (.ref lk), some (.ref lg), some (.int f), some (.ref L), none, none, none, none, none, none] ∧ Same H H4 ∧ H4 L = some (.lst (ts.map V.ref)) ∧ ts.length ≤ 5 ∧ ∀ t ∈ ts, SItem LF CI (fun a => a = L) ks ps H4 t) ?s4 ?r4
    case s4 =>
      intro N q
      refine ⟨_, rfl, .inl ⟨rfl, _, SqL.of e2⟩, _, rfl, _, rfl, lk, _, rfl, SqL.of (S2 _ _ hk), fun l3 f3 => ?_⟩
      have ed : cutV (ks.map V.int) (some 1) none = (ks.drop 1).map V.int := by
        by_cases h : 1 ≤ ks.length
        · rw [show (1 : Int) = ((1 : Nat) : Int) from rfl, cut_drop (by rw [List.length_map]; omega), ← List.map_drop]
        · rw [List.length_eq_zero_iff.mp (by omega : ks.length = 0)]
          rfl
      rw [ed]
      have U := Same.upd (o := .lst ((ks.drop 1).map V.int)) f3
      have e3 := upd_same (H := H4) (a := l3) (o := .lst ((ks.drop 1).map V.int))
      have S3 := S2.trans U
      generalize upd H4 l3 _ = H5 at *
      refine ⟨_, rfl, _, rfl, lk, _, rfl, .inl (SqL.of (S3 _ _ hk)), _, _, rfl, _, rfl, lg, _, rfl, SqL.of (S3 _ _ hg), fun l5 f5 => ?_⟩
      have em : (if (((ks.map V.int).length : Nat) : Int) > 1 then (((ks.map V.int).length : Nat) : Int) else 1) = ((max 1 ks.length : Nat) : Int) := by
        rw [List.length_map]
        split <;> omega
      rw [em, cut_take (by rw [List.length_map]; omega), ← List.map_take]
      have T5 := Same.upd (o := .lst ((ps.take (max 1 ks.length)).map V.int)) f5
      have e5 := upd_same (H := H5) (a := l5) (o := .lst ((ps.take (max 1 ks.length)).map V.int))
      replace S3 := S3.trans T5
      replace U := U.trans T5
      replace e3 := T5 _ _ e3
      generalize upd H5 l5 _ = H6 at *
      obtain ⟨a1, a2⟩ := tail_ok (ks := ks) (ps := ps) len
      intro y dy fy fdy nyd
      refine make_p (tp := false) (tp' := false) (ks := ks.drop 1) (ps := ps.take (max 1 ks.length)) e3 e5 ⟨up.1.sublist (List.drop_sublist _ _), fun z hz => up.2 z (List.mem_of_mem_drop hz)⟩ (by rw [List.length_drop]; omega) (fun p hp => ok p (List.mem_of_mem_take hp)) (nd.sublist (List.take_sublist _ _)) a1.symm fy fdy fun H7 T7 pg7 => ⟨rfl, ?_⟩
      replace S3 := S3.trans T7
      replace U := U.trans T7
      refine ⟨_, rfl, (by show 0 ≤ sizeLine; decide), fun l8 f8 => ?_⟩
      have T8 := Same.upd (o := .lst []) f8
      have e8 := upd_same (H := H7) (a := l8) (o := .lst [])
      replace S3 := S3.trans T8
      replace U := U.trans T8
      have pg8 := pg7.keep T8
      generalize upd H7 l8 _ = H8 at *
      refine ⟨lk, l8, _, _, rfl, rfl, SqL.of (S3 _ _ hk), SqL.of e8, okPs_nil, ?_⟩
      have eb : eqPs (ks.map V.int) [] = decide (ks = []) := eqPs_ints (xs := ks) (ys := [])
      rw [if_neg Bool.false_ne_true, eb]
      refine ⟨(by show 2 ≤ sizeLine; decide), fun t9 f9 => ?_⟩
      have T9 := Same.upd (o := .tup [.ref y, .bl (decide (ks = []))]) f9
      have i9 : LItem CI ks ps (upd H8 t9 (.tup [.ref y, .bl (decide (ks = []))])) t9 := ⟨y, dy, _, _, _, upd_same, pg8.keep T9, a2⟩
      replace S3 := S3.trans T9
      replace U := U.trans T9
      generalize upd H8 t9 _ = H9 at *
      have e9' := U _ _ e2
      obtain ⟨r1, r2, r3⟩ := add S3 e9' (fun t ht => (it2 t ht).keep U) i9.s
      exact ⟨L, _, _, rfl, rfl, e9', by rw [List.length_map]; omega, q _ _ ⟨ts ++ [t9], rfl, r1, r2, by rw [List.length_append]; show ts.length + 1 ≤ 5; omega, r3⟩⟩
    case r4 =>
    clear it2 lt2 e2 S2 ts
    rintro _ H5 ⟨ts, rfl, S2, e2, lt2, it2⟩
    clear H4
    refine seq2 (fun σ H4 => ∃ ts : List Addr, σ = [some (.ref x), some (.ref lk), some (.ref lg), some (.int f), some (.ref L), none, none, none, none, none, none] ∧ Same H H4 ∧ H4 L = some (.lst (ts.map V.ref)) ∧ ts.length ≤ 6 ∧ ∀ t ∈ ts, SItem LF CI (fun a => a = L) ks ps H4 t) ?s5 ?r5
    case s5 =>
      intro N q
      refine ⟨_, rfl, .inl ⟨rfl, _, SqL.of e2⟩, _, rfl, (by show 1 ≤ sizeLine; decide), fun l3 f3 => ?_⟩
      have U := Same.upd (o := .lst [.int 0]) f3
      have e3 := upd_same (H := H5) (a := l3) (o := .lst [.int 0])
      have S3 := S2.trans U
      generalize upd H5 l3 _ = H6 at *
      refine ⟨_, rfl, lk, _, rfl, .inl (SqL.of (S3 _ _ hk)), l3, _, _, rfl, rfl, e3, by rw [List.length_map]; omega, by rw [List.length_map]; omega, by rw [List.length_map]; show 1 * _ ≤ _; omega, fun l4 f4 => ?_⟩
      rw [zeros, List.length_map, show ((ks.length : Nat) : Int).toNat = ks.length by omega]
      have T4 := Same.upd (o := .lst ((List.replicate ks.length (0 : Int)).map V.int)) f4
      have e4 := upd_same (H := H6) (a := l4) (o := .lst ((List.replicate ks.length (0 : Int)).map V.int))
      replace S3 := S3.trans T4
      replace U := U.trans T4
      generalize upd H6 l4 _ = H7 at *
      intro y dy fy fdy nyd
      refine make_ok (tp := false) (tp' := false) (ks := ks) (gs := List.replicate ks.length (0 : Int)) (S3 _ _ hk) e4 up few (fun g hg => by rw [List.eq_of_mem_replicate hg]; decide) (by rw [List.length_replicate]) fy fdy fun H8 T8 pg8 => ⟨rfl, ?_⟩
      replace S3 := S3.trans T8
      replace U := U.trans T8
      refine ⟨(by show 2 ≤ sizeLine; decide), fun t9 f9 => ?_⟩
      have T9 := Same.upd (o := .tup [.ref y, .bl false]) f9
      have i9 : SItem LF CI (fun a => a = L) ks ps (upd H8 t9 (.tup [.ref y, .bl false])) t9 := ⟨.ref y, false, upd_same, .inr (.inl ⟨y, dy, ks, _, rfl, pg8.keep T9, rfl⟩)⟩
      replace S3 := S3.trans T9
      replace U := U.trans T9
      generalize upd H8 t9 _ = H9 at *
      have e9' := U _ _ e2
      obtain ⟨r1, r2, r3⟩ := add S3 e9' (fun t ht => (it2 t ht).keep U) i9
      exact ⟨L, _, _, rfl, rfl, e9', by rw [List.length_map]; omega, q _ _ ⟨ts ++ [t9], rfl, r1, r2, by rw [List.length_append]; show ts.length + 1 ≤ 6; omega, r3⟩⟩
    case r5 =>
    clear it2 lt2 e2 S2 ts
    rintro _ H6 ⟨ts, rfl, S2, e2, lt2, it2⟩
    clear H5
    refine seq2 (fun σ H4 => ∃ (o5 o6 : Option V) (ts : List Addr), σ = [some (.ref x), some (.ref lk), some (.ref lg), some (.int f), some (.ref L), o5, o6, none, none, none, none] ∧ Same H H4 ∧ H4 L = some (.lst (ts.map V.ref)) ∧ ts.length ≤ 12 ∧ ∀ t ∈ ts, SItem LF CI (fun a => a = L) ks ps H4 t) ?s6 ?r6
    case s6 =>
      intro N q
      refine ⟨_, rfl, lk, _, rfl, .inl (SqL.of (S2 _ _ hk)), _, rfl, by rw [List.length_map]; omega, by rw [List.length_map]; omega, for_range (fun i σ H3 => ∃ (o5 o6 : Option V) (ts : List Addr), σ = [some (.ref x), some (.ref lk), some (.ref lg), some (.int f), some (.ref L), o5, o6, none, none, none, none] ∧ Same H H3 ∧ H3 L = some (.lst (ts.map V.ref)) ∧ ts.length ≤ 6 + i ∧ ∀ t ∈ ts, SItem LF CI (fun a => a = L) ks ps H3 t) ⟨none, none, ts, rfl, S2, e2, by omega, it2⟩ ?_ ?_⟩
      case refine_2 =>
        rintro σ H3 ⟨o5, o6, ts, a, b, c, d, e⟩
        refine q _ _ ⟨o5, o6, ts, a, b, c, ?_, e⟩
        rw [List.length_map] at d
        omega
      rintro i σ H17 hi ⟨o5, o6, ts17, rfl, S17, e17, lt17, it17⟩
      rw [List.length_map] at hi
      have hi0 : i < ks.length := by omega
      have c1 : ((0 : Int) + (i : Int)) = ((i : Nat) : Int) := by omega
      have hk17 := S17 _ _ hk
      dsimp only [gName, tNext]
      rw [c1]
      refine ⟨_, rfl, _, rfl, lk, _, _, _, rfl, rfl, SqL.of hk17, at_intG hi0, _, _, rfl, rfl, _, rfl, lk, _, rfl, .inl (SqL.of hk17), rfl, flat_ints, _, rfl, ite2 (fun c2 => ?_) (fun c2 => iteF ?_)⟩
      rotate_left
      · exact ⟨_, _, ts17, rfl, S17, e17, by omega, it17⟩
      have hnot : ks.getD i 0 + 1 ∉ ks := fun hm => by
        have h := inV_int.mpr hm
        have c2' : (!inV (.int (ks.getD i 0 + 1)) (ks.map V.int)) = true := c2
        rw [h] at c2'
        cases c2'
      refine ⟨_, rfl, _, rfl, lk, _, _, _, rfl, rfl, SqL.of hk17, at_intG hi0, _, _, rfl, rfl, cp (by decide) (by decide), _, _, rfl, rfl, _, _, rfl, rfl, _, rfl, ite2 (fun c3 => ?_) (fun c3 => ?_)⟩
      rotate_left
      · exact ⟨_, _, ts17, rfl, S17, e17, by omega, it17⟩
      have hlt : ks.getD i 0 < (10 : Int) ^ (9 : Int).toNat - 1 := of_decide_eq_true c3
      rw [e9] at hlt
      refine ⟨_, rfl, lk, _, rfl, .inl (SqL.of hk17), fun lm fm => ?_⟩
      have e18 := upd_same (H := H17) (a := lm) (o := .lst (ks.map V.int))
      have S18 := Same.upd (o := .lst (ks.map V.int)) fm
      refine ⟨_, rfl, _, rfl, lk, _, _, _, rfl, rfl, SqL.of (S18 _ _ hk17), at_intG hi0, _, _, rfl, rfl, _, rfl, _, rfl, lm, _, _, _, rfl, rfl, e18, ixN_nat (by rw [List.length_map]; exact hi0), ?_⟩
      rw [← List.map_set]
      have S19 : Same H17 (upd (upd H17 lm (.lst (ks.map V.int))) lm (.lst ((ks.set i (ks.getD i 0 + 1)).map V.int))) := fun c o z => by rw [upd_ne (ne_of_none z fm), upd_ne (ne_of_none z fm)]; exact z
      have e19 := upd_same (H := upd H17 lm (.lst (ks.map V.int))) (a := lm) (o := .lst ((ks.set i (ks.getD i 0 + 1)).map V.int))
      generalize upd (upd H17 lm (.lst (ks.map V.int))) lm (.lst ((ks.set i (ks.getD i 0 + 1)).map V.int)) = H19 at *
      refine ⟨_, rfl, .inl ⟨rfl, _, SqL.of (S19 _ _ e17)⟩, _, rfl, _, rfl, ?_⟩
      intro y2 dy2 fy2 fdy2 nd2
      refine make_p (tp := false) (tp' := false) (ks := ks.set i (ks.getD i 0 + 1)) (ps := ps) e19 (S19 _ _ (S17 _ _ hg)) (set_up up hi0 hnot (by omega)) (by rw [List.length_set]; exact few) ok nd (by rw [List.length_set]; exact len) fy2 fdy2 fun H20 S20 pg20 => ⟨rfl, ?_⟩
      refine ⟨(by show 2 ≤ sizeLine; decide), fun t21 f21 => ?_⟩
      have S21 := Same.upd (o := .tup [.ref y2, .bl false]) f21
      have i21 : LItem CI ks ps (upd H20 t21 (.tup [.ref y2, .bl false])) t21 := ⟨y2, dy2, _, _, _, upd_same, pg20.keep S21, by rw [decide_eq_false (set_ne hi0)]; rfl⟩
      have T21 := (S19.trans S20).trans S21
      have e21 := T21 _ _ e17
      have it21 : ∀ t ∈ ts17, SItem LF CI (fun a => a = L) ks ps (upd H20 t21 (.tup [.ref y2, .bl false])) t := fun t ht => (it17 t ht).keep T21
      have S021 := S17.trans T21
      generalize upd H20 t21 _ = H21 at *
      obtain ⟨S22, e22, it22⟩ := add S021 e21 it21 i21.s
      exact ⟨L, _, _, rfl, rfl, e21, (by rw [List.length_map]; omega), _, _, ts17 ++ [t21], rfl, S22, e22, by rw [List.length_append]; show ts17.length + 1 ≤ _; omega, it22⟩
    case r6 =>
    clear it2 lt2 e2 S2 ts
    rintro _ H7 ⟨o5, o6, ts, rfl, S2, e2, lt2, it2⟩
    clear H6
    refine seq2 (fun σ H4 => ∃ (o7 : Option V) (ts : List Addr), σ = [some (.ref x), some (.ref lk), some (.ref lg), some (.int f), some (.ref L), o5, o6, o7, none, none, none] ∧ Same H H4 ∧ H4 L = some (.lst (ts.map V.ref)) ∧ ts.length ≤ 19 ∧ ∀ t ∈ ts, SItem LF CI (fun a => a = L) ks ps H4 t) ?s7 ?r7
    case s7 =>
      intro N q
      have nkL : lk ≠ L := ne_of_none hk fL
      refine ⟨_, rfl, _, rfl, lk, _, rfl, .inl ⟨SqL.of (S2 _ _ hk), fun q1 f1 => ?_⟩⟩
      have U := Same.upd (o := .tup (ks.map V.int)) f1
      have e1 := upd_same (H := H7) (a := q1) (o := .tup (ks.map V.int))
      have n1 : q1 ≠ L := (ne_of_none e2 f1).symm
      generalize upd H7 q1 _ = H8 at *
      refine ⟨_, rfl, lg, _, rfl, .inl ⟨SqL.of (U _ _ (S2 _ _ hg)), fun q3 f3 => ?_⟩⟩
      have T3 := Same.upd (o := .tup (ps.map V.int)) f3
      have e3 := upd_same (H := H8) (a := q3) (o := .tup (ps.map V.int))
      have n3 : q3 ≠ L := (ne_of_none (U _ _ e2) f3).symm
      replace U := U.trans T3
      replace e1 := T3 _ _ e1
      generalize upd H8 q3 _ = H9 at *
      refine ⟨(by show 2 ≤ sizeLine; decide), fun q4 f4 => ?_⟩
      have T4 := Same.upd (o := .tup [.ref q1, .ref q3]) f4
      have e4 := upd_same (H := H9) (a := q4) (o := .tup [.ref q1, .ref q3])
      have n4 : q4 ≠ L := (ne_of_none (U _ _ e2) f4).symm
      replace U := U.trans T4
      replace e1 := T4 _ _ e1
      replace e3 := T4 _ _ e3
      generalize upd H9 q4 _ = H10 at *
      refine fun dd fdd => ?_
      have T5 := Same.upd (o := .dK []) fdd
      have e5 := upd_same (H := H10) (a := dd) (o := .dK [])
      have n5 : dd ≠ L := (ne_of_none (U _ _ e2) fdd).symm
      replace U := U.trans T5
      replace e1 := T5 _ _ e1
      replace e3 := T5 _ _ e3
      replace e4 := T5 _ _ e4
      generalize upd H10 dd _ = H11 at *
      refine ⟨(by show 7 ≤ sizeLine; decide), fun lt flt => ?_⟩
      have T6 := Same.upd (o := .lst [.non, .ref lk, .ref q4, .str "", .ref dd, .int 7, .bl true]) flt
      have e6 := upd_same (H := H11) (a := lt) (o := .lst [.non, .ref lk, .ref q4, .str "", .ref dd, .int 7, .bl true])
      have n6 : lt ≠ L := (ne_of_none (U _ _ e2) flt).symm
      replace U := U.trans T6
      replace e1 := T6 _ _ e1
      replace e3 := T6 _ _ e3
      replace e4 := T6 _ _ e4
      replace e5 := T6 _ _ e5
      generalize upd H11 lt _ = H12 at *
      have all : ∀ v ∈ [V.non, .ref lk, .ref q4, .str "", .ref dd, .int 7, .bl true], ∃ d, DV (fun a => a = L) H12 v d ∧ Okd 100000 d := fun v hv => by
        simp only [List.mem_cons, List.not_mem_nil, or_false] at hv
        rcases hv with rfl | rfl | rfl | rfl | rfl | rfl | rfl
        · exact ⟨_, .non, okd_c rfl rfl (by decide) (by decide)⟩
        · exact ⟨_, .lst nkL (U _ _ (S2 _ _ hk)) (dvs_ints ks), Okd.row (up_small up) (by omega)⟩
        · exact ⟨_, .tup n4 e4 (.cons (.tup n1 e1 (dvs_ints ks)) (.cons (.tup n3 e3 (dvs_ints ps)) .nil)), okd_rowsT (up_small up) (plc_small ok) (by omega) (by omega)⟩
        · exact ⟨_, .str _, okd_c (by decide +kernel) (by decide +kernel) (by decide +kernel) (by decide +kernel)⟩
        · exact ⟨_, .dct n5 e5 .nil, okd_c (by decide +kernel) (by decide +kernel) (by decide +kernel) (by decide +kernel)⟩
        · exact ⟨_, .int 7, okd_c (by decide +kernel) (by decide +kernel) (by decide +kernel) (by decide +kernel)⟩
        · exact ⟨_, .bl true, okd_c (by decide +kernel) (by decide +kernel) (by decide +kernel) (by decide +kernel)⟩
      have S12 := S2.trans U
      have eL := U _ _ e2
      have it12 : ∀ t ∈ ts, SItem LF CI (fun a => a = L) ks ps H12 t := fun t ht => (it2 t ht).keep U
      generalize hx : [V.non, .ref lk, .ref q4, .str "", .ref dd, .int 7, .bl true] = xs at *
      have lx : xs.length = 7 := by rw [← hx]; rfl
      clear U e1 e3 e4 e5 T3 T4 T5 T6 it2 e2 S2
      refine ⟨lt, rfl, ⟨_, SqL.of e6⟩, for_list (fun i σ H3 => ∃ (o7 : Option V) (ts : List Addr), σ = [some (.ref x), some (.ref lk), some (.ref lg), some (.int f), some (.ref L), o5, o6, o7, none, none, none] ∧ Same H H3 ∧ KB L H12 H3 ∧ H3 L = some (.lst (ts.map V.ref)) ∧ ts.length ≤ 12 + i ∧ ∀ t ∈ ts, SItem LF CI (fun a => a = L) ks ps H3 t) ⟨none, ts, rfl, S12, KB.refl, eL, by omega, it12⟩ (fun i σ H3 _ ⟨_, _, _, _, kb, _⟩ => SqL.of (kb _ _ e6 n6)) ?_ ?_⟩
      · rintro i v σ H3 hi ⟨o7, ts, rfl, S3, kb, eL3, lt3, it3⟩
        obtain ⟨d, dv, okd⟩ := all v (List.mem_of_getElem? hi)
        refine ⟨_, rfl, .inl ⟨rfl, _, SqL.of eL3⟩, _, rfl, (by show 2 ≤ sizeLine; decide), fun t4 f4 => ?_⟩
        have T4 := Same.upd (o := .tup [v, .bl false]) f4
        have i4 : SItem LF CI (fun a => a = L) ks ps (upd H3 t4 (.tup [v, .bl false])) t4 := ⟨v, false, upd_same, .inr (.inr ⟨d, dv_kb (dv_kb dv kb) T4.kb, okd, rfl⟩)⟩
        have hil : i < xs.length := (List.getElem?_eq_some_iff.mp hi).1
        generalize upd H3 t4 _ = H4 at *
        have eL4 := T4 _ _ eL3
        obtain ⟨r1, r2, r3⟩ := add (S3.trans T4) eL4 (fun t ht => (it3 t ht).keep T4) i4
        exact ⟨L, _, _, rfl, rfl, eL4, (by rw [List.length_map]; omega), _, ts ++ [t4], rfl, r1, fun b o z n => by rw [upd_ne n]; exact T4 _ _ (kb b o z n), r2, by rw [List.length_append]; show ts.length + 1 ≤ _; omega, r3⟩
      · rintro σ H3 ⟨o7, ts, rfl, S3, kb, eL3, lt3, it3⟩
        exact q _ _ ⟨o7, ts, rfl, S3, eL3, by omega, it3⟩
    case r7 =>
    clear it2 lt2 e2 S2 ts
    rintro _ H3 ⟨o7, ts, rfl, S3, e3, lt3, it3⟩
    clear H7
    refine ⟨_, rfl, _, rfl, _, rfl, lk, lg, ks, ps, rfl, S3 _ _ hk, S3 _ _ hg, up, few, len, ok, nd, fun lE H4 ts4 fE S4 e4 lt4 it4 => ?_⟩
    have S04 := S3.trans S4
    refine ⟨L, lE, _, _, rfl, rfl, S4 _ _ e3, e4, by rw [List.length_map, List.length_map]; omega, fun l5 f5 => ?_⟩
    rw [← List.map_append]
    have S5 := Same.upd (o := .lst ((ts ++ ts4).map V.ref)) f5
    have e5 := upd_same (H := H4) (a := l5) (o := .lst ((ts ++ ts4).map V.ref))
    have S05 := S04.trans S5
    have it5 : ∀ t ∈ ts ++ ts4, SItem LF CI (fun a => a = L) ks ps (upd H4 l5 (.lst ((ts ++ ts4).map V.ref))) t := fun t ht => by
      rcases List.mem_append.mp ht with h | h
      · exact (it3 t h).keep (S4.trans S5)
      · exact ((it4 t h).s).keep S5
    generalize upd H4 l5 _ = H5 at *
    refine ⟨l5, rfl, ⟨_, SqL.of e5⟩, for_list (fun i σ H6 => ∃ o7 o8 o9 o10, σ = [some (.ref x), some (.ref lk), some (.ref lg), some (.int f), some (.ref L), o5, o6, o7, o8, o9, o10] ∧ Same H5 H6) ⟨_, _, _, _, rfl, fun _ _ z => z⟩ (fun i σ H6 _ ⟨_, _, _, _, _, S⟩ => SqL.of (S _ _ e5)) ?_ ?_⟩
    · rintro i v σ H6 hi ⟨o7, o8, o9, o10, rfl, S6⟩
      rw [List.getElem?_map] at hi
      obtain ⟨t, ht, rfl⟩ := Option.map_eq_some_iff.mp hi
      obtain ⟨v, b, et, ⟨txt, tl⟩, u, kb, an, ko, w1, w2⟩ := ((it5 t (List.mem_of_getElem? ht)).keep S6).use kn cl ci
      have pg6 := pg.keep (S05.trans S6)
      obtain ⟨tk, tg, hx, _, _⟩ := pg6.pg
      refine ⟨t, _, rfl, SqT.of et, rfl, _, _, rfl, _, _, rfl, rfl, ?_⟩
      refine ⟨_, rfl, v, txt, rfl, tl, fun H7 S7 => ?_⟩
      have hx7 := S7 _ _ hx
      have fin : ∀ {D : V → Hp → Prop}, (D (.bl b) H7) → spSame K CI [.ref x, v] H7 D E0 := fun {D} h => by
        refine ⟨x, dx, v, u, ks, ps, kb, rfl, pg6.keep S7, any_keep an S7, ko, fun z => ?_, fun z => ?_⟩
        · obtain ⟨y, dy, e, ks', gs', p, hb⟩ := w1 z
          exact ⟨y, dy, e, ks', gs', p.keepS S7, by rw [← hb]; exact h⟩
        · rw [w2 z] at h; exact h
      refine ⟨_, rfl, x, dx, _, rfl, hx7, rfl, _, rfl, ?_⟩
      dsimp only [tNil, List.append_nil]
      refine fin ?_
      refine ⟨_, rfl, .bl b, _, _, _, rfl, (DV.bl (N := fun _ => False) (H := H7) b).thg, .inl ⟨_, rfl, inst_bool (DV.bl (N := fun _ => False) (H := H7) b).thg⟩, _, rfl, iteF ?_⟩
      refine ⟨_, rfl, _, rfl, rfl, _, rfl, iteE (c := false) (by rw [decide_eq_true rfl]; rfl) (iteF ?_)⟩
      refine ⟨_, rfl, v, txt, rfl, tl.keep S7, fun H8 S8 => ⟨_, rfl, rfl, _, rfl, iteE (c := false) (by rw [decide_eq_true rfl]; rfl) (iteF ⟨_, _, _, _, rfl, (S6.trans S7).trans S8⟩)⟩⟩
    · rintro σ H6 ⟨o7, o8, o9, o10, rfl, S6⟩
      have S06 := S05.trans S6
      refine ⟨_, rfl, _, rfl, _, rfl, (by show 2 ≤ sizeLine; decide), fun r fr => ?_⟩
      have T := Same.upd (o := .lst [.ref lk, .ref lg]) fr
      exact ⟨x, dx, r, lk, lg, ks, ps, rfl, pg.keep (S06.trans T), ⟨upd_same, T _ _ (S06 _ _ hk), T _ _ (S06 _ _ hg)⟩, fun H' _ => k H'⟩
end
end K14
set_option Elab.async false
set_option linter.all false
set_option maxRecDepth 100000
set_option maxHeartbeats 1000000
namespace K14
open PySem L2
theorem sq_same {K : PySem.W.Frag} {H H' : Hp} {a : Addr} {xs : List V} (h : SqL K H a xs) (s : Same H H') : SqL K H' a xs := by
  rcases h with (h | ⟨o, h⟩) | h
  · exact .inl (.inl (s _ _ h))
  · exact .inl (.inr ⟨o, s _ _ h⟩)
  · exact .inr h
theorem kb_same {H H1 H2 : Hp} {p : Addr} (f : H p = none) (s : Same H H1) (k : KB p H1 H2) : Same H H2 := fun b o h => k b o (s b o h) (ne_of_none h f)
theorem atI_back {xs : List V} {z : Int} (h0 : 0 ≤ z) (h1 : z < xs.length) : ∃ v, v ∈ xs ∧ atI xs (-1 - z) = some v := by
  have hj : (xs.length - 1 - z.toNat) < xs.length := by omega
  refine ⟨xs[xs.length - 1 - z.toNat], List.getElem_mem hj, ?_⟩
  unfold atI ixN
  rw [if_neg (by omega), if_pos (by omega), Option.bind_some, show ((-1 - z + (xs.length : Int)).toNat) = xs.length - 1 - z.toNat by omega]
  exact List.getElem?_eq_getElem hj
def Kept (C : Addr) (H : Hp) (t : Addr) : Prop := ∃ (x dx r lk lp : Addr) (ks ps : List Int), H t = some (.tup [.ref x, .ref r]) ∧ PgP C dx H x ks ps ∧ Rows H r lk lp ks ps
theorem Kept.same {C : Addr} {H H' : Hp} {t : Addr} (x : Kept C H t) (s : Same H H') : Kept C H' t := by
  obtain ⟨x, dx, r, lk, lp, ks, ps, h1, pg, rw0⟩ := x
  exact ⟨x, dx, r, lk, lp, ks, ps, s _ _ h1, pg.keep s, rw0.keep s⟩
theorem Kept.tup {C : Addr} {H : Hp} {t : Addr} (x : Kept C H t) : ∃ xs, H t = some (.tup xs) := by
  obtain ⟨x, dx, r, lk, lp, ks, ps, h1, _⟩ := x
  exact ⟨_, h1⟩
theorem Kept.updL {C l : Addr} {H : Hp} {ts : List Addr} {ys : List V} {t : Addr} (x : Kept C H t) (h : H l = some (.lst (ts.map V.ref))) (ne : ts ≠ []) (al : ∀ t ∈ ts, ∃ xs, H t = some (.tup xs)) : Kept C (upd H l (.lst ys)) t := by
  obtain ⟨x, dx, r, lk, lp, ks, ps, h1, pg, rw0⟩ := x
  have ni : ∀ {q : Addr} {ns : List Int}, H q = some (.lst (ns.map V.int)) → q ≠ l := fun {q ns} hq e => by
    subst e
    rw [hq] at h
    injection h with h
    injection h with h
    cases ts with
    | nil => exact ne rfl
    | cons b bs =>
      cases ns with
      | nil => cases h
      | cons c cs => injection h with h _; cases h
  have nr : r ≠ l := fun e => by
    subst e
    rw [rw0.r] at h
    injection h with h
    injection h with h
    cases ts with
    | nil => exact ne rfl
    | cons b bs =>
      injection h with h _
      cases h
      obtain ⟨xs, q⟩ := al lk (List.mem_cons_self ..)
      rw [rw0.k] at q
      cases q
  exact ⟨x, dx, r, lk, lp, ks, ps, by rw [upd_ne (ne_of h1 h (by intro z; cases z))]; exact h1, pg.updL h, ⟨by rw [upd_ne nr]; exact rw0.r, by rw [upd_ne (ni rw0.k)]; exact rw0.k, by rw [upd_ne (ni rw0.p)]; exact rw0.p⟩⟩
def spLaw (K : PySem.W.Frag) : Sp := fun vs H Q _ => ∃ (a : Addr) (ns : List Int), vs = [.ref a] ∧ SqL K H a (ns.map V.int) ∧ ns.length ≤ 63 ∧ ∀ H', Q (.bl true) H'
section
variable {P : Program} {w : World} {K : PySem.W.Frag} {mg : Str → Option Value} {base : Heap}
abbrev s_law : Stmt := top 56
theorem sc_law : FnScope ["_law_script", "_law_box_here", "_law_many", "_law_keys_here", "_law_places_here", "_law_one", "_law_other", "_law_page", "_law_kept", "_law_k", "_law_at", "_law_rows", "_law_step_here"] ["_law_script"] (defScope s_law) := ⟨rfl, rfl, rfl, by decide +kernel, rfl, by decide +kernel, by decide +kernel⟩
theorem ok_law {C f fK fG cE : Addr} {fd : FuncData} (hd : ∃ f fd, Dn K mg "law" "law" s_law ["_law_script"] f fd) (T : Txt K mg) (XInner : KdN K mg "Inner" "Inner.__init__" (inClass (top 34) 0) C f fd fK fG)
    (GInner : FnOk P w K mg base (CXo P w) 8 f fd ["self", "keys", "goods"] (spMake C cE fun dk dg => PagePlaces dg (lenD dk + 1)))
    (k1 : MtOk P w K mg base CX0 C "all_keys" ["self"] 1 (spRow C true)) (g1 : MtOk P w K mg base CX0 C "goods" ["self"] 1 (spRow C false))
    (h1 : OkD P w K mg base "_law_cell" s__law_cell ["_law_script", "_law_k"] 1 (spCell K)) (h2 : OkD P w K mg base "_law_box" s__law_box ["_law_cell_here"] 1 spBox)
    (h3 : OkD P w K mg base "_law_take" s__law_take ["_law_box_here", "_law_many"] 1 spTake) (h4 : OkD P w K mg base "_law_keys" s__law_keys ["_law_box_here", "_law_many"] 3 spKeysU) (h5 : OkD P w K mg base "_law_places" s__law_places ["_law_box_here", "_law_many"] 3 spPlU)
    (h6 : OkD P w K mg base "_law_led_right" s__law_led_right ["_law_page", "_law_rows"] 10 (spStands C)) (h7 : OkD P w K mg base "_law_step" s__law_step ["_law_box_here", "_law_page", "_law_rows"] 14 (spStep C)) (h8 : OkD P w K mg base "_law_stands" s__law_stands ["_law_page", "_law_rows"] 2 (spStands C)) (h9 : OkD P w K mg base "_law_same_right" s__law_same_right ["_law_page", "_law_keys_here", "_law_places_here"] 11 (spSR C)) :
    OkD P w K mg base "law" s_law ["_law_script"] 16 (spLaw K) := by
  obtain ⟨f, fd, D⟩ := hd
  obtain ⟨fK, fdK, Me_all_keys, B_all_keys, G_all_keys⟩ := k1
  obtain ⟨fG, fdG, Me_goods, B_goods, G_goods⟩ := g1
  obtain ⟨f1, fd1, D_law_cell, G_law_cell⟩ := h1
  obtain ⟨f2, fd2, D_law_box, G_law_box⟩ := h2
  obtain ⟨f3, fd3, D_law_take, G_law_take⟩ := h3
  obtain ⟨f4, fd4, D_law_keys, G_law_keys⟩ := h4
  obtain ⟨f5, fd5, D_law_places, G_law_places⟩ := h5
  obtain ⟨f6, fd6, D_law_led_right, G_law_led_right⟩ := h6
  obtain ⟨f7, fd7, D_law_step, G_law_step⟩ := h7
  obtain ⟨f8, fd8, D_law_stands, G_law_stands⟩ := h8
  obtain ⟨f9, fd9, D_law_same_right, G_law_same_right⟩ := h9
  have CL := XInner.ins.cl
  refine ⟨f, fd, D, D.fn.ok sc_law (fun vs H Q E h => ?_) (fun cdv A outer s H vs Q E hr h => ?_)⟩
  · obtain ⟨_, _, rfl, _⟩ := h
    rfl
  · obtain ⟨a, ns, rfl, hS, hz, k⟩ := h
    have sc := sc_law
    have big := big1000
    refine' ⟨_, (pss_cons (ps_set (i := 1) sc.nd rfl (Or.inl rfl) (pe_call G_law_box (hr.mono (by decide)) rfl D_law_box.m D_law_box.fn.kp D_law_box.b .nil pass0 (pa_c (pe_call G_law_cell (hr.mono (by decide)) rfl D_law_cell.m D_law_cell.fn.kp D_law_cell.b .nil pass0 (pa_c (pv 0) (pa_c pe_int pa_nil))) pa_nil)))
    (pss_cons (ps_set (i := 2) sc.nd rfl (Or.inl rfl) (pe_ifExp (pt_cmpR op_eq (pe_call G_law_take (hr.mono (by decide)) rfl D_law_take.m D_law_take.fn.kp D_law_take.b .nil pass0 (pa_c (pv 1) (pa_c pe_int pa_nil))) pe_int (nomark _)) pe_int (pe_call G_law_take (hr.mono (by decide)) rfl D_law_take.m D_law_take.fn.kp D_law_take.b .nil pass0 (pa_c (pv 1) (pa_c pe_int pa_nil)))))
    (pss_cons (ps_set (i := 3) sc.nd rfl (Or.inl rfl) (pe_call G_law_keys (hr.mono (by decide)) rfl D_law_keys.m D_law_keys.fn.kp D_law_keys.b .nil pass0 (pa_c (pv 1) (pa_c (pv 2) pa_nil))))
    (pss_cons (ps_set (i := 4) sc.nd rfl (Or.inl rfl) (pe_call G_law_places (hr.mono (by decide)) rfl D_law_places.m D_law_places.fn.kp D_law_places.b .nil pass0 (pa_c (pv 1) (pa_c (pe_op op_add (pv 2) pe_int) pa_nil))))
    (pss_cons (ps_par (i := 5) (j := 6) rfl sc.nd rfl rfl (by decide) rfl rfl (pa_c (pe_callTy call_list_of rfl T.n_list bt_list (pa_c (pv 3) pa_nil)) (pa_c (pe_callTy call_list_of rfl T.n_list bt_list (pa_c (pv 4) pa_nil)) pa_nil)) rfl)
    (pss_cons (ps_set (i := 7) sc.nd rfl (Or.inl rfl) (pe_make XInner.mak GInner (hr.mono (by decide)) rfl XInner.m XInner.bi .nil passX (pa_c (pv 5) (pa_c (pv 6) pa_nil))))
    (pss_cons (ps_expr (pe_bm PySem.F.plainAttrs_list PySem.F.slot_list_append PySem.F.type_list_append mt_append (pv 5) (pa_c pe_int pa_nil)))
    (pss_cons (ps_expr (pe_bm0 PySem.F.plainAttrs_list PySem.F.slot_list_clear PySem.F.type_list_clear mt_clear (pv 6)))
    (pss_cons (ps_set (i := 8) sc.nd rfl (Or.inl rfl) (pe_lst (pa_c (pe_tup (pa_c (pv 7) (pa_c (pe_lst (pa_c (pv 3) (pa_c (pv 4) pa_nil))) pa_nil))) pa_nil)))
    (pss_cons (ps_if (pt_not (pt_val (pe_call G_law_led_right (hr.mono (by decide)) rfl D_law_led_right.m D_law_led_right.fn.kp D_law_led_right.b .nil pass0 (pa_c (pv 7) (pa_c (pe_lst (pa_c (pv 3) (pa_c (pv 4) pa_nil))) pa_nil)))))
      (pss_one (ps_ret pe_bl))
      pss_nil)
    (pss_cons (ps_for PassesOwn.never rfl (pi_range2 rfl T.n_range (pa_c pe_int (pa_c (pe_callB (call_max2 rfl) rfl T.n_max bt_max (pa_c pe_int (pa_c (pe_callB (call_min2 rfl) rfl T.n_min bt_min (pa_c pe_int (pa_c (pe_callB call_len_seq rfl T.n_len bt_len (pa_c (pv 0) pa_nil)) pa_nil))) pa_nil))) pa_nil))) (pg_name (i := 9) sc.nd rfl (Or.inl rfl))
      (pss_cons (ps_set (i := 1) sc.nd rfl (Or.inl rfl) (pe_call G_law_box (hr.mono (by decide)) rfl D_law_box.m D_law_box.fn.kp D_law_box.b .nil pass0 (pa_c (pe_call G_law_cell (hr.mono (by decide)) rfl D_law_cell.m D_law_cell.fn.kp D_law_cell.b .nil pass0 (pa_c (pv 0) (pa_c (pv 9) pa_nil))) pa_nil)))
    (pss_cons (ps_set (i := 10) sc.nd rfl (Or.inl rfl) (pe_ix ix_list (pe_lst (pa_c pe_int (pa_c pe_int (pa_c pe_int (pa_c pe_int (pa_c pe_int (pa_c pe_int pa_nil))))))) (pe_call G_law_take (hr.mono (by decide)) rfl D_law_take.m D_law_take.fn.kp D_law_take.b .nil pass0 (pa_c (pv 1) (pa_c pe_int pa_nil))) (fun _ _ => rfl)))
    (pss_cons (ps_asg (pe_ix ix_list (pv 8) (pe_op op_sub (pe_un un_neg pe_int) (pe_op op_mod (pv 10) (pe_callB call_len_seq rfl T.n_len bt_len (pa_c (pv 8) pa_nil)))) (fun _ _ => rfl)) (pg_tup rfl (pgs_cons (pg_name (i := 7) sc.nd rfl (Or.inl rfl)) (pgs_cons (pg_name (i := 11) sc.nd rfl (Or.inl rfl)) pgs_nil))))
    (pss_cons (ps_set (i := 12) sc.nd rfl (Or.inl rfl) (pe_call G_law_step (hr.mono (by decide)) rfl D_law_step.m D_law_step.fn.kp D_law_step.b .nil pass0 (pa_c (pv 1) (pa_c (pv 7) (pa_c (pv 11) pa_nil)))))
    (pss_cons (ps_if (pt_cmpR op_isN (pv 12) pe_non (nomark _))
      (pss_one (ps_ret pe_bl))
      pss_nil)
    (pss_one (ps_expr (pe_bm PySem.F.plainAttrs_list PySem.F.slot_list_append PySem.F.type_list_append mt_append (pv 8) (pa_c (pv 12) pa_nil))))))))))
    (pss_cons (ps_for PassesOwn.never rfl (pi_list (pv 8)) (pg_tup rfl (pgs_cons (pg_name (i := 7) sc.nd rfl (Or.inl rfl)) (pgs_cons (pg_name (i := 11) sc.nd rfl (Or.inl rfl)) pgs_nil)))
      (pss_cons (ps_if (pt_not (pt_val (pe_call G_law_stands (hr.mono (by decide)) rfl D_law_stands.m D_law_stands.fn.kp D_law_stands.b .nil pass0 (pa_c (pv 7) (pa_c (pv 11) pa_nil)))))
      (pss_one (ps_ret pe_bl))
      pss_nil)
    (pss_cons (ps_expr (pe_bm0 PySem.F.plainAttrs_list PySem.F.slot_list_clear PySem.F.type_list_clear mt_clear (pe_meth0 (pv 7) CL Me_goods G_goods (hr.mono (by decide)) B_goods .nil pass0)))
    (pss_cons (ps_expr (pe_bm PySem.F.plainAttrs_list PySem.F.slot_list_append PySem.F.type_list_append mt_append (pe_meth0 (pv 7) CL Me_all_keys G_all_keys (hr.mono (by decide)) B_all_keys .nil pass0) (pa_c pe_int pa_nil)))
    (pss_one (ps_if (PW.pt (pw_or (pt_not (pt_val (pe_call G_law_led_right (hr.mono (by decide)) rfl D_law_led_right.m D_law_led_right.fn.kp D_law_led_right.b .nil pass0 (pa_c (pv 7) (pa_c (pv 11) pa_nil))))) (pw_or1 (pt_not (pt_val (pe_call G_law_stands (hr.mono (by decide)) rfl D_law_stands.m D_law_stands.fn.kp D_law_stands.b .nil pass0 (pa_c (pv 7) (pa_c (pv 11) pa_nil))))))))
      (pss_one (ps_ret pe_bl))
      pss_nil))))))
    (pss_cons (ps_asg (pe_ix ix_list (pv 8) (pe_un un_neg pe_int) (fun _ _ => rfl)) (pg_tup rfl (pgs_cons (pg_name (i := 7) sc.nd rfl (Or.inl rfl)) (pgs_cons (pg_name (i := 11) sc.nd rfl (Or.inl rfl)) pgs_nil))))
    (pss_one (ps_ret (pe_call G_law_same_right (hr.mono (by decide)) rfl D_law_same_right.m D_law_same_right.fn.kp D_law_same_right.b .nil pass0 (pa_c (pv 7) (pa_c (pe_ix ix_list (pv 11) pe_int (fun _ _ => rfl)) (pa_c (pe_ix ix_list (pv 11) pe_int (fun _ _ => rfl)) pa_nil))))))))))))))))))), ?_⟩
    refine ⟨_, rfl, a, 0, ns, rfl, hS, fun c' => ⟨c', rfl, fun p H1 fp Bp S1 => ?_⟩⟩
    dsimp only [gName, tNext]
    refine tseq1 (tasg1 (both2 (fun v H2 => ∃ m : Int, v = .int m ∧ 0 ≤ m ∧ m ≤ 6 ∧ Box H2 p 2 ∧ KB p H1 H2) ?mk ?q))
    case mk =>
      intro Q' z
      refine ⟨_, rfl, p, 5, 0, rfl, Bp, by decide, by decide, by decide, fun r H2 a0 a1 B2 k2 => ⟨rfl, _, rfl, ite2 (fun _ => ?_) (fun _ => ?_)⟩⟩
      · exact z _ _ ⟨6, rfl, by decide, by decide, B2.mono (by omega), k2⟩
      · exact ⟨_, rfl, p, 7, 1, rfl, B2, by decide, by decide, by decide, fun m H3 b0 b1 B3 k3 => z _ _ ⟨m, rfl, b0, by omega, B3, k2.trans k3⟩⟩
    case q =>
    rintro _ H2 ⟨m, rfl, m0, m1, B2, k2⟩
    refine ⟨_, rfl, _, rfl, p, m, 2, rfl, B2, by decide, m0, m1, fun lk H3 ks fk nk ek lnk up B3 k3 => ?_⟩
    refine ⟨_, rfl, _, rfl, _, _, rfl, rfl, p, m + 1, _, rfl, B3, by decide, by omega, by omega, fun lp H4 ps fp' np ep lnp okp ndp B4 k4 => ?_⟩
    have ek4 := k4 _ _ ek nk
    have S4 : Same H H4 := kb_same fp S1 ((k2.trans k3).trans k4)
    have few : ks.length ≤ 6 := by omega
    have len : ps.length = ks.length + 1 := by omega
    clear Bp B2 B3 B4 k2 k3 k4 ek S1
    refine ⟨_, rfl, lk, _, rfl, .inl (SqL.of ek4), fun t1 g1 => ?_⟩
    have T1 := Same.upd (o := .lst (ks.map V.int)) g1
    have et1 := upd_same (H := H4) (a := t1) (o := .lst (ks.map V.int))
    have S5 := S4.trans T1
    have z1 := S4.free g1
    have n1k : lk ≠ t1 := ne_of_none ek4 g1
    have n1p : lp ≠ t1 := ne_of_none ep g1
    replace ek4 := T1 _ _ ek4
    replace ep := T1 _ _ ep
    generalize upd H4 t1 (.lst (ks.map V.int)) = H5 at *
    refine ⟨_, rfl, lp, _, rfl, .inl (SqL.of ep), fun t2 g2 => ?_⟩
    have T2 := Same.upd (o := .lst (ps.map V.int)) g2
    have et2 := upd_same (H := H5) (a := t2) (o := .lst (ps.map V.int))
    have S6 := S5.trans T2
    have z2 := S5.free g2
    have n2k : lk ≠ t2 := ne_of_none ek4 g2
    have n2p : lp ≠ t2 := ne_of_none ep g2
    have n21 : t1 ≠ t2 := ne_of_none et1 g2
    replace ek4 := T2 _ _ ek4
    replace ep := T2 _ _ ep
    replace et1 := T2 _ _ et1
    generalize upd H5 t2 (.lst (ps.map V.int)) = H6 at *
    refine ⟨_, _, rfl, ?_⟩
    refine ⟨_, rfl, _, rfl, ?_⟩
    intro x dx fx fdx nxd
    refine make_p (tp := false) (tp' := false) (ks := ks) (ps := ps) et1 et2 up few okp ndp len fx fdx fun H8 S8 pg => ⟨rfl, ?_⟩
    have et18 := S8 _ _ et1
    have et28 := S8 _ _ et2
    refine ⟨_, rfl, .inl ⟨rfl, _, SqL.of et18⟩, t1, _, _, rfl, rfl, et18, (by rw [List.length_map]; omega), ?_⟩
    have et29 : upd H8 t1 (.lst (ks.map V.int ++ [.int 0])) t2 = some (.lst (ps.map V.int)) := by rw [upd_ne (Ne.symm n21)]; exact et28
    have pg9 := pg.updL (ys := ks.map V.int ++ [.int 0]) et18
    refine ⟨_, rfl, .inl ⟨rfl, _, SqL.of et29⟩, t2, _, rfl, rfl, et29, ?_⟩
    have pg10 := pg9.updL (ys := []) et29
    have ek10 : upd (upd H8 t1 (.lst (ks.map V.int ++ [.int 0]))) t2 (.lst []) lk = some (.lst (ks.map V.int)) := by rw [upd_ne n2k, upd_ne n1k]; exact S8 _ _ ek4
    have ep10 : upd (upd H8 t1 (.lst (ks.map V.int ++ [.int 0]))) t2 (.lst []) lp = some (.lst (ps.map V.int)) := by rw [upd_ne n2p, upd_ne n1p]; exact S8 _ _ ep
    have S10 : Same H (upd (upd H8 t1 (.lst (ks.map V.int ++ [.int 0]))) t2 (.lst [])) := fun b o z => by
      rw [upd_ne (ne_of_none z z2), upd_ne (ne_of_none z z1)]
      exact S8 _ _ (S6 b o z)
    generalize upd (upd H8 t1 (.lst (ks.map V.int ++ [.int 0]))) t2 (.lst []) = H10 at *
    clear pg9 pg et18 et28 et29 S8 S6 S5 S4 ek4 ep et1 et2 T1 T2
    refine ⟨_, rfl, _, rfl, _, rfl, (by show 2 ≤ sizeLine; decide), fun r fr => ?_⟩
    have T11 := Same.upd (o := .lst [.ref lk, .ref lp]) fr
    have er := upd_same (H := H10) (a := r) (o := .lst [.ref lk, .ref lp])
    have S11 := S10.trans T11
    have rw11 : Rows (upd H10 r (.lst [.ref lk, .ref lp])) r lk lp ks ps := ⟨er, T11 _ _ ek10, T11 _ _ ep10⟩
    have pg11 := pg10.keep T11
    generalize upd H10 r _ = H11 at *
    refine ⟨(by show 2 ≤ sizeLine; decide), fun t ft => ?_⟩
    have T12 := Same.upd (o := .tup [.ref x, .ref r]) ft
    have kp : Kept C (upd H11 t (.tup [.ref x, .ref r])) t := ⟨x, dx, r, lk, lp, ks, ps, upd_same, pg11.keep T12, rw11.keep T12⟩
    have S12 := S11.trans T12
    have pg12 := pg11.keep T12
    have rw12 := rw11.keep T12
    generalize upd H11 t _ = H12 at *
    refine ⟨(by show 1 ≤ sizeLine; decide), fun kl fkl => ?_⟩
    have flH := S12.free fkl
    have T13 := Same.upd (o := .lst [.ref t]) fkl
    have ekl := upd_same (H := H12) (a := kl) (o := .lst [.ref t])
    have S13 := S12.trans T13
    have pg13 := pg12.keep T13
    have rw13 := rw12.keep T13
    replace kp := kp.same T13
    generalize upd H12 kl _ = H13 at *
    refine ⟨_, rfl, _, rfl, _, rfl, (by show 2 ≤ sizeLine; decide), fun r2 fr2 => ?_⟩
    have T14 := Same.upd (o := .lst [.ref lk, .ref lp]) fr2
    have er2 := upd_same (H := H13) (a := r2) (o := .lst [.ref lk, .ref lp])
    generalize upd H13 r2 _ = H14 at *
    refine ⟨x, dx, r2, lk, lp, ks, ps, rfl, pg13.keep T14, ⟨er2, T14 _ _ rw13.k, T14 _ _ rw13.p⟩, fun H15 T15 => ⟨_, rfl, iteF ?_⟩⟩
    have T := T14.trans T15
    have S15 := S13.trans T
    have ekl15 := T _ _ ekl
    replace kp := kp.same T
    clear pg10 pg11 pg12 pg13 rw11 rw12 rw13 S10 S11 S12 S13 T11 T12 T13 T14 T15 T er er2 ek10 ep10 ekl
    refine ⟨_, rfl, a, _, rfl, .inl (sq_same hS S15), _, _, rfl, _, _, rfl, 1, _, rfl, ⟨by decide, by decide, by rw [List.length_map]; split <;> split <;> omega, by rw [List.length_map]; split <;> split <;> omega⟩,
      for_range (fun i σ H6 => ∃ (ts : List Addr) (o1 o2 o3 o4 o5 o6 o7 o9 o10 o11 o12 : Option V), σ = [some (.ref a), o1, o2, o3, o4, o5, o6, o7, some (.ref kl), o9, o10, o11, o12] ∧ H6 kl = some (.lst (ts.map V.ref)) ∧ ts.length = i + 1 ∧ (∀ t ∈ ts, Kept C H6 t) ∧ Same H H6) ⟨[t], _, _, _, _, _, _, _, _, _, _, _, rfl, ekl15, rfl, fun t ht => by rw [List.mem_singleton.mp ht]; exact kp, S15⟩ ?_ ?_⟩
    · rintro i σ H6 hi ⟨ts, o1, o2, o3, o4, o5, o6, o7, o9, o10, o11, o12, rfl, el, lts, kp, S6⟩
      have hi40 : i < 63 := by
        rw [List.length_map] at hi
        revert hi
        split <;> split <;> (intro hi; omega)
      refine ⟨_, rfl, _, rfl, a, i + 1, ns, (by show [V.ref a, V.int (1 + (i : Int))] = _; rw [show (1 : Int) + (i : Int) = ((i + 1 : Nat) : Int) by omega]), sq_same hS S6, fun c' => ⟨c', rfl, fun p H7 fp Bp S7 => ?_⟩⟩
      refine ⟨(by show 6 ≤ sizeLine; decide), fun l8 f8 => ?_⟩
      have S8 := Same.upd (o := .lst [.int 0, .int 0, .int 1, .int 2, .int 3, .int 4]) f8
      have e8 := upd_same (H := H7) (a := l8) (o := .lst [.int 0, .int 0, .int 1, .int 2, .int 3, .int 4])
      have n8 : l8 ≠ p := Bp.ne (H1 := H7) f8
      refine ⟨_, rfl, p, 6, 0, rfl, Bp.same S8, by decide, by decide, by decide, fun r H9 r0 r1 B9 k9 => ?_⟩
      obtain ⟨z, hz', ez⟩ := atI_ints (ns := [0, 0, 1, 2, 3, 4]) (r := r) r0 (by show r < 6; exact r1)
      refine ⟨_, _, _, _, rfl, rfl, SqL.of (k9 _ _ e8 n8), ez, ?_⟩
      have S69 : Same H6 H9 := kb_same fp (S7.trans S8) k9
      have z0 : 0 ≤ z := by
        simp only [List.mem_cons, List.not_mem_nil, or_false] at hz'
        omega
      have lp : (0 : Int) < ((ts.map V.ref).length : Nat) := by rw [List.length_map]; omega
      have el9 := S69 _ _ el
      refine ⟨_, rfl, _, rfl, _, rfl, _, rfl, kl, _, rfl, .inl (SqL.of el9), _, _, rfl, rfl, lp, _, _, rfl, rfl, ?_⟩
      obtain ⟨v, hv, ev⟩ := atI_back (xs := ts.map V.ref) (Int.emod_nonneg z (Int.ne_of_gt lp)) (Int.emod_lt_of_pos z lp)
      obtain ⟨t5, ht5, rfl⟩ := List.mem_map.mp hv
      obtain ⟨x', dx', r', lk', lp', ks', ps', et5, pg5, rw5⟩ := kp t5 ht5
      refine ⟨kl, _, _, _, rfl, rfl, SqL.of el9, ev, ?_⟩
      refine ⟨t5, _, rfl, SqT.of (S69 _ _ et5), rfl, _, _, rfl, _, _, rfl, rfl, ?_⟩
      refine ⟨_, rfl, _, rfl, _, rfl, p, x', dx', r', lk', lp', 1, ks', ps', rfl, B9, by decide, pg5.keep S69, rw5.keep S69, ne_of_none rw5.r fp, ne_of_none rw5.k fp, ne_of_none rw5.p fp, fun t6 x6 dx6 r6 lk6 lp6 ks6 ps6 H10 et6 pg6 rw6 k10 => ?_⟩
      have S610 : Same H6 H10 := kb_same fp S69 k10
      have el10 := S610 _ _ el
      have kp10 : ∀ t ∈ ts, Kept C H10 t := fun t ht => (kp t ht).same S610
      refine ⟨_, rfl, rfl, _, rfl, iteE (c := false) (by rfl) (iteF ?_)⟩
      have nts : ts ≠ [] := fun e => by rw [e] at lts; cases lts
      refine ⟨_, rfl, .inl ⟨rfl, _, SqL.of el10⟩, _, rfl, kl, _, _, rfl, rfl, el10, (by rw [List.length_map]; omega), ts ++ [t6], _, _, _, _, _, _, _, _, _, _, _, rfl, by rw [upd_same, List.map_append]; rfl, by rw [List.length_append, lts]; rfl, fun t ht => ?_, fun b o h => ?_⟩
      · rcases List.mem_append.mp ht with q | q
        · exact (kp10 t q).updL el10 nts fun t ht => (kp10 t ht).tup
        · rw [List.mem_singleton.mp q]
          exact Kept.updL ⟨x6, dx6, r6, lk6, lp6, ks6, ps6, et6, pg6, rw6⟩ el10 nts fun t ht => (kp10 t ht).tup
      · rw [upd_ne (ne_of_none h flH)]
        exact S610 _ _ (S6 _ _ h)
    · rintro σ H6 ⟨ts, o1, o2, o3, o4, o5, o6, o7, o9, o10, o11, o12, rfl, el, lts, kp, S6⟩
      refine ⟨_, rfl, kl, rfl, ⟨_, SqL.of el⟩, for_list (xs := ts.map V.ref) (fun i σ H7 => (∃ o1 o2 o3 o4 o5 o6 o7 o9 o10 o11 o12, σ = [some (.ref a), o1, o2, o3, o4, o5, o6, o7, some (.ref kl), o9, o10, o11, o12]) ∧ Same H6 H7) ⟨⟨_, _, _, _, _, _, _, _, _, _, _, rfl⟩, Same.refl _⟩ (fun i σ H7 _ ⟨_, S⟩ => SqL.of (S _ _ el)) ?_ ?_⟩
      · rintro i v σ H7 hi ⟨⟨o1, o2, o3, o4, o5, o6, o7, o9, o10, o11, o12, rfl⟩, S7⟩
        obtain ⟨t5, ht5, rfl⟩ := List.mem_map.mp (List.mem_of_getElem? hi)
        obtain ⟨x', dx', r', lk', lp', ks', ps', et5, pg5, rw5⟩ := (kp t5 ht5).same S7
        refine ⟨t5, _, rfl, SqT.of et5, rfl, _, _, rfl, _, _, rfl, rfl, ?_⟩
        refine ⟨_, rfl, _, rfl, x', dx', r', lk', lp', ks', ps', rfl, pg5, rw5, fun H8 S8 => ⟨_, rfl, iteF ?_⟩⟩
        obtain ⟨tk, tg, hx, hkk, hgg⟩ := (pg5.keep S8).pg
        refine ⟨_, rfl, x', dx', _, rfl, hx, rfl, x', dx', _, _, rfl, ⟨tk, tg, hx, hkk, hgg⟩, fun l9 f9 => ?_⟩
        have e9 := upd_same (H := H8) (a := l9) (o := .lst (if false = true then ks'.map V.int else ps'.map V.int))
        refine ⟨.inl ⟨rfl, _, SqL.of e9⟩, l9, _, rfl, rfl, e9, ?_⟩
        have S9 : Same H8 (upd (upd H8 l9 (.lst (if false = true then ks'.map V.int else ps'.map V.int))) l9 (.lst [])) := fun b o z => by rw [upd_ne (ne_of_none z f9), upd_ne (ne_of_none z f9)]; exact z
        generalize upd (upd H8 l9 _) l9 (.lst []) = H9 at *
        obtain ⟨tk9, tg9, hx9, hk9, hg9⟩ := (pg5.keep (S8.trans S9)).pg
        refine ⟨_, rfl, x', dx', _, rfl, hx9, rfl, x', dx', _, _, rfl, ⟨tk9, tg9, hx9, hk9, hg9⟩, fun l10 f10 => ?_⟩
        have e10 := upd_same (H := H9) (a := l10) (o := .lst (if true = true then ks'.map V.int else ps'.map V.int))
        refine ⟨.inl ⟨rfl, _, SqL.of e10⟩, l10, _, _, rfl, rfl, e10, (by rw [if_pos rfl, List.length_map]; have := pg5.few; omega), ?_⟩
        have S10 : Same H9 (upd (upd H9 l10 (.lst (if true = true then ks'.map V.int else ps'.map V.int))) l10 (.lst ((if true = true then ks'.map V.int else ps'.map V.int) ++ [.int 0]))) := fun b o z => by rw [upd_ne (ne_of_none z f10), upd_ne (ne_of_none z f10)]; exact z
        generalize upd (upd H9 l10 _) l10 _ = H10 at *
        have U := (S8.trans S9).trans S10
        refine ⟨_, rfl, _, rfl, x', dx', r', lk', lp', ks', ps', rfl, pg5.keep U, rw5.keep U, fun H11 S11 => ⟨_, rfl, iteF ?_⟩⟩
        have U2 := U.trans S11
        refine ⟨_, rfl, _, rfl, x', dx', r', lk', lp', ks', ps', rfl, pg5.keep U2, rw5.keep U2, fun H12 S12 => ⟨_, rfl, iteF ?_⟩⟩
        exact ⟨⟨_, _, _, _, _, _, _, _, _, _, _, rfl⟩, S7.trans (U2.trans S12)⟩
      · rintro σ H7 ⟨⟨o1, o2, o3, o4, o5, o6, o7, o9, o10, o11, o12, rfl⟩, S7⟩
        have el7 := S7 _ _ el
        obtain ⟨v, hv, ev⟩ := atI_back (xs := ts.map V.ref) (z := 0) (by decide) (by rw [List.length_map]; omega)
        obtain ⟨t5, ht5, rfl⟩ := List.mem_map.mp hv
        obtain ⟨x', dx', r', lk', lp', ks', ps', et5, pg5, rw5⟩ := (kp t5 ht5).same S7
        refine ⟨_, rfl, _, rfl, kl, _, _, _, rfl, rfl, SqL.of el7, ev, ?_⟩
        refine ⟨t5, _, rfl, SqT.of et5, rfl, _, _, rfl, _, _, rfl, rfl, ?_⟩
        refine ⟨_, rfl, _, rfl, r', _, _, _, rfl, rfl, SqL.of rw5.r, rfl, _, rfl, r', _, _, _, rfl, rfl, SqL.of rw5.r, rfl, x', dx', lk', lp', ks', ps', rfl, pg5, rw5.k, rw5.p, k⟩
end
end K14
set_option Elab.async false
set_option linter.all false
set_option maxRecDepth 100000
set_option maxHeartbeats 1000000
namespace K14
open PySem L2
structure CF (K : PySem.W.Frag) (mg : Str → Option Value) (T C : Addr) (x q : Str) (st : Stmt) (ps : List Str) : Prop where
  lk : ∃ (qn : Str) (N : Addr) (bs : List Value) (sn : List Str) (sub : List Value) (ab : Bool) (col : Option Bool) (dd : Option Addr) (k0 k1 k2 k3 k5 : Option Value), K.lookup C = some (excClassObj x qn C N bs (.ref T :: bmV) true sn sub ab col dd k0 k1 k2 k3 k5 "ValueError.__new__")
  ini : ∃ fI fd, PySem.W.findIn K (.ref C) "__init__" = some (some (.ref fI)) ∧ PySem.W.isFn K (.ref fI) = true ∧ Fun K "__init__" q st fI fd ∧ Binds K fd ("self" :: ps) []
  kp : PySem.W.keepIn K (.ref C) = true
  sa : PySem.W.findIn K (.ref C) "__setattr__" = some (some (.builtin "object.__setattr__"))
  ga : PySem.W.findIn K (.ref C) "__getattribute__" = some (some (.builtin "BaseException.__getattribute__"))
  no : PySem.W.findIn K (.ref C) "__getattr__" = some none
  ca : PySem.W.findIn K (.ref C) "__class__" = some (some (.builtin "object.__class__"))
  mC : mg x = some (.ref C)
  na : ∀ f ∈ ps, NoAttr K C f
structure TF (K : PySem.W.Frag) (mg : Str → Option Value) (T : Addr) : Prop where
  lk : ∃ (qn : Str) (N : Addr) (bs : List Value) (sn : List Str) (sub : List Value) (ab : Bool) (col : Option Bool) (dd : Option Addr) (k0 k1 k2 k3 k5 : Option Value), K.lookup T = some (excClassObj "TreeError" qn T N bs bmV true sn sub ab col dd k0 k1 k2 k3 k5 "ValueError.__new__") ∧
    ∃ (d0 : Value) (d1 : Option Addr) (es : Array DictEntry) (n : Nat) (sl' : Array (Option Value)), K.lookup N = some ⟨d0, d1, .dict es n, sl'⟩ ∧ strK es = true ∧ nsFind es "__init__" = none
  b : BaseInit K T
  init : PySem.W.findIn K (.ref T) "__init__" = some (some (.builtin "ValueError.__init__"))
  kp : PySem.W.keepIn K (.ref T) = true
  ga : PySem.W.findIn K (.ref T) "__getattribute__" = some (some (.builtin "BaseException.__getattribute__"))
  no : PySem.W.findIn K (.ref T) "__getattr__" = some none
  ca : PySem.W.findIn K (.ref T) "__class__" = some (some (.builtin "object.__class__"))
  cn : PySem.W.specialIn K (.builtin "object.__class__") "__get__" = some (some (.builtin "getset_descriptor.__get__"))
  ct : PySem.W.takesIn K (.builtin "object.__class__") = some true
  mT : mg "TreeError" = some (.ref T)
section
variable {K : PySem.W.Frag} {mg : Str → Option Value} {T C : Addr} {x q : Str} {st : Stmt} {ps : List Str}
theorem cls_in {nm qn : Str} {N : Addr} {bs bm : List Value} {sn : List Str} {sub : List Value} {ab : Bool} {col : Option Bool} {dd : Option Addr} {k0 k1 k2 k3 k5 : Option Value} {id : String} (h : K.lookup C = some (excClassObj nm qn C N bs bm true sn sub ab col dd k0 k1 k2 k3 k5 id)) :
    ∃ cd, PySem.W.clsIn K C = some cd ∧ cd.name = nm ∧ cd.hasDict = true ∧ cd.mro = .ref C :: bm ∧ PySem.W.typeIn K (.ref C) = some (.type "type") := by
  refine ⟨_, by unfold PySem.W.clsIn; rw [h], rfl, rfl, rfl, ?_⟩
  show (K.lookup C).map (·.cls) = _
  rw [h]
  rfl
theorem CF.cd (c : CF K mg T C x q st ps) : ∃ cd, PySem.W.clsIn K C = some cd ∧ cd.name = x ∧ cd.hasDict = true ∧ cd.mro = .ref C :: .ref T :: bmV ∧ PySem.W.typeIn K (.ref C) = some (.type "type") := by
  obtain ⟨_, _, _, _, _, _, _, _, _, _, _, _, _, h⟩ := c.lk
  exact cls_in h
theorem TF.cd (t : TF K mg T) : ∃ cd, PySem.W.clsIn K T = some cd ∧ cd.name = "TreeError" ∧ cd.hasDict = true ∧ cd.mro = .ref T :: bmV ∧ PySem.W.typeIn K (.ref T) = some (.type "type") := by
  obtain ⟨_, _, _, _, _, _, _, _, _, _, _, _, _, h, _⟩ := t.lk
  exact cls_in h
theorem mro_cd {cd : ClassData} {l : List Value} {b : Value} (h : PySem.W.clsIn K C = some cd) (m : cd.mro = .ref C :: l) : PySem.W.mroIn K C b = some ((Value.ref C :: l).contains b) := by
  unfold PySem.W.mroIn
  rw [h, Option.bind_some, m]
  rfl
theorem hd_cd {cd : ClassData} (h : PySem.W.clsIn K C = some cd) (d : cd.hasDict = true) : PySem.W.hasDictIn K C = true := by
  unfold PySem.W.hasDictIn
  rw [h]
  exact d
theorem CF.g (c : CF K mg T C x q st ps) (t : TF K mg T) : ExG K C := by
  obtain ⟨cd, h, _, d, m, _⟩ := c.cd
  exact ⟨c.ga, c.no, (mro_cd h m).trans rfl, hd_cd h d, c.ca, t.cn, t.ct, (mro_cd h m).trans rfl, (mro_cd h m).trans rfl, (mro_cd h m).trans rfl, (mro_cd h m).trans rfl, (mro_cd h m).trans rfl⟩
theorem CF.er {C : Addr} {nm q fld : Str} {st : Stmt} (c : CF K mg T C nm q st [fld]) (t : TF K mg T) : ∃ fI fd, ErN K mg nm q st fld C T fI fd := by
  obtain ⟨cd, h, _, d, m, ty⟩ := c.cd
  obtain ⟨fI, fd, i1, i2, i3, i4⟩ := c.ini
  obtain ⟨qn, N, bs, sn, sub, ab, col, dd, k0, k1, k2, k3, k5, l⟩ := c.lk
  obtain ⟨_, TN, _, _, _, _, _, _, _, _, _, _, _, tl, d0, d1, es, n, sl', l2, s1, s2⟩ := t.lk
  exact ⟨fI, fd, { f := ⟨⟨⟨_, _, _, _, _, _, _, _, _, _, _, _, _, _, _, l⟩, ⟨_, _, _, _, tl, d0, d1, es, n, sl', l2, s1, s2⟩, i1, i2, c.kp⟩, hd_cd h d, c.sa⟩, g := c.g t, b := t.b, r := ⟨(mro_cd h m).trans rfl, ty⟩, fn := i3, bi := i4, mC := c.mC, mT := t.mT, no := c.na _ (List.mem_singleton.mpr rfl), xC := ⟨(mro_cd h m).trans rfl, ty, by rw [h]; rfl⟩, self := (mro_cd h m).trans (by rw [List.contains_cons]; simp) }⟩
theorem TF.xm (t : TF K mg T) : ExM K T := by
  obtain ⟨cdT, hT, _, dT, mT, tyT⟩ := t.cd
  exact ⟨(mro_cd hT mT).trans rfl, tyT, by rw [hT]; rfl⟩
theorem CF.apart {C D : Addr} {x y q q' : Str} {st st' : Stmt} {ps ps' : List Str} (c : CF K mg T C x q st ps) (d : CF K mg T D y q' st' ps') (t : TF K mg T) (n1 : x ≠ y) (n2 : y ≠ "TreeError") : PySem.W.mroIn K C (.ref D) = some false := by
  obtain ⟨cd, h, nm, _, m, _⟩ := c.cd
  obtain ⟨cd', h', nm', _, m', _⟩ := d.cd
  obtain ⟨cdT, hT, nmT, _, _, _⟩ := t.cd
  have e1 : D ≠ C := by
    rintro rfl
    rw [h] at h'
    cases h'
    exact n1 (nm.symm.trans nm')
  have e2 : D ≠ T := by
    rintro rfl
    rw [h'] at hT
    cases hT
    exact n2 (nm'.symm.trans nmT)
  rw [mro_cd h m]
  congr 1
  rw [List.contains_cons, List.contains_cons, show (Value.ref D == Value.ref C) = false from beq_eq_false_iff_ne.mpr (fun z => e1 (Value.ref.inj z)), show (Value.ref D == Value.ref T) = false from beq_eq_false_iff_ne.mpr (fun z => e2 (Value.ref.inj z))]
  rfl
theorem cls_mk {h : Heap} (X : K.In h) (G : h.Ns mainGlobals mg) {fI N : Addr} {qn : Str} {bs : List Value} {sn : List Str} {sub : List Value} {ab : Bool} {col : Option Bool} {dd : Option Addr} {k0 k1 k2 k3 k5 : Option Value} {od an : Option Addr} {osl : Array (Option Value)} {kV doc pm cdv ct : Value}
    (aC : PySem.W.nsIn K mainGlobals x = some (some (.ref C))) (aT : PySem.W.nsIn K mainGlobals "TreeError" = some (some (.ref T))) (lC : K.lookup C = some (excClassObj x qn C N bs (.ref T :: bmV) true sn sub ab col dd k0 k1 k2 k3 k5 "ValueError.__new__"))
    (i1 : PySem.W.findIn K (.ref C) "__init__" = some (some (.ref fI))) (i3 : PySem.W.keepIn K (.ref C) = true) (i5 : PySem.W.findIn K (.ref C) "__setattr__" = some (some (.builtin "object.__setattr__")))
    (g1 : PySem.W.findIn K (.ref C) "__getattribute__" = some (some (.builtin "BaseException.__getattribute__"))) (g2 : PySem.W.findIn K (.ref C) "__getattr__" = some none) (g4 : PySem.W.findIn K (.ref C) "__class__" = some (some (.builtin "object.__class__")))
    (l1 : K.lookup fI = some ⟨.type "function", od, .func (PySem.W.fnOf "__init__" q (defArgs st) (defBody st) (defScope st) .none kV doc pm an cdv ct), osl⟩) (c1 : PySem.W.codeIn K cdv q = true) (na : ∀ f ∈ ps, NoAttr K C f)
    (hb : ∀ (kV doc pm : Value) (an : Option Addr) (cdv ct : Value) (us : List Value), us.length = (("self" : Str) :: ps).length → bindArgs (PySem.W.fnOf "__init__" q (defArgs st) (defBody st) (defScope st) .none kV doc pm an cdv ct) ⟨us, []⟩ = pure ((("self" : Str) :: ps).zip us)) :
    ∃ C T, mg "TreeError" = some (.ref T) ∧ CF K mg T C x q st ps := by
  have kf : PySem.W.keepIn K (.ref fI) = true := by unfold PySem.W.keepIn; dsimp only; rw [l1]
  have ff : PySem.W.isFn K (.ref fI) = true := by
    unfold PySem.W.isFn
    rw [show PySem.W.typeIn K (.ref fI) = (K.lookup fI).map (·.cls) from rfl, l1]
    rfl
  exact ⟨C, T, PySem.W.mg_of X G aT, ⟨⟨qn, N, bs, sn, sub, ab, col, dd, k0, k1, k2, k3, k5, lC⟩, ⟨fI, _, i1, ff, fun_mk (st := st) l1 c1 kf, (fun_mk (st := st) l1 c1 kf).binds hb⟩, i3, i5, g1, g2, g4, PySem.W.mg_of X G aC, na⟩⟩
theorem na1 {f : Str} (h : PySem.W.findIn K (.ref C) f = some none) : ∀ g ∈ [f], NoAttr K C g := fun g hg => by rw [List.mem_singleton.mp hg]; exact h
theorem tf_mk {h : Heap} (X : K.In h) (G : h.Ns mainGlobals mg) {N : Addr} {qn : Str} {bs : List Value} {sn : List Str} {sub : List Value} {ab : Bool} {col : Option Bool} {dd : Option Addr} {k0 k1 k2 k3 k5 : Option Value} {d0 : Value} {d1 : Option Addr} {es : Array DictEntry} {n : Nat} {sl' : Array (Option Value)}
    (aT : PySem.W.nsIn K mainGlobals "TreeError" = some (some (.ref T))) (lT : K.lookup T = some (excClassObj "TreeError" qn T N bs bmV true sn sub ab col dd k0 k1 k2 k3 k5 "ValueError.__new__")) (lN : K.lookup N = some ⟨d0, d1, .dict es n, sl'⟩) (s1 : strK es = true) (s2 : nsFind es "__init__" = none)
    (b1 : PySem.W.specialIn K (.ref T) "__getattribute__" = some (some (.builtin "type.__getattribute__"))) (b2 : PySem.W.readsIn K T (.type "type") = true) (b3 : PySem.W.findCls K (.ref T) (.type "type") "__init__" = some (.val (.builtin "ValueError.__init__")))
    (i1 : PySem.W.findIn K (.ref T) "__init__" = some (some (.builtin "ValueError.__init__"))) (i3 : PySem.W.keepIn K (.ref T) = true)
    (g1 : PySem.W.findIn K (.ref T) "__getattribute__" = some (some (.builtin "BaseException.__getattribute__"))) (g2 : PySem.W.findIn K (.ref T) "__getattr__" = some none) (g4 : PySem.W.findIn K (.ref T) "__class__" = some (some (.builtin "object.__class__")))
    (g5 : PySem.W.specialIn K (.builtin "object.__class__") "__get__" = some (some (.builtin "getset_descriptor.__get__"))) (g6 : PySem.W.takesIn K (.builtin "object.__class__") = some true) : ∃ T, TF K mg T :=
  ⟨T, ⟨⟨qn, N, bs, sn, sub, ab, col, dd, k0, k1, k2, k3, k5, lT, d0, d1, es, n, sl', lN, s1, s2⟩, ⟨b1, b2, b3⟩, i1, i3, g1, g2, g4, g5, g6, PySem.W.mg_of X G aT⟩⟩
theorem fn_facts {fI : Addr} {od : Option Addr} {d : FuncData} {osl : Array (Option Value)} (l1 : K.lookup fI = some ⟨.type "function", od, .func d, osl⟩) : PySem.W.keepIn K (.ref fI) = true ∧ PySem.W.isFn K (.ref fI) = true := by
  refine ⟨by unfold PySem.W.keepIn; dsimp only; rw [l1], ?_⟩
  unfold PySem.W.isFn
  rw [show PySem.W.typeIn K (.ref fI) = (K.lookup fI).map (·.cls) from rfl, l1]
  rfl
theorem pg_mk {h : Heap} (X : K.In h) (G : h.Ns mainGlobals mg) {cP fP : Addr} {od an : Option Addr} {osl : Array (Option Value)} {kV doc pm cdv ct : Value}
    (aP : PySem.W.nsIn K mainGlobals "Page" = some (some (.ref cP))) (b1 : PySem.W.specialIn K (.ref cP) "__getattribute__" = some (some (.builtin "type.__getattribute__"))) (b2 : PySem.W.readsIn K cP (.type "type") = true) (b3 : PySem.W.findCls K (.ref cP) (.type "type") "__init__" = some (.val (.ref fP)))
    (l1 : K.lookup fP = some ⟨.type "function", od, .func (PySem.W.fnOf "__init__" "Page.__init__" (defArgs (inClass (top 32) 0)) (defBody (inClass (top 32) 0)) (defScope (inClass (top 32) 0)) .none kV doc pm an cdv ct), osl⟩) (c1 : PySem.W.codeIn K cdv "Page.__init__" = true)
    (hb : ∀ (kV doc pm : Value) (an : Option Addr) (cdv ct : Value) (us : List Value), us.length = 3 → bindArgs (PySem.W.fnOf "__init__" "Page.__init__" (defArgs (inClass (top 32) 0)) (defBody (inClass (top 32) 0)) (defScope (inClass (top 32) 0)) .none kV doc pm an cdv ct) ⟨us, []⟩ = pure ((["self", "keys", "goods"] : List Str).zip us)) :
    ∃ cP fP fdP, PgN K mg cP fP fdP := by
  obtain ⟨kf, ff⟩ := fn_facts l1
  exact ⟨cP, fP, _, ⟨fun_mk l1 c1 kf, (fun_mk (st := inClass (top 32) 0) l1 c1 kf).binds hb, ⟨b1, b2, b3, kf⟩, PySem.W.mg_of X G aP⟩⟩
theorem kdn_mk {h : Heap} (X : K.In h) (G : h.Ns mainGlobals mg) {nm : Str} {C f fK fG : Addr} {od an odK anK odG anG : Option Addr} {osl oslK oslG : Array (Option Value)} {kV doc pm cdv ct kVK docK pmK cdvK ctK kVG docG pmG cdvG ctG : Value}
    (aC : PySem.W.nsIn K mainGlobals nm = some (some (.ref C))) (m1 : PySem.W.makesIn K C = true) (i1 : PySem.W.findIn K (.ref C) "__init__" = some (some (.ref f))) (i2 : PySem.W.keepIn K (.ref C) = true)
    (l1 : K.lookup f = some ⟨.type "function", od, .func (PySem.W.fnOf "__init__" q (defArgs st) (defBody st) (defScope st) .none kV doc pm an cdv ct), osl⟩) (c1 : PySem.W.codeIn K cdv q = true)
    (p1 : PySem.W.plainGet K C Str.empty = true) (p2 : PySem.W.hasDictIn K C = true) (p3 : PySem.W.plainOver K C = true) (p4 : PySem.W.findIn K (.ref C) "__setattr__" = some (some (.builtin "object.__setattr__")))
    (q1 : PySem.W.findIn K (.ref C) "__class__" = some (some (.builtin "object.__class__"))) (q2 : PySem.W.specialIn K (.builtin "object.__class__") "__get__" = some (some (.builtin "getset_descriptor.__get__"))) (q3 : PySem.W.takesIn K (.builtin "object.__class__") = some true) (q4 : PySem.W.mroIn K C (.type "object") = some true)
    (n1 : PySem.W.findIn K (.ref C) "key_row" = some none) (n2 : PySem.W.findIn K (.ref C) "good_row" = some none)
    (k1 : PySem.W.findIn K (.ref C) "all_keys" = some (some (.ref fK))) (lK : K.lookup fK = some ⟨.type "function", odK, .func (PySem.W.fnOf "all_keys" "Page.all_keys" (defArgs (inClass (top 32) 1)) (defBody (inClass (top 32) 1)) (defScope (inClass (top 32) 1)) .none kVK docK pmK anK cdvK ctK), oslK⟩) (cK : PySem.W.codeIn K cdvK "Page.all_keys" = true)
    (g1 : PySem.W.findIn K (.ref C) "goods" = some (some (.ref fG))) (lG : K.lookup fG = some ⟨.type "function", odG, .func (PySem.W.fnOf "goods" "Page.goods" (defArgs (inClass (top 32) 2)) (defBody (inClass (top 32) 2)) (defScope (inClass (top 32) 2)) .none kVG docG pmG anG cdvG ctG), oslG⟩) (cG : PySem.W.codeIn K cdvG "Page.goods" = true)
    (hb : ∀ (kV doc pm : Value) (an : Option Addr) (cdv ct : Value) (us : List Value), us.length = 3 → bindArgs (PySem.W.fnOf "__init__" q (defArgs st) (defBody st) (defScope st) .none kV doc pm an cdv ct) ⟨us, []⟩ = pure ((["self", "keys", "goods"] : List Str).zip us))
    (hbK : ∀ (kV doc pm : Value) (an : Option Addr) (cdv ct : Value) (us : List Value), us.length = 1 → bindArgs (PySem.W.fnOf "all_keys" "Page.all_keys" (defArgs (inClass (top 32) 1)) (defBody (inClass (top 32) 1)) (defScope (inClass (top 32) 1)) .none kV doc pm an cdv ct) ⟨us, []⟩ = pure ((["self"] : List Str).zip us))
    (hbG : ∀ (kV doc pm : Value) (an : Option Addr) (cdv ct : Value) (us : List Value), us.length = 1 → bindArgs (PySem.W.fnOf "goods" "Page.goods" (defArgs (inClass (top 32) 2)) (defBody (inClass (top 32) 2)) (defScope (inClass (top 32) 2)) .none kV doc pm an cdv ct) ⟨us, []⟩ = pure ((["self"] : List Str).zip us)) :
    ∃ C f fd fK fG fdK fdG, KdN K mg nm q st C f fd fK fG ∧ Fun K "all_keys" "Page.all_keys" (inClass (top 32) 1) fK fdK ∧ Fun K "goods" "Page.goods" (inClass (top 32) 2) fG fdG ∧ Binds K fdK ["self"] [] ∧ Binds K fdG ["self"] [] := by
  obtain ⟨kf, ff⟩ := fn_facts l1
  obtain ⟨kK, fK'⟩ := fn_facts lK
  obtain ⟨kG, fG'⟩ := fn_facts lG
  exact ⟨C, f, _, fK, fG, _, _, { mak := ⟨m1, i1, ff, i2⟩, fn := fun_mk (st := st) l1 c1 kf, bi := (fun_mk (st := st) l1 c1 kf).binds hb, m := PySem.W.mg_of X G aC, ins := ⟨⟨p1, p2, p3, p4⟩, q1, q2, q3, q4⟩, n1 := n1, n2 := n2, k := ⟨k1, fK', kK⟩, g := ⟨g1, fG', kG⟩ },
    fun_mk lK cK kK, fun_mk lG cG kG, (fun_mk (st := inClass (top 32) 1) lK cK kK).binds hbK, (fun_mk (st := inClass (top 32) 2) lG cG kG).binds hbG⟩
theorem kit_m {C D : Addr} {dd : Option Addr} {cd : ClassData} {sl : Array (Option Value)} {b : Bool} (l : K.lookup D = some ⟨.type "type", dd, .cls cd, sl⟩) (s : PySem.W.mroIn K C (.ref C) = some true) (m : PySem.W.mroIn K C (.ref D) = some b) : PySem.W.kitOne K (.ref C) (.ref D) = some b := by
  unfold PySem.W.kitOne
  by_cases e : C = D
  · subst e
    rw [if_pos (by simp), ← m, s]
  · rw [if_neg (by intro z; exact e (Value.ref.inj (beq_iff_eq.mp z)))]
    have h' : PySem.W.clsIn K D = some cd := by unfold PySem.W.clsIn; rw [l]
    have ty : PySem.W.typeIn K (.ref D) = some (.type "type") := by
      show (K.lookup D).map (·.cls) = _
      rw [l]
      rfl
    unfold PySem.W.kitCls
    dsimp only
    rw [if_pos (by rw [h', ty]; rfl)]
    exact m
theorem meth_mk {h : Heap} (X : K.In h) (G : h.Ns mainGlobals mg) {cn nm : Str} {C f : Addr} {od an : Option Addr} {osl : Array (Option Value)} {kV doc pm cdv ct : Value}
    (aC : PySem.W.nsIn K mainGlobals cn = some (some (.ref C))) (k1 : PySem.W.findIn K (.ref C) nm = some (some (.ref f))) (l1 : K.lookup f = some ⟨.type "function", od, .func (PySem.W.fnOf nm q (defArgs st) (defBody st) (defScope st) .none kV doc pm an cdv ct), osl⟩) (c1 : PySem.W.codeIn K cdv q = true)
    (hb : ∀ (kV doc pm : Value) (an : Option Addr) (cdv ct : Value) (us : List Value), us.length = ps.length → bindArgs (PySem.W.fnOf nm q (defArgs st) (defBody st) (defScope st) .none kV doc pm an cdv ct) ⟨us, []⟩ = pure (ps.zip us)) :
    ∃ C f fd, mg cn = some (.ref C) ∧ Meth K C nm f ∧ Fun K nm q st f fd ∧ Binds K fd ps [] := by
  obtain ⟨kf, ff⟩ := fn_facts l1
  exact ⟨C, f, _, PySem.W.mg_of X G aC, ⟨k1, ff, kf⟩, fun_mk (st := st) l1 c1 kf, (fun_mk (st := st) l1 c1 kf).binds hb⟩
theorem kit_ty {C : Addr} {cd : ClassData} {dd : Option Addr} {sl : Array (Option Value)} (l : K.lookup C = some ⟨.type "type", dd, .cls cd, sl⟩) (d : PyData) : PySem.W.kitOne K (tyD d) (.ref C) = some false := by
  have h' : PySem.W.clsIn K C = some cd := by unfold PySem.W.clsIn; rw [l]
  have ty : PySem.W.typeIn K (.ref C) = some (.type "type") := by
    show (K.lookup C).map (·.cls) = _
    rw [l]
    rfl
  unfold PySem.W.kitOne PySem.W.kitCls
  dsimp only
  rw [if_neg (by intro z; have := beq_iff_eq.mp z; cases d <;> cases this), if_pos (by rw [h', ty]; rfl)]
  cases d <;> kernel_rfl
theorem kin_mk {h : Heap} (X : K.In h) (G : h.Ns mainGlobals mg) {cL cI : Addr} {d2 d3 : Option Addr} {e2 e3 : ClassData} {s2 s3 : Array (Option Value)} (aL : PySem.W.nsIn K mainGlobals "Leaf" = some (some (.ref cL))) (aI : PySem.W.nsIn K mainGlobals "Inner" = some (some (.ref cI)))
    (lL : K.lookup cL = some ⟨.type "type", d2, .cls e2, s2⟩) (lI : K.lookup cI = some ⟨.type "type", d3, .cls e3, s3⟩) (m1 : PySem.W.mroIn K cL (.ref cL) = some true) (m2 : PySem.W.mroIn K cI (.ref cI) = some true) (m5 : PySem.W.mroIn K cL (.ref cI) = some false) (m6 : PySem.W.mroIn K cI (.ref cL) = some false) :
    ∃ cL cI, mg "Leaf" = some (.ref cL) ∧ mg "Inner" = some (.ref cI) ∧ Kin K cL cI := ⟨cL, cI, PySem.W.mg_of X G aL, PySem.W.mg_of X G aI, ⟨kit_m lL m2 m6, kit_m lI m1 m5, kit_ty lL, kit_ty lI⟩⟩
theorem int_of {h : Heap} (X : K.In h) (G : h.Ns mainGlobals mg) {x : Str} {i : Int} {t : Tok} (a : PySem.W.nsIn K mainGlobals x = some (some (.int i t))) : ∃ t, mg x = some (.int i t) := ⟨t, PySem.W.mg_of X G a⟩
theorem fun_uniq {x q : Str} {st : Stmt} {f : Addr} {fd fd' : FuncData} (a : Fun K x q st f fd) (b : Fun K x q st f fd') : fd = fd' := by
  obtain ⟨_, _, _, _, _, _, _, _, _, _, l1, _⟩ := a.ex
  obtain ⟨_, _, _, _, _, _, _, _, _, _, l2, _⟩ := b.ex
  rw [l1] at l2
  cases l2
  rfl
theorem mg_eq {x : Str} {a b : Addr} (h : mg x = some (.ref a)) (h' : mg x = some (.ref b)) : a = b := Value.ref.inj (Option.some.inj (h.symm.trans h'))
end
theorem last {P : Program} {w : World} {K : PySem.W.Frag} {mg : Str → Option Value} {fa : Addr} (T : Txt K mg) (TX : ∃ T, TF K mg T)
    (ENoKey : ∃ C T', mg "TreeError" = some (.ref T') ∧ CF K mg T' C "NoKey" "NoKey.__init__" (inClass (top 3) 0) ["found"])
    (ENoPage : ∃ C T', mg "TreeError" = some (.ref T') ∧ CF K mg T' C "NoPage" "NoPage.__init__" (inClass (top 4) 0) ["found"])
    (ENoPlace : ∃ C T', mg "TreeError" = some (.ref T') ∧ CF K mg T' C "NoPlace" "NoPlace.__init__" (inClass (top 5) 0) ["found"])
    (ELacks : ∃ C T', mg "TreeError" = some (.ref T') ∧ CF K mg T' C "Lacks" "Lacks.__init__" (inClass (top 6) 0) ["key"])
    (EHas : ∃ C T', mg "TreeError" = some (.ref T') ∧ CF K mg T' C "Has" "Has.__init__" (inClass (top 7) 0) ["key"])
    (ETooMany : ∃ C T', mg "TreeError" = some (.ref T') ∧ CF K mg T' C "TooMany" "TooMany.__init__" (inClass (top 8) 0) ["count"])
    (PX : ∃ cP fP fdP, PgN K mg cP fP fdP)
    (KL : ∃ C f fd fK fG fdK fdG, KdN K mg "Leaf" "Leaf.__init__" (inClass (top 33) 0) C f fd fK fG ∧ Fun K "all_keys" "Page.all_keys" (inClass (top 32) 1) fK fdK ∧ Fun K "goods" "Page.goods" (inClass (top 32) 2) fG fdG ∧ Binds K fdK ["self"] [] ∧ Binds K fdG ["self"] [])
    (KI : ∃ C f fd fK fG fdK fdG, KdN K mg "Inner" "Inner.__init__" (inClass (top 34) 0) C f fd fK fG ∧ Fun K "all_keys" "Page.all_keys" (inClass (top 32) 1) fK fdK ∧ Fun K "goods" "Page.goods" (inClass (top 32) 2) fG fdG ∧ Binds K fdK ["self"] [] ∧ Binds K fdG ["self"] [])
    (KT : ∃ cL cI, mg "Leaf" = some (.ref cL) ∧ mg "Inner" = some (.ref cI) ∧ Kin K cL cI)
    (Mchild_at : ∃ C f fd, mg "Inner" = some (.ref C) ∧ Meth K C "child_at" f ∧ Fun K "child_at" "Inner.child_at" (inClass (top 34) 1) f fd ∧ Binds K fd ["self", "key"] [])
    (Mchild : ∃ C f fd, mg "Inner" = some (.ref C) ∧ Meth K C "child" f ∧ Fun K "child" "Inner.child" (inClass (top 34) 2) f fd ∧ Binds K fd ["self", "key"] [])
    (Mbeyond : ∃ C f fd, mg "Inner" = some (.ref C) ∧ Meth K C "beyond" f ∧ Fun K "beyond" "Inner.beyond" (inClass (top 34) 3) f fd ∧ Binds K fd ["self", "key"] [])
    (Mseparator : ∃ C f fd, mg "Inner" = some (.ref C) ∧ Meth K C "separator" f ∧ Fun K "separator" "Inner.separator" (inClass (top 34) 4) f fd ∧ Binds K fd ["self", "key"] [])
    (Mwith_child : ∃ C f fd, mg "Inner" = some (.ref C) ∧ Meth K C "with_child" f ∧ Fun K "with_child" "Inner.with_child" (inClass (top 34) 5) f fd ∧ Binds K fd ["self", "key", "place"] [])
    (Mwithout_child : ∃ C f fd, mg "Inner" = some (.ref C) ∧ Meth K C "without_child" f ∧ Fun K "without_child" "Inner.without_child" (inClass (top 34) 6) f fd ∧ Binds K fd ["self", "key"] [])
    (Mis_kin : ∃ C f fd, mg "Inner" = some (.ref C) ∧ Meth K C "is_kin" f ∧ Fun K "is_kin" "Inner.is_kin" (inClass (top 34) 7) f fd ∧ Binds K fd ["self", "thing"] [])
    (Mmany : ∃ C f fd, mg "Inner" = some (.ref C) ∧ Meth K C "many" f ∧ Fun K "many" "Page.many" (inClass (top 32) 3) f fd ∧ Binds K fd ["self"] [])
    (Msame : ∃ C f fd, mg "Inner" = some (.ref C) ∧ Meth K C "same" f ∧ Fun K "same" "Page.same" (inClass (top 32) 4) f fd ∧ Binds K fd ["self", "thing"] [])
    (d_is_number : ∃ f fd, Dn K mg "is_number" "is_number" s_is_number ["thing"] f fd) (d_is_whole : ∃ f fd, Dn K mg "is_whole" "is_whole" s_is_whole ["thing", "low", "high"] f fd) (d_is_key : ∃ f fd, Dn K mg "is_key" "is_key" s_is_key ["thing"] f fd) (d_is_good : ∃ f fd, Dn K mg "is_good" "is_good" s_is_good ["thing"] f fd) (d_is_place : ∃ f fd, Dn K mg "is_place" "is_place" s_is_place ["thing"] f fd) (d_is_row : ∃ f fd, Dn K mg "is_row" "is_row" s_is_row ["thing"] f fd) (d_is_rising : ∃ f fd, Dn K mg "is_rising" "is_rising" s_is_rising ["thing"] f fd) (d_need_key : ∃ f fd, Dn K mg "need_key" "need_key" s_need_key ["thing"] f fd) (d_are_page_keys : ∃ f fd, Dn K mg "are_page_keys" "are_page_keys" s_are_page_keys ["thing"] f fd) (d_are_goods : ∃ f fd, Dn K mg "are_goods" "are_goods" s_are_goods ["thing", "many"] f fd) (d_are_places : ∃ f fd, Dn K mg "are_places" "are_places" s_are_places ["thing", "many"] f fd) (d_put_in : ∃ f fd, Dn K mg "put_in" "put_in" s_put_in ["row", "at", "thing"] f fd) (d_left_out : ∃ f fd, Dn K mg "left_out" "left_out" s_left_out ["row", "at"] f fd) (d__law_cell : ∃ f fd, Dn K mg "_law_cell" "_law_cell" s__law_cell ["_law_script", "_law_k"] f fd) (d__law_box : ∃ f fd, Dn K mg "_law_box" "_law_box" s__law_box ["_law_cell_here"] f fd) (d__law_take : ∃ f fd, Dn K mg "_law_take" "_law_take" s__law_take ["_law_box_here", "_law_many"] f fd) (d__law_keys : ∃ f fd, Dn K mg "_law_keys" "_law_keys" s__law_keys ["_law_box_here", "_law_many"] f fd) (d__law_near : ∃ f fd, Dn K mg "_law_near" "_law_near" s__law_near ["_law_keys_here"] f fd) (d__law_odd : ∃ f fd, Dn K mg "_law_odd" "_law_odd" s__law_odd ["_law_box_here"] f fd) (d__law_places : ∃ f fd, Dn K mg "_law_places" "_law_places" s__law_places ["_law_box_here", "_law_many"] f fd) (d__law_is_number : ∃ f fd, Dn K mg "_law_is_number" "_law_is_number" s__law_is_number ["_law_thing", "_law_low", "_law_high"] f fd) (d__law_due : ∃ f fd, Dn K mg "_law_due" "_law_due" s__law_due ["_law_rows", "_law_word", "_law_key", "_law_place"] f fd) (d__law_told : ∃ f fd, Dn K mg "_law_told" "_law_told" s__law_told ["_law_page", "_law_word", "_law_key", "_law_place"] f fd) (d__law_stands : ∃ f fd, Dn K mg "_law_stands" "_law_stands" s__law_stands ["_law_page", "_law_rows"] f fd) (d__law_led_right : ∃ f fd, Dn K mg "_law_led_right" "_law_led_right" s__law_led_right ["_law_page", "_law_rows"] f fd) (d__law_page_told : ∃ f fd, Dn K mg "_law_page_told" "_law_page_told" s__law_page_told ["_law_thing"] f fd) (d__law_exchanged : ∃ f fd, Dn K mg "_law_exchanged" "_law_exchanged" s__law_exchanged ["_law_keys_here", "_law_places_here"] f fd) (d__law_same_right : ∃ f fd, Dn K mg "_law_same_right" "_law_same_right" s__law_same_right ["_law_page", "_law_keys_here", "_law_places_here"] f fd) (d__law_asked : ∃ f fd, Dn K mg "_law_asked" "_law_asked" s__law_asked ["_law_page", "_law_way", "_law_key"] f fd) (d__law_changed : ∃ f fd, Dn K mg "_law_changed" "_law_changed" s__law_changed ["_law_rows", "_law_word", "_law_key", "_law_place"] f fd) (d__law_deed : ∃ f fd, Dn K mg "_law_deed" "_law_deed" s__law_deed ["_law_box_here", "_law_rows"] f fd) (d__law_is_due : ∃ f fd, Dn K mg "_law_is_due" "_law_is_due" s__law_is_due ["_law_found", "_law_due_here"] f fd) (d__law_step : ∃ f fd, Dn K mg "_law_step" "_law_step" s__law_step ["_law_box_here", "_law_page", "_law_rows"] f fd) (d_law : ∃ f fd, Dn K mg "law" "law" s_law ["_law_script"] f fd) (hmg : mg "law" = some (.ref fa)) :
    ∃ fd : FuncData, (∀ (s : Shared) (u : Value), BindsTo s fd ⟨[u], []⟩ [("_law_script", u)]) ∧ ∀ base : Heap, FnOk P w K mg base CX0 16 fa fd ["_law_script"] (spLaw K) := by
  obtain ⟨TT, TX⟩ := TX
  obtain ⟨cNoKey, TNoKey, eNoKey, CNoKey⟩ := ENoKey
  cases mg_eq TX.mT eNoKey
  obtain ⟨fNoKey, fdNoKey, xNoKey⟩ := CNoKey.er TX
  obtain ⟨cNoPage, TNoPage, eNoPage, CNoPage⟩ := ENoPage
  cases mg_eq TX.mT eNoPage
  obtain ⟨fNoPage, fdNoPage, xNoPage⟩ := CNoPage.er TX
  obtain ⟨cNoPlace, TNoPlace, eNoPlace, CNoPlace⟩ := ENoPlace
  cases mg_eq TX.mT eNoPlace
  obtain ⟨fNoPlace, fdNoPlace, xNoPlace⟩ := CNoPlace.er TX
  obtain ⟨cLacks, TLacks, eLacks, CLacks⟩ := ELacks
  cases mg_eq TX.mT eLacks
  obtain ⟨fLacks, fdLacks, xLacks⟩ := CLacks.er TX
  obtain ⟨cHas, THas, eHas, CHas⟩ := EHas
  cases mg_eq TX.mT eHas
  obtain ⟨fHas, fdHas, xHas⟩ := CHas.er TX
  obtain ⟨cTooMany, TTooMany, eTooMany, CTooMany⟩ := ETooMany
  cases mg_eq TX.mT eTooMany
  obtain ⟨fTooMany, fdTooMany, xTooMany⟩ := CTooMany.er TX
  obtain ⟨cP, fP, fdP, y⟩ := PX
  obtain ⟨cL, fL, fdL, fK, fG, fdK, fdG, XL, a1, a2, a3, a4⟩ := KL
  obtain ⟨cI, fN, fdN, fK2, fG2, fdK2, fdG2, XI, b1, b2, b3, b4⟩ := KI
  obtain ⟨cL', cI', e2, e3, kn⟩ := KT
  cases mg_eq XL.m e2
  cases mg_eq XI.m e3
  obtain ⟨C_child_at, f_child_at, fd_child_at, m0, m_child_at, n_child_at, b_child_at⟩ := Mchild_at
  cases mg_eq XI.m m0
  obtain ⟨C_child, f_child, fd_child, m0, m_child, n_child, b_child⟩ := Mchild
  cases mg_eq XI.m m0
  obtain ⟨C_beyond, f_beyond, fd_beyond, m0, m_beyond, n_beyond, b_beyond⟩ := Mbeyond
  cases mg_eq XI.m m0
  obtain ⟨C_separator, f_separator, fd_separator, m0, m_separator, n_separator, b_separator⟩ := Mseparator
  cases mg_eq XI.m m0
  obtain ⟨C_with_child, f_with_child, fd_with_child, m0, m_with_child, n_with_child, b_with_child⟩ := Mwith_child
  cases mg_eq XI.m m0
  obtain ⟨C_without_child, f_without_child, fd_without_child, m0, m_without_child, n_without_child, b_without_child⟩ := Mwithout_child
  cases mg_eq XI.m m0
  obtain ⟨C_is_kin, f_is_kin, fd_is_kin, m0, m_is_kin, n_is_kin, b_is_kin⟩ := Mis_kin
  cases mg_eq XI.m m0
  obtain ⟨C_many, f_many, fd_many, m0, m_many, n_many, b_many⟩ := Mmany
  cases mg_eq XI.m m0
  obtain ⟨C_same, f_same, fd_same, m0, m_same, n_same, b_same⟩ := Msame
  cases mg_eq XI.m m0
  obtain ⟨f, fd, Dl⟩ := d_law
  have ef : fa = f := Value.ref.inj (Option.some.inj (hmg.symm.trans Dl.m))
  subst ef
  refine ⟨fd, ?_, fun base => ?_⟩
  · obtain ⟨oc, od, kV, doc, pm, an, cdv, ct, osl, e, lk, hcd⟩ := Dl.fn.ex
    subst e
    exact fun s u => .of_eq rfl
  · have take := ok_take (P := P) (w := w) (base := base) d__law_take T
    have cell := ok_cell (P := P) (w := w) (base := base) d__law_cell T
    have box := ok_box (P := P) (w := w) (base := base) d__law_box T
    have isN := ok_isN (P := P) (w := w) (base := base) d_is_number T
    have isW := ok_isW d_is_whole T isN
    have isK := ok_isK d_is_key T isW
    have isG := ok_isG d_is_good T isW
    have isR := ok_isR (P := P) (w := w) (base := base) d_is_row T
    have lN := ok_lN (P := P) (w := w) (base := base) d__law_is_number T
    have rise := ok_rise d_is_rising T isR isK
    have apk := ok_APK d_are_page_keys T rise
    have ag := ok_AG d_are_goods T isR isG
    have gL := ok_leaf XL xNoPage y T apk ag
    have need := ok_need d_need_key T xNoKey isK
    have isP := ok_isP d_is_place T isN
    have ap := ok_AP d_are_places T isR isP
    have gI := ok_inner XI xNoPage y T apk ap
    have lo := ok_left (P := P) (w := w) (base := base) d_left_out T
    have pu := ok_putIn (P := P) (w := w) (base := base) d_put_in T
    have mn := ok_many (P := P) (w := w) (base := base) n_many T XI.ins.cl XI.n1
    have ca := ok_childAt n_child_at T XI need
    have ch := ok_child n_child T XI m_child_at b_child_at ca
    have be := ok_beyond n_beyond T XI m_child_at b_child_at ca m_many b_many mn
    have se := ok_separator n_separator T XI m_child_at b_child_at ca m_many b_many mn
    have wo := ok_wo n_without_child T XI xLacks need lo gI
    have wc := ok_wc n_with_child T XI xNoPlace xHas xTooMany need pu isP m_child_at b_child_at ca m_many b_many mn gI
    have kin := ok_kin (P := P) (w := w) (base := base) n_is_kin T XI.m
    have sm := ok_same n_same T XI m_is_kin b_is_kin kin
    have mK : MtOk P w K mg base CX0 cL "all_keys" ["self"] 1 (spRow cL true) := ⟨fK, fdK, XL.k, a3, ok_ak a1 T XL.ins.cl XL.n1⟩
    have mG : MtOk P w K mg base CX0 cL "goods" ["self"] 1 (spRow cL false) := ⟨fG, fdG, XL.g, a4, ok_gs a2 T XL.ins.cl XL.n2⟩
    have iK : MtOk P w K mg base CX0 cI "all_keys" ["self"] 1 (spRow cI true) := ⟨fK2, fdK2, XI.k, b3, ok_ak b1 T XI.ins.cl XI.n1⟩
    have iG : MtOk P w K mg base CX0 cI "goods" ["self"] 1 (spRow cI false) := ⟨fG2, fdG2, XI.g, b4, ok_gs b2 T XI.ins.cl XI.n2⟩
    have keys := ok_keysU d__law_keys T take
    have odd := ok_odd d__law_odd T take
    have near := ok_near (P := P) (w := w) (base := base) d__law_near T
    have places := ok_places d__law_places T take
    have apt : ErrApart K cNoKey cNoPlace cHas cTooMany cLacks := { pk := CNoPlace.apart CNoKey TX (by decide +kernel) (by decide +kernel), hk := CHas.apart CNoKey TX (by decide +kernel) (by decide +kernel), hp := CHas.apart CNoPlace TX (by decide +kernel) (by decide +kernel), mkk := CTooMany.apart CNoKey TX (by decide +kernel) (by decide +kernel), mp := CTooMany.apart CNoPlace TX (by decide +kernel) (by decide +kernel), mh := CTooMany.apart CHas TX (by decide +kernel) (by decide +kernel), lk := CLacks.apart CNoKey TX (by decide +kernel) (by decide +kernel), lp := CLacks.apart CNoPlace TX (by decide +kernel) (by decide +kernel), lh := CLacks.apart CHas TX (by decide +kernel) (by decide +kernel), lm := CLacks.apart CTooMany TX (by decide +kernel) (by decide +kernel) }
    have told := ok_told d__law_told T XI xNoKey xNoPlace xHas xTooMany xLacks TX.xm apt m_with_child m_without_child b_with_child b_without_child wc wo
    have isdue := ok_isdue (P := P) (w := w) (base := base) d__law_is_due T
    have due := ok_due d__law_due T lN
    have stands := ok_stands d__law_stands T XI (ok_ak (P := P) (w := w) (base := base) b1 T XI.ins.cl XI.n1) (ok_gs (P := P) (w := w) (base := base) b2 T XI.ins.cl XI.n2) b3 b4
    have asked := ok_asked d__law_asked T XI xNoKey TX.xm m_child m_beyond m_separator b_child b_beyond b_separator ch be se
    have changed := ok_changed (P := P) (w := w) (base := base) d__law_changed T
    have ledr := ok_ledr d__law_led_right T XI near m_child m_beyond m_separator b_child b_beyond b_separator ch be se
    have deed := ok_deed d__law_deed T take near odd
    have step := ok_step d__law_step T deed due told isdue stands odd lN asked changed ledr
    have pt := ok_pt d__law_page_told T XL.m XI.m kn XL.ins XI.ins mK mG iK iG
    have ex := ok_ex d__law_exchanged T XI gI
    have sr := ok_sr d__law_same_right T kn XL.ins XI.ins XL XI gL gI ⟨_, _, m_same, b_same, sm⟩ ex pt stands
    obtain ⟨f', fd', D', G'⟩ := ok_law ⟨fa, fd, Dl⟩ T XI gI iK iG cell box take keys places ledr step stands sr
    have ef : fa = f' := Value.ref.inj (Option.some.inj (hmg.symm.trans D'.m))
    subst ef
    cases fun_uniq Dl.fn D'.fn
    exact G'
end K14
set_option Elab.async false
set_option linter.all false
def PySem.W.Fast.tw16710331741187080737 : Nat := 0
def PySem.W.Fast.tw10104530367965650274 : Nat := 0
def PySem.W.Fast.tw13335179800990916162 : Nat := 0
def PySem.W.Fast.tw5625315811607627908 : Nat := 0
def PySem.W.Fast.tw15081528411624593572 : Nat := 0
def PySem.W.Fast.tw4789682669352745190 : Nat := 0
def PySem.W.Fast.tw5686180918245621286 : Nat := 0
def PySem.W.Fast.tw14502521239484842567 : Nat := 0
def PySem.W.Fast.tw12946880730628312360 : Nat := 0
def PySem.W.Fast.tw7100852891615724168 : Nat := 0
def PySem.W.Fast.tw1841374988010493836 : Nat := 0
def PySem.W.Fast.tw5394970134929560688 : Nat := 0
def PySem.W.Fast.tw9767993132615980016 : Nat := 0
def PySem.W.Fast.tw3656015829857699412 : Nat := 0
def PySem.W.Fast.tw2748779015346198102 : Nat := 0
def PySem.W.Fast.tw8014981177332970777 : Nat := 0
def PySem.W.Fast.tw5865621579084505497 : Nat := 0
def PySem.W.Fast.tw10686008161221437498 : Nat := 0
def PySem.W.Fast.tw12993309953404214079 : Nat := 0
def PySem.W.Fast.tw10257059447977927829 : Nat := 0
def PySem.W.Fast.tw13391361737036079462 : Nat := 0
open PySem PySem.W PyProof.Rows
set_option maxRecDepth 100000 in
set_option maxHeartbeats 0 in
theorem PySem.Challenge.cw_nolocktree_k14_children_holds : PySem.Challenge.rw_nolocktree_k14_children.Holds := by
  w_on; o_law; k_head; (case hw => w_witness2)
  k_fill
  refine L2.walk_ofK (l := PySem.Challenge.rw_nolocktree_k14_children) (n := 63) (k := 16) (x := "_law_script") (CX := L2.CX0) (sp := K14.spLaw) rfl (by decide) rfl ⟨rfl, by decide, by decide, rfl⟩ (fun w h Y => PySem.W.kIn_of Y) ?F ?S ?C
  case S => exact fun K H a ns hl hO hS => ⟨a, ns, rfl, hS, hl, fun _ => rfl⟩
  case C => exact fun _ _ _ _ z => z
  case F =>
    intro w mg fa h KX G hmg
    have TX : ∃ T, K14.TF (L2.KOf KX) mg T := by
      dsimp only [L2.KOf]
      refine' K14.tf_mk KX G ?aT ?lT ?lN ?s1 ?s2 ?b1 ?b2 ?b3 ?i1 ?i3 ?g1 ?g2 ?g4 ?g5 ?g6
      (case aT => k_is); (case lT => k_is); (case lN => k_is); (case s1 => kernel_rfl); (case s2 => kernel_rfl); (case b1 => k_is); (case b2 => k_is); (case b3 => k_is); (case i1 => k_is); (case i3 => k_is); (case g1 => k_is); (case g2 => k_is); (case g4 => k_is); (case g5 => k_is); (case g6 => k_is)
    have ENoKey : ∃ C T', mg "TreeError" = some (.ref T') ∧ K14.CF (L2.KOf KX) mg T' C "NoKey" "NoKey.__init__" (L2.inClass (K14.top 3) 0) ["found"] := by
      dsimp only [L2.KOf]
      refine' K14.cls_mk KX G ?aC ?aT ?lC ?i1 ?i3 ?i5 ?g1 ?g2 ?g4 ?l1 ?c1 (K14.na1 ?n1) (fun _ _ _ _ _ _ us hl => match us, hl with | [_, _], _ => rfl)
      (case aC => k_is); (case aT => k_is); (case lC => k_is); (case i1 => k_is); (case i3 => k_is); (case i5 => k_is); (case g1 => k_is); (case g2 => k_is); (case g4 => k_is); (case l1 => k_is); (case c1 => k_is); (case n1 => k_is)
    have ENoPage : ∃ C T', mg "TreeError" = some (.ref T') ∧ K14.CF (L2.KOf KX) mg T' C "NoPage" "NoPage.__init__" (L2.inClass (K14.top 4) 0) ["found"] := by
      dsimp only [L2.KOf]
      refine' K14.cls_mk KX G ?aC ?aT ?lC ?i1 ?i3 ?i5 ?g1 ?g2 ?g4 ?l1 ?c1 (K14.na1 ?n1) (fun _ _ _ _ _ _ us hl => match us, hl with | [_, _], _ => rfl)
      (case aC => k_is); (case aT => k_is); (case lC => k_is); (case i1 => k_is); (case i3 => k_is); (case i5 => k_is); (case g1 => k_is); (case g2 => k_is); (case g4 => k_is); (case l1 => k_is); (case c1 => k_is); (case n1 => k_is)
    have ENoPlace : ∃ C T', mg "TreeError" = some (.ref T') ∧ K14.CF (L2.KOf KX) mg T' C "NoPlace" "NoPlace.__init__" (L2.inClass (K14.top 5) 0) ["found"] := by
      dsimp only [L2.KOf]
      refine' K14.cls_mk KX G ?aC ?aT ?lC ?i1 ?i3 ?i5 ?g1 ?g2 ?g4 ?l1 ?c1 (K14.na1 ?n1) (fun _ _ _ _ _ _ us hl => match us, hl with | [_, _], _ => rfl)
      (case aC => k_is); (case aT => k_is); (case lC => k_is); (case i1 => k_is); (case i3 => k_is); (case i5 => k_is); (case g1 => k_is); (case g2 => k_is); (case g4 => k_is); (case l1 => k_is); (case c1 => k_is); (case n1 => k_is)
    have ELacks : ∃ C T', mg "TreeError" = some (.ref T') ∧ K14.CF (L2.KOf KX) mg T' C "Lacks" "Lacks.__init__" (L2.inClass (K14.top 6) 0) ["key"] := by
      dsimp only [L2.KOf]
      refine' K14.cls_mk KX G ?aC ?aT ?lC ?i1 ?i3 ?i5 ?g1 ?g2 ?g4 ?l1 ?c1 (K14.na1 ?n1) (fun _ _ _ _ _ _ us hl => match us, hl with | [_, _], _ => rfl)
      (case aC => k_is); (case aT => k_is); (case lC => k_is); (case i1 => k_is); (case i3 => k_is); (case i5 => k_is); (case g1 => k_is); (case g2 => k_is); (case g4 => k_is); (case l1 => k_is); (case c1 => k_is); (case n1 => k_is)
    have EHas : ∃ C T', mg "TreeError" = some (.ref T') ∧ K14.CF (L2.KOf KX) mg T' C "Has" "Has.__init__" (L2.inClass (K14.top 7) 0) ["key"] := by
      dsimp only [L2.KOf]
      refine' K14.cls_mk KX G ?aC ?aT ?lC ?i1 ?i3 ?i5 ?g1 ?g2 ?g4 ?l1 ?c1 (K14.na1 ?n1) (fun _ _ _ _ _ _ us hl => match us, hl with | [_, _], _ => rfl)
      (case aC => k_is); (case aT => k_is); (case lC => k_is); (case i1 => k_is); (case i3 => k_is); (case i5 => k_is); (case g1 => k_is); (case g2 => k_is); (case g4 => k_is); (case l1 => k_is); (case c1 => k_is); (case n1 => k_is)
    have ETooMany : ∃ C T', mg "TreeError" = some (.ref T') ∧ K14.CF (L2.KOf KX) mg T' C "TooMany" "TooMany.__init__" (L2.inClass (K14.top 8) 0) ["count"] := by
      dsimp only [L2.KOf]
      refine' K14.cls_mk KX G ?aC ?aT ?lC ?i1 ?i3 ?i5 ?g1 ?g2 ?g4 ?l1 ?c1 (K14.na1 ?n1) (fun _ _ _ _ _ _ us hl => match us, hl with | [_, _], _ => rfl)
      (case aC => k_is); (case aT => k_is); (case lC => k_is); (case i1 => k_is); (case i3 => k_is); (case i5 => k_is); (case g1 => k_is); (case g2 => k_is); (case g4 => k_is); (case l1 => k_is); (case c1 => k_is); (case n1 => k_is)
    have PX : ∃ cP fP fdP, K14.PgN (L2.KOf KX) mg cP fP fdP := by
      dsimp only [L2.KOf]
      refine' K14.pg_mk KX G ?aP ?b1 ?b2 ?b3 ?l1 ?c1 (fun _ _ _ _ _ _ us hl => match us, hl with | [_, _, _], _ => rfl)
      (case aP => k_is); (case b1 => k_is); (case b2 => k_is); (case b3 => k_is); (case l1 => k_is); (case c1 => k_is)
    have LX : ∃ C f fd fK fG fdK fdG, K14.KdN (L2.KOf KX) mg "Leaf" "Leaf.__init__" (L2.inClass (K14.top 33) 0) C f fd fK fG ∧ L2.Fun (L2.KOf KX) "all_keys" "Page.all_keys" (L2.inClass (K14.top 32) 1) fK fdK ∧ L2.Fun (L2.KOf KX) "goods" "Page.goods" (L2.inClass (K14.top 32) 2) fG fdG ∧ L2.Binds (L2.KOf KX) fdK ["self"] [] ∧ L2.Binds (L2.KOf KX) fdG ["self"] [] := by
      dsimp only [L2.KOf]
      refine' K14.kdn_mk KX G ?aC ?m1 ?i1 ?i2 ?l1 ?c1 ?p1 ?p2 ?p3 ?p4 ?q1 ?q2 ?q3 ?q4 ?n1 ?n2 ?k1 ?lK ?cK ?g1 ?lG ?cG (fun _ _ _ _ _ _ us hl => match us, hl with | [_, _, _], _ => rfl) (fun _ _ _ _ _ _ us hl => match us, hl with | [_], _ => rfl) (fun _ _ _ _ _ _ us hl => match us, hl with | [_], _ => rfl)
      (case aC => k_is); (case m1 => k_is); (case i1 => k_is); (case i2 => k_is); (case l1 => k_is); (case c1 => k_is); (case p1 => k_is); (case p2 => k_is); (case p3 => k_is); (case p4 => k_is); (case q1 => k_is); (case q2 => k_is); (case q3 => k_is); (case q4 => k_is); (case n1 => k_is); (case n2 => k_is); (case k1 => k_is); (case lK => k_is); (case cK => k_is); (case g1 => k_is); (case lG => k_is); (case cG => k_is)
    have IX : ∃ C f fd fK fG fdK fdG, K14.KdN (L2.KOf KX) mg "Inner" "Inner.__init__" (L2.inClass (K14.top 34) 0) C f fd fK fG ∧ L2.Fun (L2.KOf KX) "all_keys" "Page.all_keys" (L2.inClass (K14.top 32) 1) fK fdK ∧ L2.Fun (L2.KOf KX) "goods" "Page.goods" (L2.inClass (K14.top 32) 2) fG fdG ∧ L2.Binds (L2.KOf KX) fdK ["self"] [] ∧ L2.Binds (L2.KOf KX) fdG ["self"] [] := by
      dsimp only [L2.KOf]
      refine' K14.kdn_mk KX G ?aC ?m1 ?i1 ?i2 ?l1 ?c1 ?p1 ?p2 ?p3 ?p4 ?q1 ?q2 ?q3 ?q4 ?n1 ?n2 ?k1 ?lK ?cK ?g1 ?lG ?cG (fun _ _ _ _ _ _ us hl => match us, hl with | [_, _, _], _ => rfl) (fun _ _ _ _ _ _ us hl => match us, hl with | [_], _ => rfl) (fun _ _ _ _ _ _ us hl => match us, hl with | [_], _ => rfl)
      (case aC => k_is); (case m1 => k_is); (case i1 => k_is); (case i2 => k_is); (case l1 => k_is); (case c1 => k_is); (case p1 => k_is); (case p2 => k_is); (case p3 => k_is); (case p4 => k_is); (case q1 => k_is); (case q2 => k_is); (case q3 => k_is); (case q4 => k_is); (case n1 => k_is); (case n2 => k_is); (case k1 => k_is); (case lK => k_is); (case cK => k_is); (case g1 => k_is); (case lG => k_is); (case cG => k_is)
    have KT : ∃ cL cI, mg "Leaf" = some (.ref cL) ∧ mg "Inner" = some (.ref cI) ∧ K14.Kin (L2.KOf KX) cL cI := by
      dsimp only [L2.KOf]
      refine' K14.kin_mk KX G ?aL ?aI ?lL ?lI ?m1 ?m2 ?m5 ?m6
      (case aL => k_is); (case aI => k_is); (case lL => k_is); (case lI => k_is); (case m1 => k_is); (case m2 => k_is); (case m5 => k_is); (case m6 => k_is)
    have Mchild_at : ∃ C f fd, mg "Inner" = some (.ref C) ∧ L2.Meth (L2.KOf KX) C "child_at" f ∧ L2.Fun (L2.KOf KX) "child_at" "Inner.child_at" (L2.inClass (K14.top 34) 1) f fd ∧ L2.Binds (L2.KOf KX) fd ["self", "key"] [] := by
      dsimp only [L2.KOf]
      refine' K14.meth_mk KX G ?aC ?k1 ?l1 ?c1 (fun _ _ _ _ _ _ us hl => match us, hl with | [_, _], _ => rfl)
      (case aC => k_is); (case k1 => k_is); (case l1 => k_is); (case c1 => k_is)
    have Mchild : ∃ C f fd, mg "Inner" = some (.ref C) ∧ L2.Meth (L2.KOf KX) C "child" f ∧ L2.Fun (L2.KOf KX) "child" "Inner.child" (L2.inClass (K14.top 34) 2) f fd ∧ L2.Binds (L2.KOf KX) fd ["self", "key"] [] := by
      dsimp only [L2.KOf]
      refine' K14.meth_mk KX G ?aC ?k1 ?l1 ?c1 (fun _ _ _ _ _ _ us hl => match us, hl with | [_, _], _ => rfl)
      (case aC => k_is); (case k1 => k_is); (case l1 => k_is); (case c1 => k_is)
    have Mbeyond : ∃ C f fd, mg "Inner" = some (.ref C) ∧ L2.Meth (L2.KOf KX) C "beyond" f ∧ L2.Fun (L2.KOf KX) "beyond" "Inner.beyond" (L2.inClass (K14.top 34) 3) f fd ∧ L2.Binds (L2.KOf KX) fd ["self", "key"] [] := by
      dsimp only [L2.KOf]
      refine' K14.meth_mk KX G ?aC ?k1 ?l1 ?c1 (fun _ _ _ _ _ _ us hl => match us, hl with | [_, _], _ => rfl)
      (case aC => k_is); (case k1 => k_is); (case l1 => k_is); (case c1 => k_is)
    have Mseparator : ∃ C f fd, mg "Inner" = some (.ref C) ∧ L2.Meth (L2.KOf KX) C "separator" f ∧ L2.Fun (L2.KOf KX) "separator" "Inner.separator" (L2.inClass (K14.top 34) 4) f fd ∧ L2.Binds (L2.KOf KX) fd ["self", "key"] [] := by
      dsimp only [L2.KOf]
      refine' K14.meth_mk KX G ?aC ?k1 ?l1 ?c1 (fun _ _ _ _ _ _ us hl => match us, hl with | [_, _], _ => rfl)
      (case aC => k_is); (case k1 => k_is); (case l1 => k_is); (case c1 => k_is)
    have Mwith_child : ∃ C f fd, mg "Inner" = some (.ref C) ∧ L2.Meth (L2.KOf KX) C "with_child" f ∧ L2.Fun (L2.KOf KX) "with_child" "Inner.with_child" (L2.inClass (K14.top 34) 5) f fd ∧ L2.Binds (L2.KOf KX) fd ["self", "key", "place"] [] := by
      dsimp only [L2.KOf]
      refine' K14.meth_mk KX G ?aC ?k1 ?l1 ?c1 (fun _ _ _ _ _ _ us hl => match us, hl with | [_, _, _], _ => rfl)
      (case aC => k_is); (case k1 => k_is); (case l1 => k_is); (case c1 => k_is)
    have Mwithout_child : ∃ C f fd, mg "Inner" = some (.ref C) ∧ L2.Meth (L2.KOf KX) C "without_child" f ∧ L2.Fun (L2.KOf KX) "without_child" "Inner.without_child" (L2.inClass (K14.top 34) 6) f fd ∧ L2.Binds (L2.KOf KX) fd ["self", "key"] [] := by
      dsimp only [L2.KOf]
      refine' K14.meth_mk KX G ?aC ?k1 ?l1 ?c1 (fun _ _ _ _ _ _ us hl => match us, hl with | [_, _], _ => rfl)
      (case aC => k_is); (case k1 => k_is); (case l1 => k_is); (case c1 => k_is)
    have Mis_kin : ∃ C f fd, mg "Inner" = some (.ref C) ∧ L2.Meth (L2.KOf KX) C "is_kin" f ∧ L2.Fun (L2.KOf KX) "is_kin" "Inner.is_kin" (L2.inClass (K14.top 34) 7) f fd ∧ L2.Binds (L2.KOf KX) fd ["self", "thing"] [] := by
      dsimp only [L2.KOf]
      refine' K14.meth_mk KX G ?aC ?k1 ?l1 ?c1 (fun _ _ _ _ _ _ us hl => match us, hl with | [_, _], _ => rfl)
      (case aC => k_is); (case k1 => k_is); (case l1 => k_is); (case c1 => k_is)
    have Mmany : ∃ C f fd, mg "Inner" = some (.ref C) ∧ L2.Meth (L2.KOf KX) C "many" f ∧ L2.Fun (L2.KOf KX) "many" "Page.many" (L2.inClass (K14.top 32) 3) f fd ∧ L2.Binds (L2.KOf KX) fd ["self"] [] := by
      dsimp only [L2.KOf]
      refine' K14.meth_mk KX G ?aC ?k1 ?l1 ?c1 (fun _ _ _ _ _ _ us hl => match us, hl with | [_], _ => rfl)
      (case aC => k_is); (case k1 => k_is); (case l1 => k_is); (case c1 => k_is)
    have Msame : ∃ C f fd, mg "Inner" = some (.ref C) ∧ L2.Meth (L2.KOf KX) C "same" f ∧ L2.Fun (L2.KOf KX) "same" "Page.same" (L2.inClass (K14.top 32) 4) f fd ∧ L2.Binds (L2.KOf KX) fd ["self", "thing"] [] := by
      dsimp only [L2.KOf]
      refine' K14.meth_mk KX G ?aC ?k1 ?l1 ?c1 (fun _ _ _ _ _ _ us hl => match us, hl with | [_, _], _ => rfl)
      (case aC => k_is); (case k1 => k_is); (case l1 => k_is); (case c1 => k_is)
    have T : K14.Txt (L2.KOf KX) mg := by
      dsimp only [L2.KOf]
      refine' ⟨PySem.W.mg_none_of KX G ?n0, PySem.W.mg_none_of KX G ?n1, PySem.W.mg_none_of KX G ?n2, PySem.W.mg_none_of KX G ?n3, PySem.W.mg_none_of KX G ?n4, PySem.W.mg_none_of KX G ?n5, PySem.W.mg_none_of KX G ?n6, PySem.W.mg_none_of KX G ?n7, PySem.W.mg_none_of KX G ?n8, PySem.W.mg_none_of KX G ?n9, PySem.W.mg_none_of KX G ?n10, PySem.W.mg_none_of KX G ?n11, PySem.W.mg_none_of KX G ?n12, PySem.W.mg_none_of KX G ?n13, PySem.W.mg_none_of KX G ?n14, PySem.W.mg_none_of KX G ?n15, K14.int_of KX G ?c0, K14.int_of KX G ?c1, K14.int_of KX G ?c2⟩
      (case n0 => k_is); (case n1 => k_is); (case n2 => k_is); (case n3 => k_is); (case n4 => k_is); (case n5 => k_is); (case n6 => k_is); (case n7 => k_is); (case n8 => k_is); (case n9 => k_is); (case n10 => k_is); (case n11 => k_is); (case n12 => k_is); (case n13 => k_is); (case n14 => k_is); (case n15 => k_is); (case c0 => k_is); (case c1 => k_is); (case c2 => k_is)
    have D_is_number : ∃ f fd, L2.Dn (L2.KOf KX) mg "is_number" "is_number" K14.s_is_number ["thing"] f fd := by
      dsimp only [L2.KOf]
      refine' L2.dn_mk KX G ?a ?l ?c ?k (fun _ _ _ _ _ _ us hl => match us, hl with | [_], _ => rfl)
      (case a => k_is); (case l => k_is); (case c => k_is); (case k => k_is)
    have D_is_whole : ∃ f fd, L2.Dn (L2.KOf KX) mg "is_whole" "is_whole" K14.s_is_whole ["thing", "low", "high"] f fd := by
      dsimp only [L2.KOf]
      refine' L2.dn_mk KX G ?a ?l ?c ?k (fun _ _ _ _ _ _ us hl => match us, hl with | [_, _, _], _ => rfl)
      (case a => k_is); (case l => k_is); (case c => k_is); (case k => k_is)
    have D_is_key : ∃ f fd, L2.Dn (L2.KOf KX) mg "is_key" "is_key" K14.s_is_key ["thing"] f fd := by
      dsimp only [L2.KOf]
      refine' L2.dn_mk KX G ?a ?l ?c ?k (fun _ _ _ _ _ _ us hl => match us, hl with | [_], _ => rfl)
      (case a => k_is); (case l => k_is); (case c => k_is); (case k => k_is)
    have D_is_good : ∃ f fd, L2.Dn (L2.KOf KX) mg "is_good" "is_good" K14.s_is_good ["thing"] f fd := by
      dsimp only [L2.KOf]
      refine' L2.dn_mk KX G ?a ?l ?c ?k (fun _ _ _ _ _ _ us hl => match us, hl with | [_], _ => rfl)
      (case a => k_is); (case l => k_is); (case c => k_is); (case k => k_is)
    have D_is_place : ∃ f fd, L2.Dn (L2.KOf KX) mg "is_place" "is_place" K14.s_is_place ["thing"] f fd := by
      dsimp only [L2.KOf]
      refine' L2.dn_mk KX G ?a ?l ?c ?k (fun _ _ _ _ _ _ us hl => match us, hl with | [_], _ => rfl)
      (case a => k_is); (case l => k_is); (case c => k_is); (case k => k_is)
    have D_is_row : ∃ f fd, L2.Dn (L2.KOf KX) mg "is_row" "is_row" K14.s_is_row ["thing"] f fd := by
      dsimp only [L2.KOf]
      refine' L2.dn_mk KX G ?a ?l ?c ?k (fun _ _ _ _ _ _ us hl => match us, hl with | [_], _ => rfl)
      (case a => k_is); (case l => k_is); (case c => k_is); (case k => k_is)
    have D_is_rising : ∃ f fd, L2.Dn (L2.KOf KX) mg "is_rising" "is_rising" K14.s_is_rising ["thing"] f fd := by
      dsimp only [L2.KOf]
      refine' L2.dn_mk KX G ?a ?l ?c ?k (fun _ _ _ _ _ _ us hl => match us, hl with | [_], _ => rfl)
      (case a => k_is); (case l => k_is); (case c => k_is); (case k => k_is)
    have D_need_key : ∃ f fd, L2.Dn (L2.KOf KX) mg "need_key" "need_key" K14.s_need_key ["thing"] f fd := by
      dsimp only [L2.KOf]
      refine' L2.dn_mk KX G ?a ?l ?c ?k (fun _ _ _ _ _ _ us hl => match us, hl with | [_], _ => rfl)
      (case a => k_is); (case l => k_is); (case c => k_is); (case k => k_is)
    have D_are_page_keys : ∃ f fd, L2.Dn (L2.KOf KX) mg "are_page_keys" "are_page_keys" K14.s_are_page_keys ["thing"] f fd := by
      dsimp only [L2.KOf]
      refine' L2.dn_mk KX G ?a ?l ?c ?k (fun _ _ _ _ _ _ us hl => match us, hl with | [_], _ => rfl)
      (case a => k_is); (case l => k_is); (case c => k_is); (case k => k_is)
    have D_are_goods : ∃ f fd, L2.Dn (L2.KOf KX) mg "are_goods" "are_goods" K14.s_are_goods ["thing", "many"] f fd := by
      dsimp only [L2.KOf]
      refine' L2.dn_mk KX G ?a ?l ?c ?k (fun _ _ _ _ _ _ us hl => match us, hl with | [_, _], _ => rfl)
      (case a => k_is); (case l => k_is); (case c => k_is); (case k => k_is)
    have D_are_places : ∃ f fd, L2.Dn (L2.KOf KX) mg "are_places" "are_places" K14.s_are_places ["thing", "many"] f fd := by
      dsimp only [L2.KOf]
      refine' L2.dn_mk KX G ?a ?l ?c ?k (fun _ _ _ _ _ _ us hl => match us, hl with | [_, _], _ => rfl)
      (case a => k_is); (case l => k_is); (case c => k_is); (case k => k_is)
    have D_put_in : ∃ f fd, L2.Dn (L2.KOf KX) mg "put_in" "put_in" K14.s_put_in ["row", "at", "thing"] f fd := by
      dsimp only [L2.KOf]
      refine' L2.dn_mk KX G ?a ?l ?c ?k (fun _ _ _ _ _ _ us hl => match us, hl with | [_, _, _], _ => rfl)
      (case a => k_is); (case l => k_is); (case c => k_is); (case k => k_is)
    have D_left_out : ∃ f fd, L2.Dn (L2.KOf KX) mg "left_out" "left_out" K14.s_left_out ["row", "at"] f fd := by
      dsimp only [L2.KOf]
      refine' L2.dn_mk KX G ?a ?l ?c ?k (fun _ _ _ _ _ _ us hl => match us, hl with | [_, _], _ => rfl)
      (case a => k_is); (case l => k_is); (case c => k_is); (case k => k_is)
    have D__law_cell : ∃ f fd, L2.Dn (L2.KOf KX) mg "_law_cell" "_law_cell" K14.s__law_cell ["_law_script", "_law_k"] f fd := by
      dsimp only [L2.KOf]
      refine' L2.dn_mk KX G ?a ?l ?c ?k (fun _ _ _ _ _ _ us hl => match us, hl with | [_, _], _ => rfl)
      (case a => k_is); (case l => k_is); (case c => k_is); (case k => k_is)
    have D__law_box : ∃ f fd, L2.Dn (L2.KOf KX) mg "_law_box" "_law_box" K14.s__law_box ["_law_cell_here"] f fd := by
      dsimp only [L2.KOf]
      refine' L2.dn_mk KX G ?a ?l ?c ?k (fun _ _ _ _ _ _ us hl => match us, hl with | [_], _ => rfl)
      (case a => k_is); (case l => k_is); (case c => k_is); (case k => k_is)
    have D__law_take : ∃ f fd, L2.Dn (L2.KOf KX) mg "_law_take" "_law_take" K14.s__law_take ["_law_box_here", "_law_many"] f fd := by
      dsimp only [L2.KOf]
      refine' L2.dn_mk KX G ?a ?l ?c ?k (fun _ _ _ _ _ _ us hl => match us, hl with | [_, _], _ => rfl)
      (case a => k_is); (case l => k_is); (case c => k_is); (case k => k_is)
    have D__law_keys : ∃ f fd, L2.Dn (L2.KOf KX) mg "_law_keys" "_law_keys" K14.s__law_keys ["_law_box_here", "_law_many"] f fd := by
      dsimp only [L2.KOf]
      refine' L2.dn_mk KX G ?a ?l ?c ?k (fun _ _ _ _ _ _ us hl => match us, hl with | [_, _], _ => rfl)
      (case a => k_is); (case l => k_is); (case c => k_is); (case k => k_is)
    have D__law_near : ∃ f fd, L2.Dn (L2.KOf KX) mg "_law_near" "_law_near" K14.s__law_near ["_law_keys_here"] f fd := by
      dsimp only [L2.KOf]
      refine' L2.dn_mk KX G ?a ?l ?c ?k (fun _ _ _ _ _ _ us hl => match us, hl with | [_], _ => rfl)
      (case a => k_is); (case l => k_is); (case c => k_is); (case k => k_is)
    have D__law_odd : ∃ f fd, L2.Dn (L2.KOf KX) mg "_law_odd" "_law_odd" K14.s__law_odd ["_law_box_here"] f fd := by
      dsimp only [L2.KOf]
      refine' L2.dn_mk KX G ?a ?l ?c ?k (fun _ _ _ _ _ _ us hl => match us, hl with | [_], _ => rfl)
      (case a => k_is); (case l => k_is); (case c => k_is); (case k => k_is)
    have D__law_places : ∃ f fd, L2.Dn (L2.KOf KX) mg "_law_places" "_law_places" K14.s__law_places ["_law_box_here", "_law_many"] f fd := by
      dsimp only [L2.KOf]
      refine' L2.dn_mk KX G ?a ?l ?c ?k (fun _ _ _ _ _ _ us hl => match us, hl with | [_, _], _ => rfl)
      (case a => k_is); (case l => k_is); (case c => k_is); (case k => k_is)
    have D__law_is_number : ∃ f fd, L2.Dn (L2.KOf KX) mg "_law_is_number" "_law_is_number" K14.s__law_is_number ["_law_thing", "_law_low", "_law_high"] f fd := by
      dsimp only [L2.KOf]
      refine' L2.dn_mk KX G ?a ?l ?c ?k (fun _ _ _ _ _ _ us hl => match us, hl with | [_, _, _], _ => rfl)
      (case a => k_is); (case l => k_is); (case c => k_is); (case k => k_is)
    have D__law_due : ∃ f fd, L2.Dn (L2.KOf KX) mg "_law_due" "_law_due" K14.s__law_due ["_law_rows", "_law_word", "_law_key", "_law_place"] f fd := by
      dsimp only [L2.KOf]
      refine' L2.dn_mk KX G ?a ?l ?c ?k (fun _ _ _ _ _ _ us hl => match us, hl with | [_, _, _, _], _ => rfl)
      (case a => k_is); (case l => k_is); (case c => k_is); (case k => k_is)
    have D__law_told : ∃ f fd, L2.Dn (L2.KOf KX) mg "_law_told" "_law_told" K14.s__law_told ["_law_page", "_law_word", "_law_key", "_law_place"] f fd := by
      dsimp only [L2.KOf]
      refine' L2.dn_mk KX G ?a ?l ?c ?k (fun _ _ _ _ _ _ us hl => match us, hl with | [_, _, _, _], _ => rfl)
      (case a => k_is); (case l => k_is); (case c => k_is); (case k => k_is)
    have D__law_stands : ∃ f fd, L2.Dn (L2.KOf KX) mg "_law_stands" "_law_stands" K14.s__law_stands ["_law_page", "_law_rows"] f fd := by
      dsimp only [L2.KOf]
      refine' L2.dn_mk KX G ?a ?l ?c ?k (fun _ _ _ _ _ _ us hl => match us, hl with | [_, _], _ => rfl)
      (case a => k_is); (case l => k_is); (case c => k_is); (case k => k_is)
    have D__law_led_right : ∃ f fd, L2.Dn (L2.KOf KX) mg "_law_led_right" "_law_led_right" K14.s__law_led_right ["_law_page", "_law_rows"] f fd := by
      dsimp only [L2.KOf]
      refine' L2.dn_mk KX G ?a ?l ?c ?k (fun _ _ _ _ _ _ us hl => match us, hl with | [_, _], _ => rfl)
      (case a => k_is); (case l => k_is); (case c => k_is); (case k => k_is)
    have D__law_page_told : ∃ f fd, L2.Dn (L2.KOf KX) mg "_law_page_told" "_law_page_told" K14.s__law_page_told ["_law_thing"] f fd := by
      dsimp only [L2.KOf]
      refine' L2.dn_mk KX G ?a ?l ?c ?k (fun _ _ _ _ _ _ us hl => match us, hl with | [_], _ => rfl)
      (case a => k_is); (case l => k_is); (case c => k_is); (case k => k_is)
    have D__law_exchanged : ∃ f fd, L2.Dn (L2.KOf KX) mg "_law_exchanged" "_law_exchanged" K14.s__law_exchanged ["_law_keys_here", "_law_places_here"] f fd := by
      dsimp only [L2.KOf]
      refine' L2.dn_mk KX G ?a ?l ?c ?k (fun _ _ _ _ _ _ us hl => match us, hl with | [_, _], _ => rfl)
      (case a => k_is); (case l => k_is); (case c => k_is); (case k => k_is)
    have D__law_same_right : ∃ f fd, L2.Dn (L2.KOf KX) mg "_law_same_right" "_law_same_right" K14.s__law_same_right ["_law_page", "_law_keys_here", "_law_places_here"] f fd := by
      dsimp only [L2.KOf]
      refine' L2.dn_mk KX G ?a ?l ?c ?k (fun _ _ _ _ _ _ us hl => match us, hl with | [_, _, _], _ => rfl)
      (case a => k_is); (case l => k_is); (case c => k_is); (case k => k_is)
    have D__law_asked : ∃ f fd, L2.Dn (L2.KOf KX) mg "_law_asked" "_law_asked" K14.s__law_asked ["_law_page", "_law_way", "_law_key"] f fd := by
      dsimp only [L2.KOf]
      refine' L2.dn_mk KX G ?a ?l ?c ?k (fun _ _ _ _ _ _ us hl => match us, hl with | [_, _, _], _ => rfl)
      (case a => k_is); (case l => k_is); (case c => k_is); (case k => k_is)
    have D__law_changed : ∃ f fd, L2.Dn (L2.KOf KX) mg "_law_changed" "_law_changed" K14.s__law_changed ["_law_rows", "_law_word", "_law_key", "_law_place"] f fd := by
      dsimp only [L2.KOf]
      refine' L2.dn_mk KX G ?a ?l ?c ?k (fun _ _ _ _ _ _ us hl => match us, hl with | [_, _, _, _], _ => rfl)
      (case a => k_is); (case l => k_is); (case c => k_is); (case k => k_is)
    have D__law_deed : ∃ f fd, L2.Dn (L2.KOf KX) mg "_law_deed" "_law_deed" K14.s__law_deed ["_law_box_here", "_law_rows"] f fd := by
      dsimp only [L2.KOf]
      refine' L2.dn_mk KX G ?a ?l ?c ?k (fun _ _ _ _ _ _ us hl => match us, hl with | [_, _], _ => rfl)
      (case a => k_is); (case l => k_is); (case c => k_is); (case k => k_is)
    have D__law_is_due : ∃ f fd, L2.Dn (L2.KOf KX) mg "_law_is_due" "_law_is_due" K14.s__law_is_due ["_law_found", "_law_due_here"] f fd := by
      dsimp only [L2.KOf]
      refine' L2.dn_mk KX G ?a ?l ?c ?k (fun _ _ _ _ _ _ us hl => match us, hl with | [_, _], _ => rfl)
      (case a => k_is); (case l => k_is); (case c => k_is); (case k => k_is)
    have D__law_step : ∃ f fd, L2.Dn (L2.KOf KX) mg "_law_step" "_law_step" K14.s__law_step ["_law_box_here", "_law_page", "_law_rows"] f fd := by
      dsimp only [L2.KOf]
      refine' L2.dn_mk KX G ?a ?l ?c ?k (fun _ _ _ _ _ _ us hl => match us, hl with | [_, _, _], _ => rfl)
      (case a => k_is); (case l => k_is); (case c => k_is); (case k => k_is)
    have D_law : ∃ f fd, L2.Dn (L2.KOf KX) mg "law" "law" K14.s_law ["_law_script"] f fd := by
      dsimp only [L2.KOf]
      refine' L2.dn_mk KX G ?a ?l ?c ?k (fun _ _ _ _ _ _ us hl => match us, hl with | [_], _ => rfl)
      (case a => k_is); (case l => k_is); (case c => k_is); (case k => k_is)
    obtain ⟨fd, hb, hf⟩ := K14.last (P := PySem.Challenge.rw_nolocktree_k14_children.prog) (w := w) T TX ENoKey ENoPage ENoPlace ELacks EHas ETooMany PX LX IX KT Mchild_at Mchild Mbeyond Mseparator Mwith_child Mwithout_child Mis_kin Mmany Msame D_is_number D_is_whole D_is_key D_is_good D_is_place D_is_row D_is_rising D_need_key D_are_page_keys D_are_goods D_are_places D_put_in D_left_out D__law_cell D__law_box D__law_take D__law_keys D__law_near D__law_odd D__law_places D__law_is_number D__law_due D__law_told D__law_stands D__law_led_right D__law_page_told D__law_exchanged D__law_same_right D__law_asked D__law_changed D__law_deed D__law_is_due D__law_step D_law hmg
    exact ⟨fd, hb, fun base _ _ => hf base⟩
