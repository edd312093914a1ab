import PyProof.Rows.All
import Wide.All
import OpenK.AllK
import Wide.FinOn
import Lean
import PyProof.EqAt
import PyProof.EqKinds
import PyProof.TupleCall
import PyProof.ExcInit
import PyProof.ExcClass3
import PyProof.ExcBaseAll.ValueError
import PyProof.ExcAttrAll.ValueError
import PyProof.ReprRoads
import PyProof.ReprReads
import PyProof.ExcRepr
import PyProof.RaisesMany
import PyProof.StationsW
import PyProof.RulesTry
import PyProof.RulesAs
import PyProof.Draws
import PyProof.EnumMake
import PyProof.EnumFor
import PyProof.ReprLen
import PyProof.ConsumeWalk
import PyProof.WalksMore
import PyProof.ListRange
import PyProof.Rows.SetFrom
import PyProof.SetRoads
import PyProof.FactsAll.subtypes_4
import PyProof.CollectStr
import PyProof.DictWalks
import PyProof.Rows.SortWalk
import PyProof.ZipIter
import PyProof.DictList
import PyProof.DictUpdate
import PyProof.MeetsSeq2
import PyProof.AttrMissHeap
import PyProof.TupleIter
import PyProof.FactsAll.zip
import KE.KDictOf
import KE.KEqDict
import PyProof.NsDelKeeps
import PySem.Challenge.RW_nolocktree_k11_leaves_looked_up
set_option Elab.async false
set_option linter.all false
set_option maxRecDepth 100000
namespace L2
open PySem PySem.Spec PyProof.Rows

abbrev Key := Sum Int Str
def keyIs : Key → Value → Bool
  | .inl k, v => Value.isInt k v
  | .inr x, v => Value.isStrOf x v
def keyH (w : World) : Key → Int
  | .inl k => hashInt k
  | .inr x => hashStr w x
theorem keyIs_shape : ∀ {k : Key} {v : Value}, keyIs k v = true → (∃ i t, k = Sum.inl i ∧ v = Value.int i t) ∨ (∃ x t, k = Sum.inr x ∧ v = Value.str x t)
  | .inl i, v, h => by
    obtain ⟨t, e⟩ := Value.isInt_shape (k := i) (v := v) h
    exact .inl ⟨i, t, rfl, e⟩
  | .inr x, v, h => by
    obtain ⟨t, e⟩ := Value.isStrOf_shape (x := x) (v := v) h
    exact .inr ⟨x, t, rfl, e⟩
theorem keyIs_int (i : Int) (t : Tok) : keyIs (.inl i) (.int i t) = true := by simp [keyIs, Value.isInt]
theorem keyIs_str (x : Str) (t : Tok) : keyIs (.inr x) (.str x t) = true := by simp [keyIs, Value.isStrOf]
theorem key_ll (a b : Int) : decide ((Sum.inl a : Key) = Sum.inl b) = (a == b) := by
  by_cases e : a = b
  · subst e; simp
  · have h : ¬ (Sum.inl a : Key) = Sum.inl b := fun q => e (Sum.inl.inj q)
    rw [decide_eq_false h]
    exact (beq_eq_false_iff_ne.mpr e).symm
theorem key_rr (a b : Str) : decide ((Sum.inr a : Key) = Sum.inr b) = decide (a = b) := by
  by_cases e : a = b
  · subst e; simp
  · have h : ¬ (Sum.inr a : Key) = Sum.inr b := fun q => e (Sum.inr.inj q)
    rw [decide_eq_false h, decide_eq_false e]
theorem key_lr (a : Int) (b : Str) : decide ((Sum.inl a : Key) = Sum.inr b) = false := decide_eq_false (fun q => nomatch q)
theorem key_rl (a : Str) (b : Int) : decide ((Sum.inr a : Key) = Sum.inl b) = false := decide_eq_false (fun q => nomatch q)

def mixKind (prog : Program) (w : World) : PySem.KeyKind prog w Key where
  is := keyIs
  hash := keyH w
  inj := fun v a b ha hb => by
    rcases keyIs_shape ha with ⟨i, t, rfl, rfl⟩ | ⟨x, t, rfl, rfl⟩
    · rcases keyIs_shape hb with ⟨j, u, rfl, e⟩ | ⟨y, u, rfl, e⟩
      · injection e with e1 _; rw [e1]
      · exact nomatch e
    · rcases keyIs_shape hb with ⟨j, u, rfl, e⟩ | ⟨y, u, rfl, e⟩
      · exact nomatch e
      · injection e with e1 _; rw [e1]
  byValue := fun k v h => by
    rcases keyIs_shape h with ⟨i, t, rfl, rfl⟩ | ⟨x, t, rfl, rfl⟩ <;> rfl
  pyHash := fun hv h => by
    rcases keyIs_shape hv with ⟨i, t, rfl, rfl⟩ | ⟨x, t, rfl, rfl⟩
    · exact wpAny_pyHash_int h
    · exact wpAny_pyHash_str h
  eqBool := fun hu hv h => by
    rcases keyIs_shape hu with ⟨i, t, rfl, rfl⟩ | ⟨x, t, rfl, rfl⟩
    · rcases keyIs_shape hv with ⟨j, u, rfl, rfl⟩ | ⟨y, u, rfl, rfl⟩
      · rw [key_ll] at h; exact wpAny_eqBool_int h
      · rw [key_lr] at h; exact SeqAt.EqAt.int_str i t y u _ _ _ _ h
    · rcases keyIs_shape hv with ⟨j, u, rfl, rfl⟩ | ⟨y, u, rfl, rfl⟩
      · rw [key_rl] at h; exact SeqAt.EqAt.str_int x t j u _ _ _ _ h
      · rw [key_rr] at h; exact wpAny_eqBool_str h
  «strs» := fun k x t v h => by
    rcases keyIs_shape h with ⟨i, u, rfl, e⟩ | ⟨y, u, rfl, e⟩
    · exact nomatch e
    · injection e with e1 _
      subst e1
      cases v <;> rfl

theorem mixKind_int (prog : Program) (w : World) (i : Int) (t : Tok) : (mixKind prog w).is (.inl i) (.int i t) = true := keyIs_int i t
theorem mixKind_str (prog : Program) (w : World) (x : Str) (t : Tok) : (mixKind prog w).is (.inr x) (.str x t) = true := keyIs_str x t
end L2

namespace L2
open PySem PySem.Spec PyProof.Rows

inductive V where
  | non | bl (b : Bool) | int (i : Int) | str (x : Str) | byt (b : Array UInt8) | flt (b : UInt64) | ref (a : Addr) | ty (n : String)
  deriving DecidableEq

def RelV : V → Value → Prop
  | .non, u => u = Value.none
  | .bl b, u => u = Value.bool b
  | .int i, u => ∃ t, u = Value.int i t
  | .str x, u => ∃ t, u = Value.str x t
  | .byt b, u => ∃ t, u = Value.bytes b t
  | .flt b, u => ∃ t, u = Value.float b t
  | .ref a, u => u = Value.ref a
  | .ty n, u => u = Value.type n

abbrev Vals : List V → List Value → Prop := Paired RelV
theorem Vals.length {xs : List V} {us : List Value} (r : Vals xs us) : xs.length = us.length := Paired.length r
theorem Vals.get : ∀ {xs : List V} {us : List Value} {i : Nat} {x : V}, Vals xs us → xs[i]? = some x → ∃ u, us[i]? = some u ∧ RelV x u
  | _, _, _, _, .nil, e => by simp at e
  | _, _, 0, _, .cons r _, e => by simp at e; subst e; exact ⟨_, rfl, r⟩
  | _, _, i + 1, x, .cons _ t, e => by
    obtain ⟨u, h1, h2⟩ := Vals.get (i := i) (x := x) t (by simpa using e)
    exact ⟨u, by simpa using h1, h2⟩
theorem Vals.set {x : V} {u : Value} (r : RelV x u) : ∀ {xs : List V} {us : List Value} (i : Nat), Vals xs us → Vals (xs.set i x) (us.set i u)
  | _, _, _, .nil => .nil
  | _, _, 0, .cons _ t => .cons r t
  | _, _, i + 1, .cons q t => .cons q (Vals.set r i t)
theorem Vals.append : ∀ {xs ys : List V} {us ws : List Value}, Vals xs us → Vals ys ws → Vals (xs ++ ys) (us ++ ws)
  | _, _, _, _, .nil, s => s
  | _, _, _, _, .cons r t, s => .cons r (Vals.append t s)
theorem Vals.take : ∀ {xs : List V} {us : List Value} (n : Nat), Vals xs us → Vals (xs.take n) (us.take n)
  | _, _, 0, _ => .nil
  | _, _, _ + 1, .nil => .nil
  | _, _, n + 1, .cons r t => .cons r (Vals.take n t)
theorem Vals.drop : ∀ {xs : List V} {us : List Value} (n : Nat), Vals xs us → Vals (xs.drop n) (us.drop n)
  | _, _, 0, r => r
  | _, _, _ + 1, .nil => .nil
  | _, _, n + 1, .cons _ t => Vals.drop n t
theorem Vals.none_of : ∀ {xs : List V} {us : List Value} {i : Nat}, Vals xs us → xs[i]? = none → us[i]? = none := fun {xs us i} r e => by
  have h1 := r.length
  have h2 : xs.length ≤ i := List.getElem?_eq_none_iff.mp e
  exact List.getElem?_eq_none_iff.mpr (by omega)

def RelO : Option V → Option Value → Prop
  | some v, some u => RelV v u
  | none, none => True
  | _, _ => False
def KV {κ : Type} : List (κ × V) → List (κ × Value) → Prop := Paired fun (p : κ × V) (q : κ × Value) => p.1 = q.1 ∧ RelV p.2 q.2

def kV : Key → V
  | .inl i => .int i
  | .inr x => .str x

inductive HO where
  /-- a list -/
  | lst (xs : List V)
  /-- a tuple (never changes) -/
  | tup (xs : List V)
  /-- a dict whose keys are ints and texts; one whose keys are tuples of ints and texts (the empty one is both) -/
  | dK (kvs : List (Key × V)) | dT (kvs : List (List Key × V))
  /-- a set of ints: its members, its size -/
  | set (S : Int → Bool) (n : Nat)
  /-- an instance of the class at C, its dict at dx, its attributes -/
  | ins (C dx : Addr) (fs : List (Str × V))
  /-- the dict of the instance at x -/
  | own (x : Addr)
  /-- the dict of an exception -/
  | xd (fs : List (Str × V))
  /-- a bound method, f of x -/
  | met (f x : Addr)
  /-- a range object lo, lo + 1, .. below hi -/
  | rng (lo hi : Int)
  /-- a thing that is known to the object (the script; a dict while a loop walks it): read, never written while it is so -/
  | frz (o : Obj) (u : HO)
  /-- a code object's table -/
  | tbl (ps : Array Value)
  /-- any other thing, by what is true of its one object (a def of one's own: SetO a S n := HO.ext fun h => ..) -/
  | ext (φ : Heap → Prop)

abbrev Hp := Addr → Option HO
def upd (H : Hp) (a : Addr) (o : HO) : Hp := fun b => if b = a then some o else H b
theorem upd_same {H : Hp} {a : Addr} {o : HO} : upd H a o a = some o := by unfold upd; rw [if_pos rfl]
theorem upd_ne {H : Hp} {a b : Addr} {o : HO} (h : b ≠ a) : upd H a o b = H b := by unfold upd; rw [if_neg h]
theorem ne_of {H : Hp} {a b : Addr} {o u : HO} (h : H a = some o) (h' : H b = some u) (d : o ≠ u) : a ≠ b := by
  intro e; subst e; rw [h] at h'; exact d (Option.some.inj h')
theorem ne_of_none {H : Hp} {a b : Addr} {o : HO} (h : H a = some o) (h' : H b = none) : a ≠ b := by
  intro e; subst e; rw [h] at h'; cases h'

theorem tup_nodict {h : Heap} {xs : Array Value} : ∀ o, (h.push { cls := .type "tuple", data := .seq xs }).get? h.objs.size = some o → o.dict = none := fun o e => by
  rw [Heap.get?_push_size _ rfl] at e
  cases e
  rfl
section
variable (P : Program) (w : World)
def ObjOk (H : Hp) (h : Heap) (a : Addr) : HO → Prop
  | .lst xs => xs.length ≤ sizeLine ∧ ∃ (its : List Value) (n : Nat), Vals xs its ∧ h.get? a = some { cls := .type "list", data := .seq its.toArray n }
  | .tup xs => xs.length ≤ sizeLine ∧ ∃ its : List Value, Vals xs its ∧ IsTup h a its.toArray ∧ ∀ o, h.get? a = some o → o.dict = none
  | .dK kvs => kvs.length ≤ sizeLine ∧ (a == sysModules) = false ∧ ∃ vs, KV kvs vs ∧ h.DictOf (mixKind P w) a vs
  | .dT kvs => kvs.length ≤ sizeLine ∧ (a == sysModules) = false ∧ ∃ xs : List (List Key × Addr × Value),
      Paired (fun (p : List Key × V) (q : List Key × Addr × Value) => p.1 = q.1 ∧ H q.2.1 = some (.tup (p.1.map kV)) ∧ RelV p.2 q.2.2) kvs xs ∧
      ∃ o es ep, h.get? a = some o ∧ o.ExactDict ∧ o.data = .dict es ep ∧ es.toList = xs.map (entryOfKey (tupleKind (mixKind P w))) ∧ (xs.map (·.1)).Nodup
  | .set S n => h.SetOf (intKind P w) a S n
  | .ins C dx fs => H dx = some (.own a) ∧ fs.length ≤ 1000 ∧ dx ≠ a ∧ h.get? a = some (PySem.W.instObj C dx) ∧
      ∃ mA, h.Ns1 dx mA ∧ (∀ f, RelO (fs.lookup f) (mA f)) ∧ PySem.Within mA (fs.map (·.1))
  | .own _ => ∃ o, h.get? a = some o
  | .xd fs => ∃ mA, h.Ns1 a mA ∧ ∀ f, RelO (fs.lookup f) (mA f)
  | .rng lo hi => ∃ t u v, h.get? a = some { cls := .type "range", data := .fields #[.int lo t, .int hi u, .int 1 v] }
  | .frz o u => h.get? a = some o ∧ ObjOk H h a u
  | .tbl ps => h.get? a = some { cls := .none, data := .fields ps }
  | .met f x => h.get? a = some (PySem.W.methodObj (.ref f) (.ref x))
  | .ext φ => φ h ∧ (∃ o, h.get? a = some o) ∧ ∀ h1 h2 : Heap, φ h1 → (∀ o, h1.get? a = some o → h2.get? a = some o) → φ h2
def HOk (H : Hp) (h : Heap) : Prop := ∀ a o, H a = some o → ObjOk P w H h a o
end

section
variable {P : Program} {w : World} {H H' : Hp} {h h' : Heap} {a : Addr} {o : HO}
theorem ObjOk.lt (x : ObjOk P w H h a o) : a < h.objs.size := by
  cases o with
  | lst xs => obtain ⟨_, _, _, _, e⟩ := x; exact Heap.lt_size e
  | tup xs => obtain ⟨_, _, _, p, _⟩ := x; exact p.lt
  | dK kvs => obtain ⟨_, _, _, _, o, _, _, e, _⟩ := x; exact Heap.lt_size e
  | dT kvs => obtain ⟨_, _, _, _, o, _, _, e, _⟩ := x; exact Heap.lt_size e
  | set S n => obtain ⟨o, _, _, _, e, _⟩ := x; exact Heap.lt_size e
  | ins C dx fs => obtain ⟨_, _, _, e, _⟩ := x; exact Heap.lt_size e
  | own y => obtain ⟨_, e⟩ := x; exact Heap.lt_size e
  | xd fs => obtain ⟨_, ⟨_, _, _, e, _⟩, _⟩ := x; exact Heap.lt_size e
  | rng lo hi => obtain ⟨_, _, _, e⟩ := x; exact Heap.lt_size e
  | frz ob u => obtain ⟨e, _⟩ := x; exact Heap.lt_size e
  | tbl ps => exact Heap.lt_size (show h.get? a = some _ from x)
  | met f y => exact Heap.lt_size (show h.get? a = some _ from x)
  | ext φ => obtain ⟨_, ⟨_, e⟩, _⟩ := x; exact Heap.lt_size e
theorem Paired.mapP {α β : Type} {F G : α → β → Prop} : ∀ {l₁ : List α} {l₂ : List β}, Paired F l₁ l₂ → (∀ a b, F a b → G a b) → Paired G l₁ l₂
  | _, _, .nil, _ => .nil
  | _, _, .cons r t, f => .cons (f _ _ r) (Paired.mapP t f)
theorem ObjOk.stay (x : ObjOk P w H h a o) (k : ∀ b u, (b = a ∨ H b = some (.own a)) → h.get? b = some u → h'.get? b = some u)
    (ho : ∀ b, H b = some (.own a) → H' b = some (.own a)) (ht : ∀ b xs, H b = some (.tup xs) → H' b = some (.tup xs)) : ObjOk P w H' h' a o := by
  induction o with
  | lst xs => obtain ⟨z, its, n, r, e⟩ := x; exact ⟨z, its, n, r, k _ _ (.inl rfl) e⟩
  | tup xs =>
    obtain ⟨z, its, r, ⟨ob, e, c⟩, dn⟩ := x
    have e2 := k _ _ (.inl rfl) e
    exact ⟨z, its, r, ⟨ob, e2, c⟩, fun o q => by rw [e2] at q; cases q; exact dn _ e⟩
  | dK kvs => obtain ⟨z, y, vs, r, ob, es, ep, e, c⟩ := x; exact ⟨z, y, vs, r, ob, es, ep, k _ _ (.inl rfl) e, c⟩
  | dT kvs =>
    obtain ⟨z, y, xs, r, ob, es, ep, e, c⟩ := x
    exact ⟨z, y, xs, Paired.mapP r fun p q z => ⟨z.1, ht _ _ z.2.1, z.2.2⟩, ob, es, ep, k _ _ (.inl rfl) e, c⟩
  | set S n => obtain ⟨ob, es, ep, t, e, c⟩ := x; exact ⟨ob, es, ep, t, k _ _ (.inl rfl) e, c⟩
  | ins C dx fs =>
    obtain ⟨d, z, ne, e, mA, ⟨od, es, ep, e2, c⟩, r⟩ := x
    exact ⟨ho _ d, z, ne, k _ _ (.inl rfl) e, mA, ⟨od, es, ep, k _ _ (.inr d) e2, c⟩, r⟩
  | own y => obtain ⟨ob, e⟩ := x; exact ⟨ob, k _ _ (.inl rfl) e⟩
  | xd fs => obtain ⟨mA, ⟨od, es, ep, e, c⟩, r⟩ := x; exact ⟨mA, ⟨od, es, ep, k _ _ (.inl rfl) e, c⟩, r⟩
  | rng lo hi => obtain ⟨t, u, v, e⟩ := x; exact ⟨t, u, v, k _ _ (.inl rfl) e⟩
  | frz ob u ih => obtain ⟨e, q⟩ := x; exact ⟨k _ _ (.inl rfl) e, ih q⟩
  | tbl ps =>
    have e : h.get? a = some { cls := .none, data := .fields ps } := x
    show h'.get? a = some { cls := .none, data := .fields ps }
    exact k a _ (.inl rfl) e
  | met f y =>
    have e : h.get? a = some (PySem.W.methodObj (.ref f) (.ref y)) := x
    show h'.get? a = some (PySem.W.methodObj (.ref f) (.ref y))
    exact k a _ (.inl rfl) e
  | ext φ => obtain ⟨p, ⟨o, e⟩, st⟩ := x; exact ⟨st _ _ p fun o q => k _ _ (.inl rfl) q, ⟨o, k _ _ (.inl rfl) e⟩, st⟩
theorem HOk.lt (x : HOk P w H h) (e : H a = some o) : a < h.objs.size := (x a o e).lt
theorem HOk.fresh (x : HOk P w H h) (e : h.objs.size ≤ a) : H a = none := by
  cases q : H a with
  | none => rfl
  | some u => exact absurd (Nat.lt_of_lt_of_le (x.lt q) e) (Nat.lt_irrefl _)
theorem HOk.kept (x : HOk P w H h) (k : ∀ b u, h.get? b = some u → h'.get? b = some u) : HOk P w H h' := fun a o e =>
  (x a o e).stay (fun b u _ q => k b u q) (fun _ q => q) fun _ _ q => q
theorem HOk.laid (x : HOk P w H h) (k : ∀ b u, h.get? b = some u → h'.get? b = some u) (hp : h.objs.size ≤ a) (new : ObjOk P w (upd H a o) h' a o) : HOk P w (upd H a o) h' := fun b u e => by
  have hn := x.fresh hp
  by_cases hb : b = a
  · subst hb; rw [upd_same] at e; cases e; exact new
  · rw [upd_ne hb] at e
    exact (x b u e).stay (fun c v _ q => k c v q) (fun c q => by rw [upd_ne (ne_of_none q hn)]; exact q) fun c xs q => by rw [upd_ne (ne_of_none q hn)]; exact q
end

def Rd (H : Hp) (a : Addr) (u : HO) : Prop := H a = some u ∨ ∃ o, H a = some (.frz o u)
theorem Rd.of {H : Hp} {a : Addr} {u : HO} (h : H a = some u) : Rd H a u := .inl h
theorem Rd.ok {P : Program} {w : World} {H : Hp} {h : Heap} {a : Addr} {u : HO} (r : Rd H a u) (x : HOk P w H h) : ObjOk P w H h a u := by
  rcases r with r | ⟨o, r⟩
  · exact x a u r
  · obtain ⟨_, q⟩ := x a _ r
    exact q
def Mut : Option HO → Prop
  | some (.lst _) => True
  | some (.dK _) => True
  | some (.dT _) => True
  | some (.set _ _) => True
  | some (.ins _ _ _) => True
  | some (.ext _) => True
  | _ => False
section
variable {P : Program} {w : World} {H : Hp} {h h' : Heap} {x e : Addr} {o' : HO}
theorem HOk.write (ok : HOk P w H h) (mu : Mut (H x)) (he : e = x ∨ H e = some (.own x)) (k : ∀ b u, b ≠ e → h.get? b = some u → h'.get? b = some u) (heo : ∃ u, h'.get? e = some u)
    (new : ObjOk P w (upd H x o') h' x o') : HOk P w (upd H x o') h' := fun b u q => by
  have nown : ∀ c y, H c = some (.own y) → c ≠ x := fun c y r z => by subst z; rw [r] at mu; exact mu
  have ntup : ∀ c xs, H c = some (.tup xs) → c ≠ x := fun c xs r z => by subst z; rw [r] at mu; exact mu
  by_cases hb : b = x
  · subst hb; rw [upd_same] at q; cases q; exact new
  · rw [upd_ne hb] at q
    by_cases hbe : b = e
    · have q' : H b = some (.own x) := by
        rcases he with z | z
        · exact absurd (hbe.trans z) hb
        · rw [hbe]; exact z
      rw [q] at q'; cases q'
      obtain ⟨v, hv⟩ := heo
      exact ⟨v, by rw [hbe]; exact hv⟩
    · refine (ok b u q).stay (fun c v hc r => k c v ?_ r) (fun c r => by rw [upd_ne (nown c b r)]; exact r) fun c xs r => by rw [upd_ne (ntup c xs r)]; exact r
      rcases hc with rfl | hc
      · exact hbe
      · rintro rfl
        rcases he with z | z
        · exact nown c b hc z
        · rw [hc] at z; cases z; exact hb rfl
end

structure Un (fs ex : List Addr) (H H' : Hp) (h h' : Heap) : Prop where
  keep : ∀ b o, h.get? b = some o → H b = none → b ∉ fs → b ∉ ex → h'.get? b = some o
  slot : ∀ b o, h.get? b = some o → H b = none → b ∈ fs → b ∉ ex → ∃ sl, h'.get? b = some { o with slots := sl }
  free : ∀ b o, h.get? b = some o → H b = none → b ∉ ex → H' b = none
  there : ∀ b o, h.get? b = some o → b ∉ ex → ∃ o', h'.get? b = some o'
  tups : ∀ b xs, H b = some (.tup xs) → H' b = some (.tup xs)
  frzs : ∀ b o u, H b = some (.frz o u) → H' b = some (.frz o u)
  tbls : ∀ b ps, H b = some (.tbl ps) → ∃ more, H' b = some (.tbl (ps ++ more))
section
variable {fs fs' ex ex' : List Addr} {H H1 H2 : Hp} {h h1 h2 h' : Heap} {a x e : Addr} {o : HO}
theorem Un.any (u : Un fs ex H H1 h h1) {b : Addr} {ob : Obj} (q : h.get? b = some ob) (n : H b = none) (hx : b ∉ ex) : ∃ sl, h1.get? b = some { ob with slots := sl } := by
  by_cases hb : b ∈ fs
  · exact u.slot b ob q n hb hx
  · exact ⟨ob.slots, u.keep b ob q n hb hx⟩
theorem Un.trans (a : Un fs ex H H1 h h1) (b : Un fs ex H1 H2 h1 h2) : Un fs ex H H2 h h2 where
  keep := fun c ob q n hc hx => b.keep c ob (a.keep c ob q n hc hx) (a.free c ob q n hx) hc hx
  slot := fun c ob q n hc hx => by
    obtain ⟨sl, e1⟩ := a.slot c ob q n hc hx
    obtain ⟨sl', e2⟩ := b.slot c _ e1 (a.free c ob q n hx) hc hx
    exact ⟨sl', e2⟩
  free := fun c ob q n hx => by
    obtain ⟨o', e1⟩ := a.there c ob q hx
    exact b.free c o' e1 (a.free c ob q n hx) hx
  there := fun c ob q hx => by
    obtain ⟨o', e1⟩ := a.there c ob q hx
    exact b.there c o' e1 hx
  tups := fun c xs q => b.tups c xs (a.tups c xs q)
  frzs := fun c ob xs q => b.frzs c ob xs (a.frzs c ob xs q)
  tbls := fun c ps q => by
    obtain ⟨m1, e1⟩ := a.tbls c ps q
    obtain ⟨m2, e2⟩ := b.tbls c _ e1
    exact ⟨m1 ++ m2, by rw [e2, Array.append_assoc]⟩
theorem Un.kept (k : ∀ b u, h.get? b = some u → h'.get? b = some u) : Un fs ex H H h h' :=
  ⟨fun b ob q _ _ _ => k b ob q, fun b ob q _ _ _ => ⟨ob.slots, k b ob q⟩, fun _ _ _ n _ => n, fun b ob q _ => ⟨ob, k b ob q⟩, fun _ _ q => q, fun _ _ _ q => q, fun _ ps q => ⟨#[], by rw [q]; simp⟩⟩
theorem Un.refl : Un fs ex H H h h := Un.kept fun _ _ q => q
theorem Un.laid (k : ∀ b u, h.get? b = some u → h'.get? b = some u) (hp : h.objs.size ≤ a) (hn : H a = none) : Un fs ex H (upd H a o) h h' where
  keep := fun b u q _ _ _ => k b u q
  slot := fun b u q _ _ _ => ⟨u.slots, k b u q⟩
  free := fun b u q n _ => by rw [upd_ne (Nat.ne_of_lt (Nat.lt_of_lt_of_le (Heap.lt_size q) hp))]; exact n
  there := fun b u q _ => ⟨u, k b u q⟩
  tups := fun b xs q => by rw [upd_ne (ne_of_none q hn)]; exact q
  frzs := fun b u xs q => by rw [upd_ne (ne_of_none q hn)]; exact q
  tbls := fun b ps q => ⟨#[], by rw [upd_ne (ne_of_none q hn), q]; simp⟩
theorem Un.write (mu : Mut (H x)) (he : e = x ∨ H e = some (.own x)) (k : ∀ b u, b ≠ e → h.get? b = some u → h'.get? b = some u) (heo : ∃ u, h'.get? e = some u) : Un fs ex H (upd H x o) h h' := by
  have hx : ∀ b, H b = none → b ≠ x := fun b n z => by subst z; rw [n] at mu; exact mu
  have hb : ∀ b, H b = none → b ≠ e := fun b n z => by
    subst z
    rcases he with r | r
    · exact hx b n r
    · rw [n] at r; cases r
  have hm : ∀ b u, H b = some u → ¬ Mut (some u) → b ≠ x := fun b u q nm z => by subst z; rw [q] at mu; exact nm mu
  refine ⟨fun b u q n _ _ => k b u (hb b n) q, fun b u q n _ _ => ⟨u.slots, k b u (hb b n) q⟩, fun b u q n _ => by rw [upd_ne (hx b n)]; exact n, fun b u q _ => ?_,
    fun b xs q => by rw [upd_ne (hm b _ q fun z => z)]; exact q, fun b u xs q => by rw [upd_ne (hm b _ q fun z => z)]; exact q, fun b ps q => ⟨#[], by rw [upd_ne (hm b _ q fun z => z), q]; simp⟩⟩
  by_cases hbe : b = e
  · subst hbe; exact heo
  · exact ⟨u, k b u hbe q⟩
theorem Un.mono (u : Un fs ex H H1 h h1) (hs : ∀ b ∈ fs, b ∈ fs') (hx : ∀ b ∈ ex, b ∈ ex') : Un fs' ex' H H1 h h1 :=
  ⟨fun b ob q n hb he => u.keep b ob q n (fun z => hb (hs b z)) fun z => he (hx b z), fun _ _ q n _ he => u.any q n fun z => he (hx _ z), fun b ob q n he => u.free b ob q n fun z => he (hx b z), fun b ob q he => u.there b ob q fun z => he (hx b z), u.tups, u.frzs, u.tbls⟩
end

def trk (h : Heap) (H : Hp) : List Addr := (List.range h.objs.size).filter fun a => (H a).isSome
def hidT (h : Heap) (H : Hp) : Heap := PySem.W.hideAll h (trk h H)
theorem hidT_size (h : Heap) (H : Hp) : (hidT h H).objs.size = h.objs.size := PySem.W.hideAll_size _ _
theorem hidT_get {h : Heap} {H : Hp} {b : Addr} {o : Obj} (e : h.get? b = some o) (n : H b = none) : (hidT h H).get? b = some o :=
  PySem.W.hideAll_get _ e fun hm => by
    have q : (H b).isSome = true := (List.mem_filter.mp hm).2
    rw [n] at q; simp at q
theorem of_hidT {h : Heap} {H : Hp} {b : Addr} {o : Obj} (e : (hidT h H).get? b = some o) : h.get? b = some o ∧ H b = none := by
  have e' : h.get? b = some o := PySem.W.of_hideAll (trk h H) e
  refine ⟨e', ?_⟩
  cases q : H b with
  | none => rfl
  | some x =>
    have hm : b ∈ trk h H := List.mem_filter.mpr ⟨List.mem_range.mpr (Heap.lt_size e'), by simp [q]⟩
    have z : (hidT h H).get? b = none := PySem.W.hideAll_none (trk h H) hm
    rw [z] at e; cases e

def allNews (g h : Heap) (L : Addr) : List (Addr × Obj) := (List.range h.objs.size).filterMap fun a => if a = L ∨ (g.get? a).isSome = true then none else (h.get? a).map fun o => (a, o)
def rest (g h : Heap) (L d : Addr) : List (Addr × Obj) := (allNews g h L).filter fun p => decide (p.1 ≠ d)
end L2

namespace L2
open PySem PySem.Spec PyProof.Rows

structure Mod (K : PySem.W.Frag) (mg : Str → Option Value) (base : Heap) : Prop where
  kin : K.In base
  glob : base.Ns mainGlobals mg
  blt : ∃ mb, base.Ns builtinsNs mb ∧ ∀ x : Str, x ≠ "__name__" → mb x = bootBuiltins x
  nolimit : base.NoLimit

structure Cx where
  prog : Program
  w : World
  K : PySem.W.Frag
  mg : Str → Option Value
  base : Heap
  A : Around
  N : List Str
  s₀ : Shared
  H₀ : Hp
  env : Env
  outer : List Env
  stack : List Env
  ex : List Addr
  fn : Str → Bool
  calm : Bool
  pn : List (Addr × Obj)
  xe : Value → Shared → Prop
def frs (l : List Env) : List Addr := l.filterMap (·.frame)
abbrev Cx.fs (X : Cx) : List Addr := frs X.outer

def Vis (sc : Scope) (x : Str) : Prop := sc.names.lookup x = some .local ∨ sc.names.lookup x = some .cell ∨ sc.names.lookup x = some .free
def Loc (sc : Scope) (x : Str) : Prop := sc.names.lookup x = some .local ∨ sc.names.lookup x = some .cell
def Look (env : Env) (h : Heap) (m : Str → Option Value) (x : Str) (u : Value) : Prop :=
  (env.kindOf x = some .local ∧ m x = some u) ∨ ((env.kindOf x = some .cell ∨ env.kindOf x = some .free) ∧ ∃ c, env.cells.lookup x = some c ∧ h.IsCell c (some u))

structure Cx.Ok (X : Cx) : Prop where
  mod : Mod X.K X.mg X.base
  kind : X.env.scope.kind = .function
  glob : X.env.globals = mainGlobals
  blt : X.env.builtins = builtinsNs
  above : X.s₀.heap.objs.size ≤ X.env.locals
  inj : ∀ x y c, X.env.cells.lookup x = some c → X.env.cells.lookup y = some c → x = y
  has : ∀ x, (X.env.kindOf x = some .cell ∨ X.env.kindOf x = some .free) → ∃ c, X.env.cells.lookup x = some c
  cab : ∀ x c, X.fn x = true → X.env.cells.lookup x = some c → X.s₀.heap.objs.size ≤ c
  hd : X.calm = true → X.A.handled = none
  frames : X.A.frames = some X.stack
  stk : X.stack = X.outer ∨ (X.stack = X.env :: X.outer ∧ X.env.frame = some X.env.locals)
  exf : ∀ b ∈ X.ex, b ≠ X.env.locals ∧ ∀ x c, X.env.cells.lookup x = some c → c ≠ b
  bs : ∀ b o, X.base.get? b = some o → X.s₀.heap.get? b = some o ∧ X.H₀ b = none
  bsz : X.base.objs.size ≤ X.s₀.heap.objs.size
  noex : ∀ b o, X.base.get? b = some o → b ∉ X.ex
  exfs : ∀ b ∈ X.ex, b ∉ X.fs
  funs : X.s₀.heap.FunFrames X.base X.outer
  frf : ∀ b ∈ X.fs, X.H₀ b = none

structure Inv (X : Cx) (pins : List (Addr × Obj)) (σ : List (Option V)) (H : Hp) (s : Shared) : Prop where
  ok : X.Ok
  os : s.os = X.s₀.os
  bare : AllBare s.gens
  base : Un X.fs X.ex X.H₀ H X.s₀.heap s.heap
  loc : ∃ m, s.heap.Ns X.env.locals m ∧ ∀ (i : Nat) (x : Str) (v : V), X.N[i]? = some x → σ[i]? = some (some v) → Vis X.env.scope x → ∃ u, RelV v u ∧ Look X.env s.heap m x u
  cell : ∀ x c, X.env.cells.lookup x = some c → ∃ v, s.heap.IsCell c v
  free : H X.env.locals = none
  freeC : ∀ x c, X.env.cells.lookup x = some c → H c = none
  pin : ∀ p ∈ X.pn ++ pins, s.heap.get? p.1 = some p.2 ∧ H p.1 = none ∧ p.1 ≠ X.env.locals ∧ p.1 ∉ X.fs ∧ ∀ v, p.2.data ≠ .cell v
  hok : HOk X.prog X.w H s.heap
  len : σ.length = X.N.length

section
variable {X : Cx} {pins : List (Addr × Obj)} {σ : List (Option V)} {H H' : Hp} {s : Shared} {h' : Heap}

theorem Cx.Ok.nofr (ok : X.Ok) {b : Addr} {o : Obj} (e : X.base.get? b = some o) : b ∉ X.fs := fun hb => by
  have := (ok.funs.mem hb).1
  rw [e] at this; cases this
theorem Inv.bs (I : Inv X pins σ H s) : ∀ b o, X.base.get? b = some o → s.heap.get? b = some o ∧ H b = none := fun b o e =>
  ⟨I.base.keep b o (I.ok.bs b o e).1 (I.ok.bs b o e).2 (I.ok.nofr e) (I.ok.noex b o e), I.base.free b o (I.ok.bs b o e).1 (I.ok.bs b o e).2 (I.ok.noex b o e)⟩
theorem Inv.bk (I : Inv X pins σ H s) : ∀ b o, X.base.get? b = some o → s.heap.get? b = some o := fun b o e => (I.bs b o e).1
theorem Inv.mod (I : Inv X pins σ H s) : Mod X.K X.mg X.base := I.ok.mod
theorem Inv.kIn (I : Inv X pins σ H s) : X.K.In s.heap := I.ok.mod.kin.keeps I.bk
theorem Inv.nolimit (I : Inv X pins σ H s) : s.heap.NoLimit := I.ok.mod.nolimit.keeps I.bk
theorem Inv.fr (I : Inv X pins σ H s) : ∃ m, Fr X.base X.env.locals s.heap m :=
  let ⟨m, hn, _⟩ := I.loc
  ⟨m, hn, I.bk, Nat.le_trans I.ok.bsz I.ok.above⟩
theorem Inv.lt (I : Inv X pins σ H s) : X.env.locals < s.heap.objs.size := let ⟨_, hn, _⟩ := I.loc; hn.lt
theorem Inv.sz (I : Inv X pins σ H s) : X.s₀.heap.objs.size ≤ s.heap.objs.size := Nat.le_trans I.ok.above (Nat.le_of_lt I.lt)
theorem Inv.nofs (I : Inv X pins σ H s) {a : Addr} (h : s.heap.objs.size ≤ a) : a ∉ X.fs := fun hb => by
  obtain ⟨_, o, ho, _⟩ := I.ok.funs.mem hb
  exact absurd (Nat.lt_of_lt_of_le (Heap.lt_size ho) (Nat.le_trans I.sz h)) (Nat.lt_irrefl _)
theorem Inv.cne (I : Inv X pins σ H s) : ∀ x c, X.env.cells.lookup x = some c → c ≠ X.env.locals := fun x c e z => by
  obtain ⟨v, o, ho, hd⟩ := I.cell x c e
  obtain ⟨m, ⟨o', es, ep, ho', hd', _⟩, _⟩ := I.loc
  rw [z, ho'] at ho; cases ho; rw [hd'] at hd; cases hd
theorem Inv.funs (I : Inv X pins σ H s) : s.heap.FunFrames X.base X.outer := by
  have all : ∀ (l : List Env), (∀ b ∈ frs l, b ∈ X.fs) → X.s₀.heap.FunFrames X.base l → s.heap.FunFrames X.base l := by
    intro l
    induction l with
    | nil => intro _ _; trivial
    | cons env r ih =>
      intro hs hl
      obtain ⟨hk, ⟨L, o, hf, hn, ho, hd⟩, hr⟩ := hl
      have hL : L ∈ X.fs := hs L (by unfold frs; rw [List.filterMap_cons, hf]; exact List.mem_cons_self)
      obtain ⟨sl, e⟩ := I.base.slot L o ho (I.ok.frf L hL) hL fun z => I.ok.exfs L z hL
      exact ⟨hk, ⟨L, _, hf, hn, e, hd⟩, ih (fun b hb => hs b (by unfold frs; rw [List.filterMap_cons, hf]; exact List.mem_cons_of_mem _ hb)) hr⟩
  exact all X.outer (fun _ hb => hb) I.ok.funs

theorem Inv.stack (I : Inv X pins σ H s) : s.heap.FunFrames X.base X.stack := by
  rcases I.ok.stk with e | ⟨e, hf⟩
  · rw [e]; exact I.funs
  · rw [e]
    obtain ⟨m, hn, _⟩ := I.loc
    refine .cons (by rw [I.ok.kind]; decide) hf hn ?_ I.funs
    exact Heap.get?_none_of_le (Nat.le_trans I.ok.bsz I.ok.above)
theorem Inv.stkSub (I : Inv X pins σ H s) : ∀ b ∈ frs X.stack, b ∈ X.env.locals :: X.fs := fun b hb => by
  rcases I.ok.stk with e | ⟨e, hf⟩
  · rw [e] at hb; exact List.mem_cons_of_mem _ hb
  · rw [e] at hb
    unfold frs at hb
    rw [List.filterMap_cons, hf] at hb
    exact hb
theorem Inv.stkFree (I : Inv X pins σ H s) : ∀ b ∈ frs X.stack, H b = none := fun b hb => by
  rcases List.mem_cons.mp (I.stkSub b hb) with e | hb
  · rw [e]; exact I.free
  · obtain ⟨_, o, ho, _⟩ := I.ok.funs.mem hb
    exact I.base.free b o ho (I.ok.frf b hb) fun z => I.ok.exfs b z hb

theorem Inv.step {g' : Array GenState} {t' : Nat} {d' : Drawn} {ch : List Addr} (I : Inv X pins σ H s)
    (hch : ∀ b ∈ ch, (b ∈ X.ex ∨ X.s₀.heap.objs.size ≤ b) ∧ b ≠ X.env.locals ∧ (∀ x c, X.env.cells.lookup x = some c → c ≠ b) ∧ ∀ p ∈ X.pn ++ pins, p.1 ≠ b)
    (keep : ∀ b o, b ≠ X.env.locals → b ∉ X.fs → b ∉ ch → s.heap.get? b = some o → H b = none → h'.get? b = some o)
    (slot : ∀ b o, b ≠ X.env.locals → b ∈ X.fs → b ∉ ch → s.heap.get? b = some o → H b = none → ∃ sl, h'.get? b = some { o with slots := sl }) (free : ∀ b o, b ∉ ch → s.heap.get? b = some o → H b = none → H' b = none)
    (there : ∀ b o, b ∉ ch → s.heap.get? b = some o → ∃ o', h'.get? b = some o')
    (tups : ∀ b xs, H b = some (.tup xs) → H' b = some (.tup xs)) (frzs : ∀ b o u, H b = some (.frz o u) → H' b = some (.frz o u)) (tbls : ∀ b ps, H b = some (.tbl ps) → ∃ more, H' b = some (.tbl (ps ++ more)))
    (ns : ∀ m, s.heap.Ns X.env.locals m → h'.Ns X.env.locals m) (hok : HOk X.prog X.w H' h') (hg : AllBare g') :
    Inv X pins σ H' { s with heap := h', gens := g', drawn := d', toks := t' } := by
  have neL : ∀ b o, X.s₀.heap.get? b = some o → b ≠ X.env.locals := fun b o e => Nat.ne_of_lt (Nat.lt_of_lt_of_le (Heap.lt_size e) I.ok.above)
  have neC : ∀ b o, X.s₀.heap.get? b = some o → b ∉ X.ex → b ∉ ch := fun b o e hx hb => by
    rcases (hch b hb).1 with z | z
    · exact hx z
    · exact absurd (Nat.lt_of_lt_of_le (Heap.lt_size e) z) (Nat.lt_irrefl _)
  have cellK : ∀ x c, X.env.cells.lookup x = some c → ∀ v, s.heap.IsCell c v → h'.IsCell c v := fun x c e v ⟨o, ho, hd⟩ => by
    have nch : c ∉ ch := fun z => (hch c z).2.2.1 x c e rfl
    by_cases hc : c ∈ X.fs
    · obtain ⟨sl, q⟩ := slot c o (I.cne x c e) hc nch ho (I.freeC x c e)
      exact ⟨_, q, hd⟩
    · exact ⟨o, keep c o (I.cne x c e) hc nch ho (I.freeC x c e), hd⟩
  refine ⟨I.ok, I.os, hg, ⟨fun b o e n hb hx => ?_, fun b o e n hb hx => ?_, fun b o e n hx => ?_, fun b o e hx => ?_, fun b xs e => tups b xs (I.base.tups b xs e), fun b o xs e => frzs b o xs (I.base.frzs b o xs e), fun b ps e => ?_⟩, ?_, fun x c e => ?_, ?_, fun x c e => ?_, fun p hp => ?_, hok, I.len⟩
  · exact keep b o (neL b o e) hb (neC b o e hx) (I.base.keep b o e n hb hx) (I.base.free b o e n hx)
  · obtain ⟨sl, e1⟩ := I.base.slot b o e n hb hx
    obtain ⟨sl', e2⟩ := slot b _ (neL b o e) hb (neC b o e hx) e1 (I.base.free b o e n hx)
    exact ⟨sl', e2⟩
  · obtain ⟨o', e1⟩ := I.base.there b o e hx
    exact free b o' (neC b o e hx) e1 (I.base.free b o e n hx)
  · obtain ⟨o', e1⟩ := I.base.there b o e hx
    exact there b o' (neC b o e hx) e1
  · obtain ⟨m1, e1⟩ := I.base.tbls b ps e
    obtain ⟨m2, e2⟩ := tbls b _ e1
    exact ⟨m1 ++ m2, by rw [e2, Array.append_assoc]⟩
  · obtain ⟨m, hn, hl⟩ := I.loc
    refine ⟨m, ns m hn, fun i x v e1 e2 e3 => ?_⟩
    obtain ⟨u, r, l⟩ := hl i x v e1 e2 e3
    refine ⟨u, r, ?_⟩
    rcases l with l | ⟨k, c, e, z⟩
    · exact .inl l
    · exact .inr ⟨k, c, e, cellK x c e _ z⟩
  · obtain ⟨v, z⟩ := I.cell x c e
    exact ⟨v, cellK x c e v z⟩
  · obtain ⟨m, ⟨o, _, _, ho, _⟩, _⟩ := I.loc
    exact free _ o (fun z => (hch _ z).2.1 rfl) ho I.free
  · obtain ⟨v, o, ho, hd⟩ := I.cell x c e
    exact free c o (fun z => (hch c z).2.2.1 x c e rfl) ho (I.freeC x c e)
  · obtain ⟨e, n, ne, nf, d⟩ := I.pin p hp
    have nch : p.1 ∉ ch := fun z => (hch p.1 z).2.2.2 p hp rfl
    exact ⟨keep p.1 p.2 ne nf nch e n, free p.1 p.2 nch e n, ne, nf, d⟩
theorem Inv.un {t' : Nat} (I : Inv X pins σ H s) (u : Un X.fs [] H H' s.heap h') (hok : HOk X.prog X.w H' h') : Inv X pins σ H' { s with heap := h', toks := t' } := by
  obtain ⟨m, ⟨o, es, ep, ho, r⟩, _⟩ := id I.loc
  obtain ⟨sl, hL⟩ := u.any ho I.free (by simp)
  exact I.step (g' := s.gens) (d' := s.drawn) (ch := []) (fun _ z => nomatch z) (fun b o _ hb _ e n => u.keep b o e n hb (by simp)) (fun b o _ hb _ e n => u.slot b o e n hb (by simp)) (fun b o _ e n => u.free b o e n (by simp)) (fun b o _ e => u.there b o e (by simp)) u.tups u.frzs u.tbls (fun m' hm => by
    obtain ⟨o', es', ep', ho', r'⟩ := hm
    rw [ho] at ho'; cases ho'
    exact ⟨_, es', ep', hL, r'⟩) hok I.bare
theorem Inv.call {g' : Array GenState} {t' : Nat} {d' : Drawn} {ch : List Addr} (I : Inv X pins σ H s) (u : Un (frs X.stack) ch H H' s.heap h') (hok : HOk X.prog X.w H' h') (hg : AllBare g')
    (hch : ∀ b ∈ ch, (b ∈ X.ex ∨ X.s₀.heap.objs.size ≤ b) ∧ b ≠ X.env.locals ∧ (∀ x c, X.env.cells.lookup x = some c → c ≠ b) ∧ ∀ p ∈ X.pn ++ pins, p.1 ≠ b) :
    Inv X pins σ H' { s with heap := h', gens := g', drawn := d', toks := t' } := by
  obtain ⟨m, ⟨o, es, ep, ho, r⟩, _⟩ := id I.loc
  obtain ⟨sl, hL⟩ := u.any ho I.free fun z => (hch _ z).2.1 rfl
  exact I.step (ch := ch) hch (fun b o hL hb hc e n => u.keep b o e n (fun z => (List.mem_cons.mp (I.stkSub b z)).elim hL hb) hc) (fun b o _ _ hc e n => u.any e n hc) (fun b o hc e n => u.free b o e n hc) (fun b o hc e => u.there b o e hc) u.tups u.frzs u.tbls (fun m' hm => by
    obtain ⟨o', es', ep', ho', r'⟩ := hm
    rw [ho] at ho'; cases ho'
    exact ⟨_, es', ep', hL, r'⟩) hok hg
theorem Inv.turned {t' : Nat} {it : Addr} (I : Inv X pins σ H s) (k : ∀ b o, b ≠ it → s.heap.get? b = some o → h'.get? b = some o) (hn : H it = none) (hL : it ≠ X.env.locals)
    (h1 : it ∈ X.ex ∨ X.s₀.heap.objs.size ≤ it) (h2 : ∀ x c, X.env.cells.lookup x = some c → c ≠ it) (h3 : ∀ p ∈ X.pn ++ pins, p.1 ≠ it) : Inv X pins σ H { s with heap := h', toks := t' } := by
  have nit : ∀ b u, H b = some u → b ≠ it := fun b u e z => by rw [z, hn] at e; cases e
  refine I.step (g' := s.gens) (d' := s.drawn) (ch := [it]) (fun b hb => ?_) (fun b o _ _ hc e _ => k b o (fun z => hc (by simp [z])) e) (fun b o _ _ hc e _ => ⟨o.slots, k b o (fun z => hc (by simp [z])) e⟩) (fun _ _ _ _ n => n)
    (fun b o hc e => ⟨o, k b o (fun z => hc (by simp [z])) e⟩) (fun _ _ e => e) (fun _ _ _ e => e) (fun b ps e => ⟨#[], by rw [e]; simp⟩) (fun m hm => ?_) (fun b u e => ?_) I.bare
  · have e : b = it := by simpa using hb
    subst e
    exact ⟨h1, hL, h2, h3⟩
  · obtain ⟨o, es, ep, ho, r⟩ := hm
    exact ⟨o, es, ep, k _ o (Ne.symm hL) ho, r⟩
  · refine (I.hok b u e).stay (fun c v hc q => k c v ?_ q) (fun _ q => q) fun _ _ q => q
    rcases hc with z | z
    · rw [z]; exact nit b u e
    · exact nit c _ z
theorem Inv.tok (I : Inv X pins σ H s) (t : Nat) : Inv X pins σ H { s with toks := t } := I.un (h' := s.heap) (t' := t) Un.refl I.hok
theorem Inv.kept {t' : Nat} (I : Inv X pins σ H s) (k : ∀ b u, s.heap.get? b = some u → h'.get? b = some u) : Inv X pins σ H { s with heap := h', toks := t' } := I.un (Un.kept k) (I.hok.kept k)
theorem Inv.laid {a : Addr} {o : HO} {t' : Nat} (I : Inv X pins σ H s) (k : ∀ b u, s.heap.get? b = some u → h'.get? b = some u) (hp : s.heap.objs.size ≤ a) (new : ObjOk X.prog X.w (upd H a o) h' a o) :
    Inv X pins σ (upd H a o) { s with heap := h', toks := t' } := I.un (Un.laid k hp (I.hok.fresh hp)) (I.hok.laid k hp new)
theorem Inv.write {x e : Addr} {o : HO} {t' : Nat} (I : Inv X pins σ H s) (mu : Mut (H x)) (he : e = x ∨ H e = some (.own x)) (k : ∀ b u, b ≠ e → s.heap.get? b = some u → h'.get? b = some u) (heo : ∃ u, h'.get? e = some u)
    (new : ObjOk X.prog X.w (upd H x o) h' x o) : Inv X pins σ (upd H x o) { s with heap := h', toks := t' } := I.un (Un.write mu he k heo) (I.hok.write mu he k heo new)
theorem Inv.pins_of {pins' : List (Addr × Obj)} (I : Inv X pins σ H s) (h : ∀ p ∈ pins', s.heap.get? p.1 = some p.2 ∧ H p.1 = none ∧ p.1 ≠ X.env.locals ∧ p.1 ∉ X.fs ∧ ∀ v, p.2.data ≠ .cell v) : Inv X pins' σ H s :=
  ⟨I.ok, I.os, I.bare, I.base, I.loc, I.cell, I.free, I.freeC, fun p hp => (List.mem_append.mp hp).elim (fun z => I.pin p (List.mem_append_left _ z)) (h p), I.hok, I.len⟩

theorem nodup_ix {N : List Str} (hN : N.Nodup) {i j : Nat} {x : Str} (a : N[i]? = some x) (b : N[j]? = some x) : i = j := by
  obtain ⟨h1, e1⟩ := List.getElem?_eq_some_iff.mp a
  obtain ⟨h2, e2⟩ := List.getElem?_eq_some_iff.mp b
  exact (List.getElem_inj hN).mp (e1.trans e2.symm)

theorem store_ok2 {M : Model} {A : Around} {E : Value → Shared → Prop} {i : Nat} {x : Str} {v : V} {u : Value} {Q : Unit → Shared → Prop} (I : Inv X pins σ H s) (hN : X.N.Nodup) (hi : X.N[i]? = some x) (hx : Loc X.env.scope x) (r : RelV v u)
    (h : ∀ s', Inv X pins (σ.set i (some v)) H s' → (∃ a, Heap.SameBut a s.heap s'.heap ∧ (a = X.env.locals ∨ X.env.cells.lookup x = some a)) → Q () s') (hf : X.fn x = true ∨ X.env.scope.names.lookup x = some .local := by first | exact .inl rfl | exact .inr rfl | assumption) : wpAny M A (storeName X.env x u) Q E s := by
  obtain ⟨m, hn, hl⟩ := id I.loc
  have hcls : (X.env.scope.kind == .class || (X.env.scope.kind == .module && X.env.locals != X.env.globals)) = false := by rw [I.ok.kind]; rfl
  have hiσ : i < σ.length := by rw [I.len]; exact (List.getElem?_eq_some_iff.mp hi).1
  have cne := I.cne
  have tracked : ∀ {a : Addr} {h' : Heap}, (∃ o, s.heap.get? a = some o ∧ H a = none) → Heap.SameBut a s.heap h' → HOk X.prog X.w H h' := fun {a h'} ha hs b ob e => by
    obtain ⟨_, _, hfree⟩ := ha
    refine (I.hok b ob e).stay (fun c w' hc q => (hs.2 c ?_).trans q) (fun _ q => q) fun _ _ q => q
    rintro rfl
    rcases hc with rfl | hc
    · rw [hfree] at e; cases e
    · rw [hfree] at hc; cases hc
  rcases hx with hk | hk
  · refine wpAny_storeName_local hk hn (fun h' hn' hs => ?_) hcls
    obtain ⟨oL, _, _, hoL, _⟩ := id hn
    refine h _ ⟨I.ok, I.os, I.bare, ⟨fun b o e n hb hx => ?_, fun b o e n hb hx => ?_, I.base.free, fun b o e hx => ?_, I.base.tups, I.base.frzs, I.base.tbls⟩, ⟨_, hn', fun j y v' e1 e2 e3 => ?_⟩, fun y c e => ?_, I.free, I.freeC, fun p hp => ?_, tracked ⟨oL, hoL, I.free⟩ hs, by simpa using I.len⟩ ⟨_, hs, .inl rfl⟩
    · exact (hs.2 b (Nat.ne_of_lt (Nat.lt_of_lt_of_le (Heap.lt_size e) I.ok.above))).trans (I.base.keep b o e n hb hx)
    · obtain ⟨sl, e1⟩ := I.base.slot b o e n hb hx
      exact ⟨sl, (hs.2 b (Nat.ne_of_lt (Nat.lt_of_lt_of_le (Heap.lt_size e) I.ok.above))).trans e1⟩
    · obtain ⟨o', e1⟩ := I.base.there b o e hx
      exact ⟨o', (hs.2 b (Nat.ne_of_lt (Nat.lt_of_lt_of_le (Heap.lt_size e) I.ok.above))).trans e1⟩
    · by_cases hj : j = i
      · subst hj
        rw [hi] at e1; cases e1
        rw [List.getElem?_set_self hiσ] at e2
        cases e2
        exact ⟨u, r, .inl ⟨hk, by simp⟩⟩
      · rw [List.getElem?_set_ne (Ne.symm hj)] at e2
        obtain ⟨u', r', q⟩ := hl j y v' e1 e2 e3
        refine ⟨u', r', ?_⟩
        rcases q with ⟨k, e⟩ | ⟨k, c, e, z⟩
        · refine .inl ⟨k, ?_⟩
          have : y ≠ x := fun e => hj (nodup_ix hN e1 (e ▸ hi))
          simp [this, e]
        · exact .inr ⟨k, c, e, z.sameBut hs (cne y c e)⟩
    · obtain ⟨w', z⟩ := I.cell y c e
      exact ⟨w', z.sameBut hs (cne y c e)⟩
    · obtain ⟨e, n, ne, nf, d⟩ := I.pin p hp
      exact ⟨(hs.2 p.1 ne).trans e, n, ne, nf, d⟩
  · have hfn : X.fn x = true := by
      rcases hf with z | z
      · exact z
      · rw [z] at hk; cases hk
    obtain ⟨c, hc⟩ := I.ok.has x (.inl hk)
    obtain ⟨w', z⟩ := I.cell x c hc
    refine wpAny_storeName_cell I.ok.kind hk hc z (fun h' hc' hs => ?_)
    obtain ⟨oc, hoc, hocd⟩ := id z
    refine h { s with heap := h' } ⟨I.ok, I.os, I.bare, ⟨fun b o e n hb hx => ?_, fun b o e n hb hx => ?_, I.base.free, fun b o e hx => ?_, I.base.tups, I.base.frzs, I.base.tbls⟩, ⟨m, hn.sameBut hs (Ne.symm (cne x c hc)), fun j y v' e1 e2 e3 => ?_⟩, fun y c' e => ?_, I.free, I.freeC, fun p hp => ?_, tracked ⟨oc, hoc, I.freeC x c hc⟩ hs, by simpa using I.len⟩ ⟨c, hs, .inr hc⟩
    · exact (hs.2 b (Nat.ne_of_lt (Nat.lt_of_lt_of_le (Heap.lt_size e) (I.ok.cab x c hfn hc)))).trans (I.base.keep b o e n hb hx)
    · obtain ⟨sl, e1⟩ := I.base.slot b o e n hb hx
      exact ⟨sl, (hs.2 b (Nat.ne_of_lt (Nat.lt_of_lt_of_le (Heap.lt_size e) (I.ok.cab x c hfn hc)))).trans e1⟩
    · obtain ⟨o', e1⟩ := I.base.there b o e hx
      exact ⟨o', (hs.2 b (Nat.ne_of_lt (Nat.lt_of_lt_of_le (Heap.lt_size e) (I.ok.cab x c hfn hc)))).trans e1⟩
    · by_cases hj : j = i
      · subst hj
        rw [hi] at e1; cases e1
        rw [List.getElem?_set_self hiσ] at e2
        cases e2
        exact ⟨u, r, .inr ⟨.inl hk, c, hc, hc'⟩⟩
      · rw [List.getElem?_set_ne (Ne.symm hj)] at e2
        obtain ⟨u', r', q⟩ := hl j y v' e1 e2 e3
        refine ⟨u', r', ?_⟩
        rcases q with q | ⟨k, c', e, z'⟩
        · exact .inl q
        · refine .inr ⟨k, c', e, z'.sameBut hs ?_⟩
          rintro rfl
          exact hj (nodup_ix hN e1 (I.ok.inj _ _ _ e hc ▸ hi))
    · by_cases hcc : c' = c
      · subst hcc; exact ⟨_, hc'⟩
      · obtain ⟨w2, z2⟩ := I.cell y c' e
        exact ⟨w2, z2.sameBut hs hcc⟩
    · obtain ⟨e, n, ne, nf, d⟩ := I.pin p hp
      refine ⟨(hs.2 p.1 ?_).trans e, n, ne, nf, d⟩
      intro q
      rw [q, hoc] at e
      have q' : oc = p.2 := Option.some.inj e
      exact d w' (by rw [← q']; exact hocd)
theorem store_ok {M : Model} {A : Around} {E : Value → Shared → Prop} {i : Nat} {x : Str} {v : V} {u : Value} {Q : Unit → Shared → Prop} (I : Inv X pins σ H s) (hN : X.N.Nodup) (hi : X.N[i]? = some x) (hx : Loc X.env.scope x) (r : RelV v u)
    (h : ∀ s', Inv X pins (σ.set i (some v)) H s' → Q () s') (hf : X.fn x = true ∨ X.env.scope.names.lookup x = some .local := by first | exact .inl rfl | exact .inr rfl | assumption) : wpAny M A (storeName X.env x u) Q E s :=
  store_ok2 I hN hi hx r (fun s' I' _ => h s' I') hf
theorem Inv.call' {s' : Shared} {ch : List Addr} (I : Inv X pins σ H s) (ho : s'.os = s.os) (u : Un (frs X.stack) ch H H' s.heap s'.heap) (hok : HOk X.prog X.w H' s'.heap) (hg : AllBare s'.gens)
    (hch : ∀ b ∈ ch, (b ∈ X.ex ∨ X.s₀.heap.objs.size ≤ b) ∧ b ≠ X.env.locals ∧ (∀ x c, X.env.cells.lookup x = some c → c ≠ b) ∧ ∀ p ∈ X.pn ++ pins, p.1 ≠ b) : Inv X pins σ H' s' := by
  obtain ⟨h', g', d', t', o'⟩ := s'
  have e : o' = s.os := ho
  subst e
  exact I.call (g' := g') (t' := t') (d' := d') u hok hg hch
end

abbrev XK := Value → Option Addr → Hp → Prop
abbrev St := List (Option V)
abbrev VK := V → Hp → Prop
abbrev TE := St → Hp → VK → Prop
abbrev TT := St → Hp → (Bool → Hp → Prop) → Prop
abbrev TA := St → Hp → (List V → Hp → Prop) → Prop
structure Ends where
  nx : St → Hp → Prop
  rt : VK
  bk : St → Hp → Prop := fun _ _ => False
  ct : St → Hp → Prop := fun _ _ => False
abbrev TS := Ends → St → Hp → Prop

def EP (X : Cx) (pins : List (Addr × Obj)) (σ : St) (Q : VK) (u : Value) (s' : Shared) : Prop := ∃ v H', Inv X pins σ H' s' ∧ RelV v u ∧ Q v H'
def TP (X : Cx) (pins : List (Addr × Obj)) (σ : St) (Q : Bool → Hp → Prop) (b : Bool) (s' : Shared) : Prop := ∃ H', Inv X pins σ H' s' ∧ Q b H'
def AP (X : Cx) (pins : List (Addr × Obj)) (σ : St) (Q : List V → Hp → Prop) (us : List Value) (s' : Shared) : Prop := ∃ vs H', Inv X pins σ H' s' ∧ Vals vs us ∧ Q vs H'
def SP (X : Cx) (pins : List (Addr × Obj)) (D : Ends) (f : Flow) (s' : Shared) : Prop :=
  match f with
  | .next => ∃ σ' H', Inv X pins σ' H' s' ∧ D.nx σ' H'
  | .brk => ∃ σ' H', Inv X pins σ' H' s' ∧ D.bk σ' H'
  | .cont => ∃ σ' H', Inv X pins σ' H' s' ∧ D.ct σ' H'
  | .ret u => ∃ v σ' H', Inv X pins σ' H' s' ∧ RelV v u ∧ D.rt v H'

def PE (X : Cx) (e : Expr) (t : TE) : Prop :=
  ∀ (pins : List (Addr × Obj)) (s : Shared) (σ : St) (H : Hp) (Q : VK), Inv X pins σ H s → t σ H Q → wpAny (model X.prog X.w) X.A (eval e X.env) (EP X pins σ Q) X.xe s
def PT (X : Cx) (e : Expr) (t : TT) : Prop :=
  ∀ (pins : List (Addr × Obj)) (s : Shared) (σ : St) (H : Hp) (Q : Bool → Hp → Prop), Inv X pins σ H s → t σ H Q → wpAny (model X.prog X.w) X.A (isTrue e X.env (eval e X.env)) (TP X pins σ Q) X.xe s
def PW (X : Cx) (e : Expr) (t : TT) : Prop :=
  ∀ (whole : Sem Value) (pins : List (Addr × Obj)) (s : Shared) (σ : St) (H : Hp) (Q : Bool → Hp → Prop), Inv X pins σ H s → t σ H Q → wpAny (model X.prog X.w) X.A (isTrue e X.env whole) (TP X pins σ Q) X.xe s
theorem PW.pt {X : Cx} {e : Expr} {t : TT} (h : PW X e t) : PT X e t := h _
def PA (X : Cx) (es : List Expr) (t : TA) : Prop :=
  ∀ (pos : Pos) (pins : List (Addr × Obj)) (s : Shared) (σ : St) (H : Hp) (Q : List V → Hp → Prop), Inv X pins σ H s → t σ H Q → wpAny (model X.prog X.w) X.A (spliced (backTo pos (starEach es X.env))) (AP X pins σ Q) X.xe s
def PS (X : Cx) (st : Stmt) (t : TS) : Prop :=
  ∀ (pins : List (Addr × Obj)) (s : Shared) (σ : St) (H : Hp) (D : Ends), Inv X pins σ H s → t D σ H → wpAny (model X.prog X.w) X.A (exec st X.env) (SP X pins D) X.xe s
def PSs (X : Cx) (st : List Stmt) (t : TS) : Prop :=
  ∀ (pins : List (Addr × Obj)) (s : Shared) (σ : St) (H : Hp) (D : Ends), Inv X pins σ H s → t D σ H → wpAny (model X.prog X.w) X.A (execs st X.env) (SP X pins D) X.xe s
theorem thn {α : Type} {t : Sem α} {Q Q' : α → Shared → Prop} {M : Model} {A : Around} {E : Value → Shared → Prop} {s : Shared} (h : wpAny M A t Q E s) (hQ : ∀ a s, Q a s → Q' a s) : wpAny M A t Q' E s := wpAny_mono h hQ fun _ _ x => x
end L2

namespace L2
open PySem PySem.Spec PyProof.Rows
section
variable {X : Cx}

def tVar (i : Nat) : TE := fun σ H Q => ∃ v, σ[i]? = some (some v) ∧ Q v H
def tC (v : V) : TE := fun _ H Q => Q v H
theorem pe_var {i : Nat} {x : Str} {pos : Pos} (hN : X.N[i]? = some x) (hv : Vis X.env.scope x) (hd : (x == ("__debug__" : Str)) = false := by decide) (hcd : (x == ("__classdict__" : Str)) = false := by decide) : PE X (.Name x pos) (tVar i) := by
  intro pins s σ H Q I h
  obtain ⟨v, e, h⟩ := h
  obtain ⟨m, hn, hl⟩ := I.loc
  obtain ⟨u, r, l⟩ := hl i x v hN e hv
  have fin : EP X pins σ Q u s := ⟨v, H, I, r, h⟩
  rcases l with ⟨hk, hm⟩ | ⟨hk, c, hc, hcell⟩
  · exact wpAny_Name (wpAny_loadName_local I.ok.kind hk hn hm fin) hd
  · rcases hk with hk | hk
    · exact wpAny_Name (wpAny_loadName_cell I.ok.kind hk hc hcell fin) hd
    · exact wpAny_Name (wpAny_loadName_free I.ok.kind hk hc hcell fin hcd) hd
theorem pe_int {i j pos} : PE X (.Constant (.int i) j pos) (tC (.int i)) := fun _ _ _ H _ I h => wpAny_Constant_int ⟨.int i, H, I.tok _, ⟨_, rfl⟩, h⟩
theorem pe_bl {b j pos} : PE X (.Constant (.bool b) j pos) (tC (.bl b)) := fun _ _ _ H _ I h => Constant_bool ⟨.bl b, H, I, rfl, h⟩
theorem pe_non {j pos} : PE X (.Constant .none j pos) (tC .non) := fun _ _ _ H _ I h => Constant_none ⟨.non, H, I, rfl, h⟩
theorem pe_str {x j pos} : PE X (.Constant (.str x) j pos) (tC (.str x)) := fun _ _ _ H _ I h => Calls.Constant_str ⟨.str x, H, I.tok _, ⟨_, rfl⟩, h⟩

def Gl (X : Cx) (x : Str) : Prop := X.env.kindOf x = some .globalImplicit
theorem ld_glob {E : Value → Shared → Prop} {pins : List (Addr × Obj)} {s : Shared} {σ : St} {H : Hp} {x : Str} {u : Value} {pos : Pos} {Q : Value → Shared → Prop} (I : Inv X pins σ H s) (hg : Gl X x) (hm : X.mg x = some u) (h : Q u s)
    (hd : (x == ("__debug__" : Str)) = false := by decide) : wpAny (model X.prog X.w) X.A (eval (.Name x pos) X.env) Q E s :=
  Calls.Name_function_global I.ok.kind hg (Calls.loadGlobal_global (by rw [I.ok.glob]; exact I.mod.glob.keeps I.bk) hm h) hd
theorem ld_blt {E : Value → Shared → Prop} {pins : List (Addr × Obj)} {s : Shared} {σ : St} {H : Hp} {x : Str} {u : Value} {pos : Pos} {Q : Value → Shared → Prop} (I : Inv X pins σ H s) (hg : Gl X x) (hm : X.mg x = none) (hv : bootBuiltins x = some u) (h : Q u s)
    (hn : x ≠ "__name__" := by decide) (hd : (x == ("__debug__" : Str)) = false := by decide) : wpAny (model X.prog X.w) X.A (eval (.Name x pos) X.env) Q E s := by
  obtain ⟨mb, h1, h2⟩ := I.mod.blt
  exact Calls.Name_function_global I.ok.kind hg (Calls.loadGlobal_builtin (by rw [I.ok.glob]; exact I.mod.glob.keeps I.bk) hm (by rw [I.ok.blt]; exact h1.keeps I.bk) ((h2 x hn).trans hv) h) hd
theorem pe_glob {x : Str} {v : V} {u : Value} {pos : Pos} (hg : Gl X x) (hm : X.mg x = some u) (r : RelV v u) (hd : (x == ("__debug__" : Str)) = false := by decide) : PE X (.Name x pos) (tC v) :=
  fun _ _ _ H _ I h => ld_glob I hg hm ⟨v, H, I, r, h⟩ hd
theorem pe_bltn {x : Str} {v : V} {u : Value} {pos : Pos} (hg : Gl X x) (hm : X.mg x = none) (hv : bootBuiltins x = some u) (r : RelV v u) (hn : x ≠ "__name__" := by decide) (hd : (x == ("__debug__" : Str)) = false := by decide) : PE X (.Name x pos) (tC v) :=
  fun _ _ _ H _ I h => ld_blt I hg hm hv ⟨v, H, I, r, h⟩ hn hd

variable {a b : Expr} {ta tb : TE} {pos : Pos}
def tB (t : TE) : TT := fun σ H Q => t σ H fun x H1 => ∃ c, x = .bl c ∧ Q c H1
theorem pt_val {e : Expr} {t : TE} (h : PE X e t) (he : ∀ whole, isTrue e X.env whole = (do let v ← whole; standAt e.pos; holding [v] (truthy v)) := by intro _; rfl) : PT X e (tB t) := by
  intro pins s σ H Q I hw
  refine isTrue_plain (thn (h pins s σ H _ I hw) fun v s1 ⟨x, H1, I1, r1, q1⟩ => ?_) (he _)
  obtain ⟨d, rfl, q⟩ := q1
  cases r1
  exact wpAny_truthy_bool ⟨H1, I1, q⟩

variable {tA tB' : TT} {rest : List Expr}
def tAnd (t u : TT) : TT := fun σ H Q => t σ H fun c H1 => if c = true then u σ H1 Q else Q false H1
def tOr (t u : TT) : TT := fun σ H Q => t σ H fun c H1 => if c = true then Q true H1 else u σ H1 Q
def tNot (t : TT) : TT := fun σ H Q => t σ H fun c H1 => Q (!c) H1
theorem pw_and1 (ha : PT X a tA) : PW X (.BoolOp .And [a] pos) tA := by
  intro wh pins s σ H Q I h
  refine isTrue_and (thn (ha pins s σ H Q I h) fun c s1 e => ?_)
  cases c with
  | true => exact isTrue_and_nil e
  | false => exact e
theorem pw_or1 (ha : PT X a tA) : PW X (.BoolOp .Or [a] pos) tA := by
  intro wh pins s σ H Q I h
  refine isTrue_or (thn (ha pins s σ H Q I h) fun c s1 e => ?_)
  cases c with
  | false => exact isTrue_or_nil e
  | true => exact e
theorem pw_and (ha : PT X a tA) (hb : PW X (.BoolOp .And (b :: rest) pos) tB') : PW X (.BoolOp .And (a :: b :: rest) pos) (tAnd tA tB') := by
  intro wh pins s σ H Q I h
  refine isTrue_and (thn (ha pins s σ H _ I h) fun c s1 ⟨H1, I1, q1⟩ => ?_)
  cases c with
  | true => exact hb wh pins s1 σ H1 Q I1 q1
  | false => exact ⟨H1, I1, q1⟩
theorem pw_or (ha : PT X a tA) (hb : PW X (.BoolOp .Or (b :: rest) pos) tB') : PW X (.BoolOp .Or (a :: b :: rest) pos) (tOr tA tB') := by
  intro wh pins s σ H Q I h
  refine isTrue_or (thn (ha pins s σ H _ I h) fun c s1 ⟨H1, I1, q1⟩ => ?_)
  cases c with
  | true => exact ⟨H1, I1, q1⟩
  | false => exact hb wh pins s1 σ H1 Q I1 q1
theorem pt_not (ha : PT X a tA) : PT X (.UnaryOp .Not a pos) (tNot tA) := by
  intro pins s σ H Q I h
  exact isTrue_not (ha pins s σ H (fun c H1 => Q (!c) H1) I h)
def tAndV (ta tb : TE) : TE := fun σ H Q => ta σ H fun x H1 => ∃ c, x = .bl c ∧ if c = true then tb σ H1 Q else Q (.bl false) H1
def tOrV (ta tb : TE) : TE := fun σ H Q => ta σ H fun x H1 => ∃ c, x = .bl c ∧ if c = true then Q (.bl true) H1 else tb σ H1 Q
def tNotV (ta : TE) : TE := fun σ H Q => ta σ H fun x H1 => ∃ c, x = .bl c ∧ Q (.bl (!c)) H1
theorem pe_one {op} {t : TE} (h : PE X a t) : PE X (.BoolOp op [a] pos) t := fun pins s σ H Q I hw => BoolOp_one (h pins s σ H Q I hw)
theorem pe_and (ha : PE X a ta) (hb : PE X (.BoolOp .And (b :: rest) pos) tb) : PE X (.BoolOp .And (a :: b :: rest) pos) (tAndV ta tb) := by
  intro pins s σ H Q I h
  refine BoolOp_and (thn (ha pins s σ H _ I h) fun v s1 ⟨x, H1, I1, r1, q1⟩ => ?_)
  obtain ⟨c, rfl, q1⟩ := q1
  cases r1
  refine wpAny_truthy_bool ?_
  cases c with
  | true => exact hb pins s1 σ H1 Q I1 q1
  | false => exact ⟨.bl false, H1, I1, rfl, q1⟩
theorem pe_or (ha : PE X a ta) (hb : PE X (.BoolOp .Or (b :: rest) pos) tb) : PE X (.BoolOp .Or (a :: b :: rest) pos) (tOrV ta tb) := by
  intro pins s σ H Q I h
  refine BoolOp_or (thn (ha pins s σ H _ I h) fun v s1 ⟨x, H1, I1, r1, q1⟩ => ?_)
  obtain ⟨c, rfl, q1⟩ := q1
  cases r1
  refine wpAny_truthy_bool ?_
  cases c with
  | false => exact hb pins s1 σ H1 Q I1 q1
  | true => exact ⟨.bl true, H1, I1, rfl, q1⟩
theorem pe_not (ha : PE X a ta) : PE X (.UnaryOp .Not a pos) (tNotV ta) := by
  intro pins s σ H Q I h
  refine UnaryOp_ (thn (ha pins s σ H _ I h) fun v s1 ⟨x, H1, I1, r1, q1⟩ => ?_)
  obtain ⟨c, rfl, q1⟩ := q1
  cases r1
  exact not_of (wpAny_truthy_bool ⟨.bl (!c), H1, I1, rfl, q1⟩)
def tIf (t : TT) (ta tb : TE) : TE := fun σ H Q => t σ H fun c H1 => if c = true then ta σ H1 Q else tb σ H1 Q
theorem pe_ifExp {c : Expr} (hc : PT X c tA) (ha : PE X a ta) (hb : PE X b tb) : PE X (.IfExp c a b pos) (tIf tA ta tb) := by
  intro pins s σ H Q I h
  refine wpAny_IfExp (thn (hc pins s σ H _ I h) fun d s1 ⟨H1, I1, q1⟩ => ?_)
  cases d with
  | true => exact ha pins s1 σ H1 Q I1 q1
  | false => exact hb pins s1 σ H1 Q I1 q1
end
end L2

namespace L2
open PySem PySem.Spec PyProof.Rows

def SqL (K : PySem.W.Frag) (H : Hp) (a : Addr) (xs : List V) : Prop :=
  Rd H a (.lst xs) ∨
    ∃ (o : Obj) (its : Array Value) (n : Nat), K.lookup a = some o ∧ o.cls = .type "list" ∧ o.dict = none ∧ o.data = .seq its n ∧ its.size ≤ sizeLine ∧ Vals xs its.toList
def SqT (K : PySem.W.Frag) (H : Hp) (a : Addr) (xs : List V) : Prop :=
  Rd H a (.tup xs) ∨
    ∃ (o : Obj) (its : Array Value) (n : Nat), K.lookup a = some o ∧ o.cls = .type "tuple" ∧ o.data = .seq its n ∧ its.size ≤ sizeLine ∧ Vals xs its.toList
def absV : Value → Option V
  | .none => some .non
  | .bool b => some (.bl b)
  | .int i _ => some (.int i)
  | .str x _ => some (.str x)
  | .bytes b _ => some (.byt b)
  | .float b _ => some (.flt b)
  | .ref a => some (.ref a)
  | .type n => some (.ty n)
  | _ => none
theorem RelV.abs {x : V} {u : Value} (r : RelV x u) : absV u = some x := by
  cases x with
  | non => cases r; rfl
  | bl _ => cases r; rfl
  | int _ => obtain ⟨t, rfl⟩ := r; rfl
  | str _ => obtain ⟨t, rfl⟩ := r; rfl
  | byt _ => obtain ⟨t, rfl⟩ := r; rfl
  | flt _ => obtain ⟨t, rfl⟩ := r; rfl
  | ref _ => cases r; rfl
  | ty _ => cases r; rfl
theorem RelV.inj {x y : V} {u : Value} (r : RelV x u) (q : RelV y u) : x = y := Option.some.inj (r.abs.symm.trans q.abs)
theorem Vals.inj : ∀ {xs ys : List V} {us : List Value}, Vals xs us → Vals ys us → xs = ys
  | _, _, _, .nil, .nil => rfl
  | _, _, _, .cons r t, .cons r' t' => by rw [r.inj r', Vals.inj t t']
section
variable {X : Cx} {pins : List (Addr × Obj)} {σ : St} {H : Hp} {s : Shared} {a : Addr} {xs ys : List V}
theorem SqL.of {K : PySem.W.Frag} (h : H a = some (.lst xs)) : SqL K H a xs := .inl (.inl h)
theorem SqT.of {K : PySem.W.Frag} (h : H a = some (.tup xs)) : SqT K H a xs := .inl (.inl h)
theorem Inv.list (I : Inv X pins σ H s) (h : SqL X.K H a xs) : ∃ its : List Value, Vals xs its ∧ PlainL s.heap a its.toArray ∧ xs.length ≤ sizeLine := by
  rcases h with h | ⟨o, its, n, hk, hc, hd, hs, hz, r⟩
  · obtain ⟨z, its, n, r, e⟩ := h.ok I.hok
    exact ⟨its, r, ⟨_, n, e, rfl, rfl, rfl⟩, z⟩
  · refine ⟨its.toList, r, ⟨o, n, I.kIn a o hk, hc, hd, by simpa using hs⟩, ?_⟩
    have e := r.length
    simp only [Array.length_toList] at e
    omega
theorem Inv.tuple (I : Inv X pins σ H s) (h : SqT X.K H a xs) : ∃ its : List Value, Vals xs its ∧ IsTup s.heap a its.toArray ∧ xs.length ≤ sizeLine := by
  rcases h with h | ⟨o, its, n, hk, hc, hs, hz, r⟩
  · obtain ⟨z, its, r, p, _⟩ := h.ok I.hok
    exact ⟨its, r, p, z⟩
  · refine ⟨its.toList, r, ⟨o, I.kIn a o hk, hc, n, by simpa using hs⟩, ?_⟩
    have e := r.length
    simp only [Array.length_toList] at e
    omega
theorem Inv.list_inj (I : Inv X pins σ H s) (h : SqL X.K H a xs) (h' : SqL X.K H a ys) : xs = ys := by
  obtain ⟨its, r, ⟨o, n, e, _, _, d⟩, _⟩ := I.list h
  obtain ⟨its', r', ⟨o', n', e', _, _, d'⟩, _⟩ := I.list h'
  rw [e] at e'; cases e'
  rw [d] at d'
  injection d' with d1 _
  have : its = its' := by simpa using congrArg Array.toList d1
  subst this
  exact r.inj r'
theorem Inv.tuple_inj (I : Inv X pins σ H s) (h : SqT X.K H a xs) (h' : SqT X.K H a ys) : xs = ys := by
  obtain ⟨its, r, ⟨o, e, _, n, d⟩, _⟩ := I.tuple h
  obtain ⟨its', r', ⟨o', e', _, n', d'⟩, _⟩ := I.tuple h'
  rw [e] at e'; cases e'
  rw [d] at d'
  injection d' with d1 _
  have : its = its' := by simpa using congrArg Array.toList d1
  subst this
  exact r.inj r'
end

abbrev Cx.wish (X : Cx) (E : Value → Shared → Prop) : Cx := { X with xe := E }
abbrev Cx.nox (X : Cx) : Cx := X.wish fun _ _ => False
theorem Cx.Ok.wish {X : Cx} (ok : X.Ok) (E : Value → Shared → Prop) : (X.wish E).Ok :=
  ⟨ok.mod, ok.kind, ok.glob, ok.blt, ok.above, ok.inj, ok.has, ok.cab, ok.hd, ok.frames, ok.stk, ok.exf, ok.bs, ok.bsz, ok.noex, ok.exfs, ok.funs, ok.frf⟩
theorem Cx.Ok.unwish {X : Cx} {E : Value → Shared → Prop} (ok : (X.wish E).Ok) : X.Ok :=
  ⟨ok.mod, ok.kind, ok.glob, ok.blt, ok.above, ok.inj, ok.has, ok.cab, ok.hd, ok.frames, ok.stk, ok.exf, ok.bs, ok.bsz, ok.noex, ok.exfs, ok.funs, ok.frf⟩
section
variable {X : Cx} {pins : List (Addr × Obj)} {σ : St} {H : Hp} {s : Shared} {E : Value → Shared → Prop}
theorem Inv.wish (I : Inv X pins σ H s) (E : Value → Shared → Prop) : Inv (X.wish E) pins σ H s := ⟨I.ok.wish E, I.os, I.bare, I.base, I.loc, I.cell, I.free, I.freeC, I.pin, I.hok, I.len⟩
theorem Inv.unwish (I : Inv (X.wish E) pins σ H s) : Inv X pins σ H s := ⟨I.ok.unwish, I.os, I.bare, I.base, I.loc, I.cell, I.free, I.freeC, I.pin, I.hok, I.len⟩
theorem SP.unwish {D : Ends} {f : Flow} {s' : Shared} (h : SP (X.wish E) pins D f s') : SP X pins D f s' := by
  cases f with
  | next => obtain ⟨σ', H', I, q⟩ := h; exact ⟨σ', H', I.unwish, q⟩
  | brk => obtain ⟨σ', H', I, q⟩ := h; exact ⟨σ', H', I.unwish, q⟩
  | cont => obtain ⟨σ', H', I, q⟩ := h; exact ⟨σ', H', I.unwish, q⟩
  | ret u => obtain ⟨v, σ', H', I, r, q⟩ := h; exact ⟨v, σ', H', I.unwish, r, q⟩
theorem PE.nox {e : Expr} {t : TE} (h : PE X.nox e t) : PE X e t := fun pins s σ H Q I hw =>
  wpAny_mono (h pins s σ H Q (I.wish _) hw) (fun _ _ ⟨v, H', I', r, q⟩ => ⟨v, H', I'.unwish, r, q⟩) fun _ _ z => False.elim z
theorem PT.nox {e : Expr} {t : TT} (h : PT X.nox e t) : PT X e t := fun pins s σ H Q I hw =>
  wpAny_mono (h pins s σ H Q (I.wish _) hw) (fun _ _ ⟨H', I', q⟩ => ⟨H', I'.unwish, q⟩) fun _ _ z => False.elim z
theorem PSs.nox {st : List Stmt} {t : TS} (h : PSs X.nox st t) : PSs X st t := fun pins s σ H D I hw =>
  wpAny_mono (h pins s σ H D (I.wish _) hw) (fun _ _ q => q.unwish) fun _ _ z => False.elim z
end

section
variable {X : Cx} {st : Stmt} {rest : List Stmt} {t u : TS} {e : Expr} {te : TE} {pos : Pos}
def tNext : TS := fun D σ H => D.nx σ H
def tSeq (t u : TS) : TS := fun D σ H => t { D with nx := u D } σ H
theorem pss_nil : PSs X [] tNext := fun _ _ σ H _ I h => wpAny_execs_nil ⟨σ, H, I, h⟩
theorem pss_cons (h1 : PS X st t) (h2 : PSs X rest u) : PSs X (st :: rest) (tSeq t u) := by
  intro pins s σ H D I h
  refine wpAny_execs_cons (thn (h1 pins s σ H { D with nx := u D } I h) fun f s1 q => ?_)
  cases f with
  | next =>
    obtain ⟨σ', H', I', q⟩ := q
    exact h2 pins s1 σ' H' D I' q
  | ret v => exact q
  | brk => exact q
  | cont => exact q
theorem pss_one (h1 : PS X st t) : PSs X [st] t := by
  intro pins s σ H D I h
  refine wpAny_execs_cons (thn (h1 pins s σ H D I h) fun f s1 q => ?_)
  cases f with
  | next => exact wpAny_execs_nil q
  | ret v => exact q
  | brk => exact q
  | cont => exact q
theorem Inv.quiet {pins : List (Addr × Obj)} {σ : St} {H : Hp} {s : Shared} (I : Inv X pins σ H s) : interactive X.env = false := by simp [interactive, I.ok.kind]
def tDrop (te : TE) : TS := fun D σ H => te σ H fun _ H1 => D.nx σ H1
theorem ps_expr (he : PE X e te) (hs : swapsWith e none pos.line X.env = pure false := by rfl) : PS X (.Expr e pos) (tDrop te) := by
  intro pins s σ H D I h
  exact wpAny_Expr_any (thn (he pins s σ H _ I h) fun v s1 ⟨x, H1, I1, r1, q1⟩ => ⟨σ, H1, I1, q1⟩) I.quiet hs
def tRet (te : TE) : TS := fun D σ H => te σ H D.rt
theorem ps_ret (he : PE X e te) : PS X (.Return (some e) pos) (tRet te) := by
  intro pins s σ H D I h
  exact wpAny_Return_some (thn (he pins s σ H _ I h) fun v s1 ⟨x, H1, I1, r1, q1⟩ => ⟨x, σ, H1, I1, r1, q1⟩)
def tIfS (c : TT) (t u : TS) : TS := fun D σ H => c σ H fun b H1 => if b = true then t D σ H1 else u D σ H1
theorem ps_if {c : Expr} {a b : List Stmt} {tc : TT} (hc : PT X c tc) (ha : PSs X a t) (hb : PSs X b u) : PS X (.If c a b pos) (tIfS tc t u) := by
  intro pins s σ H D I h
  refine wpAny_If (thn (hc pins s σ H _ I h) fun d s1 ⟨H1, I1, q1⟩ => ?_)
  cases d with
  | true => exact ha pins s1 σ H1 D I1 q1
  | false => exact hb pins s1 σ H1 D I1 q1
end

abbrev TG := V → St → Hp → (St → Hp → Prop) → Prop
abbrev TGs := List V → St → Hp → (St → Hp → Prop) → Prop
def PG (X : Cx) (target : Expr) (t : TG) : Prop :=
  ∀ (pins : List (Addr × Obj)) (s : Shared) (σ : St) (H : Hp) (v : V) (u : Value) (Q : St → Hp → Prop), Inv X pins σ H s → RelV v u → t v σ H Q →
    wpAny (model X.prog X.w) X.A (assign target X.env u) (fun _ s' => ∃ σ' H', Inv X pins σ' H' s' ∧ Q σ' H') X.xe s
def PGs (X : Cx) (ts : List Expr) (t : TGs) : Prop :=
  ∀ (pins : List (Addr × Obj)) (s : Shared) (σ : St) (H : Hp) (vs : List V) (us : List Value) (Q : St → Hp → Prop), Inv X pins σ H s → Vals vs us → t vs σ H Q →
    wpAny (model X.prog X.w) X.A (assignInOrder ((assignEach ts X.env).map (·.2)) us) (fun _ s' => ∃ σ' H', Inv X pins σ' H' s' ∧ Q σ' H') X.xe s
abbrev TSet := V → V → V → Hp → (Hp → Prop) → Prop
def PSet (X : Cx) (t : TSet) : Prop :=
  ∀ (pins : List (Addr × Obj)) (s : Shared) (σ : St) (H : Hp) (o i v : V) (ov iv u : Value) (Q : Hp → Prop), Inv X pins σ H s → RelV o ov → RelV i iv → RelV v u → t o i v H Q →
    wpAny (model X.prog X.w) X.A (setItem ov iv u) (fun _ s' => ∃ H', Inv X pins σ H' s' ∧ Q H') X.xe s
section
variable {X : Cx} {pos : Pos}
def gName (i : Nat) : TG := fun v σ H Q => Q (σ.set i (some v)) H
theorem pg_name {i : Nat} {x : Str} (hN : X.N.Nodup) (hi : X.N[i]? = some x) (hx : Loc X.env.scope x) (hf : X.fn x = true ∨ X.env.scope.names.lookup x = some .local := by first | exact .inl rfl | exact .inr rfl | assumption) : PG X (.Name x pos) (gName i) := by
  intro pins s σ H v u Q I r h
  exact wpAny_assign_Name (store_ok I hN hi hx r (fun s' I' => ⟨_, H, I', h⟩) hf)
def gNil : TGs := fun vs σ H Q => vs = [] ∧ Q σ H
def gCons (t : TG) (u : TGs) : TGs := fun vs σ H Q => ∃ v r, vs = v :: r ∧ t v σ H fun σ' H' => u r σ' H' Q
theorem pgs_nil : PGs X [] gNil := by
  intro pins s σ H vs us Q I r h
  obtain ⟨e, h⟩ := h
  subst e
  cases r
  exact assignInOrder_nil ⟨σ, H, I, h⟩
theorem pgs_cons {e : Expr} {es : List Expr} {t : TG} {u : TGs} (h1 : PG X e t) (h2 : PGs X es u)
    (hs : (assignEach (e :: es) X.env).map (·.2) = assign e X.env :: (assignEach es X.env).map (·.2) := by rfl) : PGs X (e :: es) (gCons t u) := by
  intro pins s σ H vs us Q I r h
  obtain ⟨v, vr, e1, h⟩ := h
  subst e1
  cases r with
  | cons r rr =>
    rw [hs]
    refine assignInOrder_cons (thn (h1 pins s σ H _ _ _ I r h) fun _ s1 ⟨σ1, H1, I1, q1⟩ => ?_)
    exact h2 pins s1 σ1 H1 _ _ Q I1 rr q1
def gTup (K : PySem.W.Frag) (n : Nat) (t : TGs) : TG := fun v σ H Q => ∃ a xs, v = .ref a ∧ SqT K H a xs ∧ xs.length = n ∧ t xs σ H Q
theorem pg_tup {es : List Expr} {k : Nat} {t : TGs} {n : Nat} (hc : X.calm = true) (h : PGs X es t)
    (hn : (assignEach es X.env).length = n := by rfl) (hst : (assignEach es X.env).findIdx? (·.1) = none := by rfl) : PG X (.Tuple es k pos) (gTup X.K n t) := by
  intro pins s σ H v u Q I r hw
  obtain ⟨a, xs, e1, hq, hl, hw⟩ := hw
  subst e1
  cases r
  obtain ⟨its, rv, ht, hz⟩ := I.tuple hq
  refine assign_Tuple_tuple (I.ok.hd hc) ht (by simp [hn, ← hl, rv.length]) hst fun h' hx => ?_
  have I1 : Inv X pins σ H { s with heap := h' } := I.kept (t' := s.toks) fun b o e => hx b o (Nat.ne_of_lt (Heap.lt_size e)) e
  exact h pins _ σ H xs _ Q I1 (by simpa using rv) hw
def gSub (to ti : TE) (t : TSet) : TG := fun v σ H Q => to σ H fun o H1 => ti σ H1 fun i H2 => t o i v H2 fun H3 => Q σ H3
theorem pg_sub {o i : Expr} {to ti : TE} {t : TSet} (ho : PE X o to) (hi : PE X i ti) (hs : PSet X t)
    (ha : ∀ v, assign (.Subscript o i pos) X.env v = (do
      let ov ← holding [v] (eval o X.env)
      let iv ← holding [v, ov] (eval i X.env)
      standAt pos
      holding [v, ov, iv] (setItem ov iv v)
      release [v, ov, iv] []) := by intro _; rfl) : PG X (.Subscript o i pos) (gSub to ti t) := by
  intro pins s σ H v u Q I r h
  rw [ha]
  refine wpAny_bind (wpAny_holding (thn (ho pins s σ H _ I h) fun ov s1 ⟨x, H1, I1, r1, q1⟩ => ?_))
  refine wpAny_bind (wpAny_holding (thn (hi pins s1 σ H1 _ I1 q1) fun iv s2 ⟨y, H2, I2, r2, q2⟩ => ?_))
  refine wpAny_bind (wpAny_standAt (wpAny_bind (wpAny_holding (thn (hs pins s2 σ H2 x y v ov iv u _ I2 r1 r2 r q2) fun _ s3 ⟨H3, I3, q3⟩ => ?_))))
  exact wpAny_release ⟨σ, H3, I3, q3⟩
def tAsg (te : TE) (g : TG) : TS := fun D σ H => te σ H fun x H1 => g x σ H1 D.nx
theorem ps_asg {tg e : Expr} {te : TE} {g : TG} (he : PE X e te) (hg : PG X tg g) (hs : swapsWithSole [tg] e pos.line X.env = pure false := by rfl) (hw : swappedStores [tg] e X.env = pure none := by rfl)
    (h1 : (assignEach [tg] X.env).map (·.2) = [assign tg X.env] := by rfl) : PS X (.Assign [tg] e pos) (tAsg te g) := by
  intro pins s σ H D I h
  refine wpAny_Assign_stores (thn (he pins s σ H _ I h) fun v s1 ⟨x, H1, I1, r1, q1⟩ => ?_) hs hw
  rw [h1]
  exact thn (hg pins s1 σ H1 x v _ I1 r1 q1) fun _ s2 q => q
theorem ps_set {i : Nat} {x : Str} {e : Expr} {te : TE} {pos' : Pos} (hN : X.N.Nodup) (hi : X.N[i]? = some x) (hx : Loc X.env.scope x) (he : PE X e te) (hs : swapsWith e (some (.Name x pos')) pos.line X.env = pure false := by rfl) (hf : X.fn x = true ∨ X.env.scope.names.lookup x = some .local := by first | exact .inl rfl | exact .inr rfl | assumption) :
    PS X (.Assign [.Name x pos'] e pos) (tAsg te (gName i)) := by
  intro pins s σ H D I h
  refine wpAny_Assign_Name (thn (he pins s σ H _ I h) fun v s1 ⟨y, H1, I1, r1, q1⟩ => ?_) hs
  exact store_ok I1 hN hi hx r1 (fun s2 I2 => ⟨_, H1, I2, q1⟩) hf
def tPar (i j : Nat) (ta : TA) : TS := fun D σ H => ta σ H fun vs H1 => ∃ v w, vs = [v, w] ∧ D.nx ((σ.set i (some v)).set j (some w)) H1
theorem ps_par {i j : Nat} {x y : Str} {a b : Expr} {ta : TA} {px py pt : Pos} {kt k2 pt2} (hc : X.calm = true) (hN : X.N.Nodup) (hi : X.N[i]? = some x) (hj : X.N[j]? = some y) (hij : i ≠ j)
    (hx : X.env.scope.names.lookup x = some .local) (hy : X.env.scope.names.lookup y = some .local) (ha : PA X [a, b] ta)
    (hw : swappedStores [.Tuple [.Name x px, .Name y py] kt pt] (.Tuple [a, b] k2 pt2) X.env = pure (some [x, y]))
    (hs : swapsWithSole [.Tuple [.Name x px, .Name y py] kt pt] (.Tuple [a, b] k2 pt2) pos.line X.env = pure false := by rfl) :
    PS X (.Assign [.Tuple [.Name x px, .Name y py] kt pt] (.Tuple [a, b] k2 pt2) pos) (tPar i j ta) := by
  intro pins s σ H D I h
  rw [exec_Assign_arm]
  refine wpAny_bind (wpAny_standAt ?_)
  rw [hs]
  refine wpAny_bind (wpAny_pure ?_)
  rw [if_neg (by decide)]
  refine wpAny_bind (Tuple_ (thn (ha _ pins s σ H _ I h) fun us s1 ⟨vs, H1, I1, r1, q1⟩ => ?_))
  obtain ⟨v, w, e1, q1⟩ := q1
  subst e1
  obtain ⟨u1, u2, rfl, rv, rw'⟩ : ∃ u1 u2, us = [u1, u2] ∧ RelV v u1 ∧ RelV w u2 := by
    cases r1 with
    | cons p q =>
      cases q with
      | cons p' q' =>
        cases q'
        exact ⟨_, _, rfl, p, p'⟩
  refine wpAny_newObj_type ?_ (by show 2 ≤ sizeLine; decide)
  have I2 : Inv X pins σ H1 { s1 with heap := s1.heap.push { cls := .type "tuple", data := .seq [u1, u2].toArray } } := I1.kept (t' := s1.toks) fun b o e => Heap.get?_push_of_some _ e
  rw [hw]
  refine wpAny_bind (wpAny_pure ?_)
  show wpAny (model X.prog X.w) X.A (do rule "assign.swapped-stores"; let items ← unpackItems (.ref s1.heap.objs.size) 2 none; assignInOrder [fun v => bindName X.env y v, fun v => bindName X.env x v] items.reverse; pure Flow.next) _ _ _
  refine wpAny_bind (wpAny_rule (wpAny_bind (unpackItems_tuple (items := #[u1, u2]) (I.ok.hd hc) (IsTup.new s1.heap _) fun h' hx' => ?_)))
  have I3 := I2.kept (h' := h') (t' := s1.toks) fun b o e => hx' b o (Nat.ne_of_lt (Heap.lt_size e)) e
  show wpAny _ _ (assignInOrder [fun v => bindName X.env y v, fun v => bindName X.env x v] [u2, u1] >>= fun _ => pure Flow.next) _ _ _
  refine wpAny_bind (assignInOrder_cons (wpAny_bindName (store_ok I3 hN hj (.inl hy) rw' (fun s2 I4 => ?_) (.inr hy))))
  refine assignInOrder_cons (wpAny_bindName (store_ok I4 hN hi (.inl hx) rv (fun s3 I5 => assignInOrder_nil (wpAny_pure ?_)) (.inr hx)))
  rw [List.set_comm _ _ (Ne.symm hij)] at I5
  exact ⟨_, H1, I5, q1⟩
end

section
variable {X : Cx} {pos : Pos}
end

structure It where
  go : Nat → Hp → Prop
  yld : Nat → Hp → V → Hp → Prop
  stop : Nat → Hp → Prop
def FpOk (X : Cx) (pins : List (Addr × Obj)) (H : Hp) (b : Addr) : Prop :=
  H b = none ∧ b ≠ X.env.locals ∧ b ∉ X.fs ∧ (b ∈ X.ex ∨ X.s₀.heap.objs.size ≤ b) ∧ (∀ x c, X.env.cells.lookup x = some c → c ≠ b) ∧ ∀ p ∈ X.pn ++ pins, p.1 ≠ b
theorem Inv.fpOk {X : Cx} {pins : List (Addr × Obj)} {σ : St} {H H' : Hp} {s : Shared} {b : Addr} (I : Inv X pins σ H s) (hb : s.heap.objs.size ≤ b) (hn : H' b = none) : FpOk X pins H' b := by
  refine ⟨hn, Nat.ne_of_gt (Nat.lt_of_lt_of_le I.lt hb), I.nofs hb, .inr (Nat.le_trans I.sz hb), fun x c e z => ?_, fun p hp z => ?_⟩
  · obtain ⟨v, q⟩ := I.cell x c e
    exact absurd (Nat.lt_of_lt_of_le q.lt (by rw [z]; exact hb)) (Nat.lt_irrefl _)
  · exact absurd (Nat.lt_of_lt_of_le (Heap.lt_size (I.pin p hp).1) (by rw [z]; exact hb)) (Nat.lt_irrefl _)
structure Turn (P : Program) (w : World) (K : PySem.W.Frag) (tg : Expr) (J : It) (fp : List Addr) (it : Addr) (tn : Nat → Heap → Prop) : Prop where
  mem : it ∈ fp
  obj : ∀ i h, tn i h → ∀ b ∈ fp, ∃ o, h.get? b = some o ∧ ∀ v, o.data ≠ .cell v
  keep : ∀ i h h', tn i h → (∀ b ∈ fp, ∀ o, h.get? b = some o → h'.get? b = some o) → tn i h'
  item : ∀ (X : Cx), X.prog = P → X.w = w → X.K = K → X.calm = true → ∀ (i : Nat) (pins : List (Addr × Obj)) (s : Shared) (σ : St) (H : Hp) (E : Value → Shared → Prop), Inv X pins σ H s → (∀ b ∈ fp, FpOk X pins H b) → tn i s.heap → J.go i H →
    wpAny (model P w) X.A (pyNext (.ref it)) (fun r s1 => ∃ u, r = some u ∧
      wpAny (model P w) X.A (letOwnedTupleGo tg (.ref it) u) (fun _ s2 => ∃ x H', Inv X pins σ H' s2 ∧ RelV x u ∧ J.yld i H x H' ∧ tn (i + 1) s2.heap ∧ ∀ b ∈ fp, H' b = none) E s1) E s
  done : ∀ (X : Cx), X.prog = P → X.w = w → X.K = K → X.calm = true → ∀ (i : Nat) (pins : List (Addr × Obj)) (s : Shared) (σ : St) (H : Hp) (E : Value → Shared → Prop), Inv X pins σ H s → (∀ b ∈ fp, FpOk X pins H b) → tn i s.heap → J.stop i H →
    wpAny (model P w) X.A (pyNext (.ref it)) (fun r s1 => r = none ∧ Inv X pins σ H s1) E s
  self : ∀ (A : Around) (i : Nat) (s : Shared) (Q : Value → Shared → Prop) (E : Value → Shared → Prop), tn i s.heap → Q (.ref it) s → wpAny (model P w) A (pyIter (.ref it)) Q E s
abbrev TI := St → Hp → (It → Hp → Prop) → Prop
def PIE (X : Cx) (pins : List (Addr × Obj)) (σ : St) (tg : Expr) (R : It → Hp → Prop) (itv : Value) (s2 : Shared) : Prop :=
  ∃ (it : Addr) (fp : List Addr) (tn : Nat → Heap → Prop) (J : It) (H' : Hp), itv = .ref it ∧ Inv X pins σ H' s2 ∧ Turn X.prog X.w X.K tg J fp it tn ∧ tn 0 s2.heap ∧ (∀ b ∈ fp, FpOk X pins H' b) ∧ R J H'
def PI (X : Cx) (tg iter : Expr) (wi : TI) : Prop :=
  ∀ (pins : List (Addr × Obj)) (s : Shared) (σ : St) (H : Hp) (R : It → Hp → Prop), Inv X pins σ H s → wi σ H R →
    wpAny (model X.prog X.w) X.A (eval iter X.env) (fun v s1 => wpAny (model X.prog X.w) X.A (pyIter v) (PIE X pins σ tg R) X.xe s1) X.xe s

theorem go_of {M : Model} {A : Around} {E : Value → Shared → Prop} {s : Shared} {tg : Expr} {it : Addr} {u : Value} {o : Obj} {n : String} {vs : Array Value} {Q : Unit → Shared → Prop} (ho : s.heap.get? it = some o) (hc : o.cls = .type n) (hd : o.data = .fields vs)
    (hn : ["enumerate", "zip", "dict_itemiterator", "dict_reverseitemiterator", "odict_iterator", "itertools.zip_longest", "itertools.pairwise"].contains n = false) (hQ : Q () s) : wpAny M A (letOwnedTupleGo tg (.ref it) u) Q E s := by
  unfold letOwnedTupleGo
  cases tg <;> first
    | exact wpAny_pure hQ
    | (cases u <;> first
        | exact wpAny_pure hQ
        | (refine wpAny_bind (wpAny_load ho ?_)
           rw [hc, hd]
           show wpAny M A (if (["enumerate", "zip", "dict_itemiterator", "dict_reverseitemiterator", "odict_iterator", "itertools.zip_longest", "itertools.pairwise"].contains n && vs[0]? == some (rawInt _)) = true then _ else _) Q E s
           rw [if_neg (by intro h; rw [hn, Bool.false_and] at h; cases h)]
           exact wpAny_pure hQ))

def Itl (K : PySem.W.Frag) (a : Addr) : It :=
  ⟨fun i H => ∃ xs x, SqL K H a xs ∧ xs[i]? = some x, fun i H x H' => H' = H ∧ ∀ xs, SqL K H a xs → xs[i]? = some x, fun i H => ∃ xs, SqL K H a xs ∧ xs.length ≤ i⟩
def Itt (K : PySem.W.Frag) (a : Addr) : It :=
  ⟨fun i H => ∃ xs x, SqT K H a xs ∧ xs[i]? = some x, fun i H x H' => H' = H ∧ ∀ xs, SqT K H a xs → xs[i]? = some x, fun i H => ∃ xs, SqT K H a xs ∧ xs.length ≤ i⟩
def Itr (lo : Int) (n : Nat) : It := ⟨fun i _ => i < n, fun i H x H' => H' = H ∧ x = .int (lo + i), fun i _ => n ≤ i⟩
theorem turn_list {P : Program} {w : World} {K : PySem.W.Frag} {tg : Expr} (a it : Addr) : Turn P w K tg (Itl K a) [it] it (fun i h => h.IsListIter it a i) where
  mem := by simp
  obj := fun i h st b hb => by
    have e : b = it := by simpa using hb
    subst e
    obtain ⟨o, e, c, d⟩ := st
    exact ⟨o, e, fun v z => by rw [d] at z; cases z⟩
  keep := fun i h h' st k => st.at fun o e => k it (by simp) o e
  item := by
    intro X hP hw hK hc i pins s σ H E I hf st hg
    subst hP hw hK
    obtain ⟨xs, x, hq, hx⟩ := hg
    obtain ⟨its, rv, p, hz⟩ := I.list hq
    obtain ⟨u, hu, ru⟩ := rv.get hx
    obtain ⟨f0, f1, f2, f3, f4, f5⟩ := hf it (by simp)
    refine wpAny_pyNext_list_item st p.isList (x := u) (by simpa using hu) fun h' st' sb => ?_
    have I1 : Inv X pins σ H { s with heap := h' } := I.turned (t' := s.toks) (fun b o hb e => (sb.2 b hb).trans e) f0 f1 f3 f4 f5
    obtain ⟨o, e, c, d⟩ := id st'
    exact ⟨u, rfl, go_of (s := { s with heap := h' }) e c d (by decide) ⟨x, H, I1, ru, ⟨rfl, fun ys hy => by rw [I.list_inj hy hq]; exact hx⟩, st', fun b hb => (hf b hb).1⟩⟩
  done := by
    intro X hP hw hK hc i pins s σ H E I hf st hg
    subst hP hw hK
    obtain ⟨xs, hq, hx⟩ := hg
    obtain ⟨its, rv, p, hz⟩ := I.list hq
    obtain ⟨f0, f1, f2, f3, f4, f5⟩ := hf it (by simp)
    have hl := rv.length
    exact wpAny_pyNext_list_end (I.ok.hd hc) st p.isList (by simp; omega) fun h' eb => ⟨rfl, I.turned (t' := s.toks) (fun b o hb e => eb b o hb e) f0 f1 f3 f4 f5⟩
  self := fun _ _ _ _ _ st h => wpAny_pyIter_listiter st h
theorem turn_tuple {P : Program} {w : World} {K : PySem.W.Frag} {tg : Expr} (a it : Addr) : Turn P w K tg (Itt K a) [it] it (fun i h => h.IsTupleIter it a i) where
  mem := by simp
  obj := fun i h st b hb => by
    have e : b = it := by simpa using hb
    subst e
    obtain ⟨o, e, c, d⟩ := st
    exact ⟨o, e, fun v z => by rw [d] at z; cases z⟩
  keep := fun i h h' st k => st.at fun o e => k it (by simp) o e
  item := by
    intro X hP hw hK hc i pins s σ H E I hf st hg
    subst hP hw hK
    obtain ⟨xs, x, hq, hx⟩ := hg
    obtain ⟨its, rv, p, hz⟩ := I.tuple hq
    obtain ⟨u, hu, ru⟩ := rv.get hx
    obtain ⟨f0, f1, f2, f3, f4, f5⟩ := hf it (by simp)
    refine wpAny_pyNext_tuple_item st (show s.heap.IsTuple a its.toArray from p) (x := u) (by simpa using hu) fun h' st' sb => ?_
    have I1 : Inv X pins σ H { s with heap := h' } := I.turned (t' := s.toks) (fun b o hb e => (sb.2 b hb).trans e) f0 f1 f3 f4 f5
    obtain ⟨o, e, c, d⟩ := id st'
    exact ⟨u, rfl, go_of (s := { s with heap := h' }) e c d (by decide) ⟨x, H, I1, ru, ⟨rfl, fun ys hy => by rw [I.tuple_inj hy hq]; exact hx⟩, st', fun b hb => (hf b hb).1⟩⟩
  done := by
    intro X hP hw hK hc i pins s σ H E I hf st hg
    subst hP hw hK
    obtain ⟨xs, hq, hx⟩ := hg
    obtain ⟨its, rv, p, hz⟩ := I.tuple hq
    obtain ⟨f0, f1, f2, f3, f4, f5⟩ := hf it (by simp)
    have hl := rv.length
    exact wpAny_pyNext_tuple_end (I.ok.hd hc) st (show s.heap.IsTuple a its.toArray from p) (by simp; omega) fun h' eb => ⟨rfl, I.turned (t' := s.toks) (fun b o hb e => eb b o hb e) f0 f1 f3 f4 f5⟩
  self := fun _ _ _ _ _ st h => wpAny_pyIter_tupleiter st h
theorem turn_range {P : Program} {w : World} {K : PySem.W.Frag} {tg : Expr} (it : Addr) (lo : Int) (n : Nat) : Turn P w K tg (Itr lo n) [it] it (fun i h => IsRangeIter h it (lo + (i : Nat) * 1) ((n : Int) - (i : Nat)) 1) where
  mem := by simp
  obj := fun i h st b hb => by
    have e : b = it := by simpa using hb
    subst e
    exact ⟨_, st, fun v z => by
      have z' : Data.fields _ = Data.cell v := z
      cases z'⟩
  keep := fun i h h' st k => k it (by simp) _ st
  item := by
    intro X hP hw hK hc i pins s σ H E I hf st hg
    subst hP hw hK
    obtain ⟨f0, f1, f2, f3, f4, f5⟩ := hf it (by simp)
    have W := Walks.range (prog := X.prog) (w := X.w) (I.ok.hd hc) it lo 1 n
    refine W.item i s _ _ hg st fun v h' tk hv st' kk => ?_
    obtain ⟨t, rfl⟩ := hv
    have I1 : Inv X pins σ H { s with heap := h', toks := tk } := I.turned (fun b o hb e => kk b o (by simpa using hb) e) f0 f1 f3 f4 f5
    refine ⟨_, rfl, go_of (s := { s with heap := h', toks := tk }) (n := "range_iterator") st' rfl rfl (by decide) ⟨.int (lo + i), H, I1, ⟨t, ?_⟩, ⟨rfl, rfl⟩, st', fun b hb => (hf b hb).1⟩⟩
    rw [Int.mul_one]
  done := by
    intro X hP hw hK hc i pins s σ H E I hf st hg
    subst hP hw hK
    obtain ⟨f0, f1, f2, f3, f4, f5⟩ := hf it (by simp)
    exact wpAny_pyNext_range_end (I.ok.hd hc) st (by have : n ≤ i := hg; omega) fun h' eb => ⟨rfl, I.turned (t' := s.toks) (fun b o hb e => eb b o hb e) f0 f1 f3 f4 f5⟩
  self := fun _ _ _ _ _ st h => wpAny_pyIter_rangeiter st h
end L2

namespace L2
open PySem PySem.Spec PyProof.Rows
section
variable {X : Cx} {tg : Expr}
def iList (K : PySem.W.Frag) (tl : TE) : TI := fun σ H R => tl σ H fun x H1 => ∃ a, x = .ref a ∧ (∃ xs, SqL K H1 a xs) ∧ R (Itl K a) H1
def iTup (K : PySem.W.Frag) (tl : TE) : TI := fun σ H R => tl σ H fun x H1 => ∃ a, x = .ref a ∧ (∃ xs, SqT K H1 a xs) ∧ R (Itt K a) H1
theorem pi_list {l : Expr} {tl : TE} (hl : PE X l tl) : PI X tg l (iList X.K tl) := by
  intro pins s σ H R I h
  refine thn (hl pins s σ H _ I h) fun v s1 ⟨x, H1, I1, r1, q1⟩ => ?_
  obtain ⟨a, e, ⟨xs, hq⟩, q⟩ := q1
  subst e
  cases r1
  obtain ⟨its, rv, p, hz⟩ := I1.list hq
  refine wpAny_pyIter_list p.isList ?_
  refine ⟨s1.heap.objs.size, [s1.heap.objs.size], _, _, H1, rfl, I1.kept (t' := s1.toks) fun b o e => Heap.get?_push_of_some _ e, turn_list a _, ⟨_, Heap.get?_push_size _ rfl, rfl, rfl⟩, fun b hb => ?_, q⟩
  have e : b = s1.heap.objs.size := by simpa using hb
  subst e
  exact I1.fpOk (Nat.le_refl _) (I1.hok.fresh (Nat.le_refl _))
theorem pi_tup {l : Expr} {tl : TE} (hl : PE X l tl) : PI X tg l (iTup X.K tl) := by
  intro pins s σ H R I h
  refine thn (hl pins s σ H _ I h) fun v s1 ⟨x, H1, I1, r1, q1⟩ => ?_
  obtain ⟨a, e, ⟨xs, hq⟩, q⟩ := q1
  subst e
  cases r1
  obtain ⟨its, rv, p, hz⟩ := I1.tuple hq
  refine wpAny_pyIter_tuple (show s1.heap.IsTuple a its.toArray from p) ?_
  refine ⟨s1.heap.objs.size, [s1.heap.objs.size], _, _, H1, rfl, I1.kept (t' := s1.toks) fun b o e => Heap.get?_push_of_some _ e, turn_tuple a _, ⟨_, Heap.get?_push_size _ rfl, rfl, rfl⟩, fun b hb => ?_, q⟩
  have e : b = s1.heap.objs.size := by simpa using hb
  subst e
  exact I1.fpOk (Nat.le_refl _) (I1.hok.fresh (Nat.le_refl _))
theorem range_it {pins : List (Addr × Obj)} {σ : St} {H : Hp} {s : Shared} {R : It → Hp → Prop} {E : Value → Shared → Prop} {lo hi : Int} {t u v : Tok} {tk : Nat} (I : Inv X pins σ H s) (h1 : -(2 ^ 62) ≤ lo) (h2 : lo < 2 ^ 62) (h3 : -(2 ^ 62) ≤ hi) (h4 : hi < 2 ^ 62)
    (q : R (Itr lo (hi - lo).toNat) H) : wpAny (model X.prog X.w) X.A (pyIter (.ref s.heap.objs.size)) (PIE X pins σ tg R) E { s with heap := s.heap.push { cls := .type "range", data := .fields #[.int lo t, .int hi u, .int 1 v] }, toks := tk } := by
  refine wpAny_pyIter_range (IsRange.new ..) (small_one h1 h2 h3 h4) ?_
  have I1 : Inv X pins σ H { s with heap := s.heap.push { cls := .type "range", data := .fields #[.int lo t, .int hi u, .int 1 v] }, toks := tk } := I.kept fun b o e => Heap.get?_push_of_some _ e
  refine ⟨(s.heap.push { cls := .type "range", data := .fields #[.int lo t, .int hi u, .int 1 v] }).objs.size, [(s.heap.push { cls := .type "range", data := .fields #[.int lo t, .int hi u, .int 1 v] }).objs.size], _, _, H, rfl,
    I1.kept (t' := tk) fun b o e => Heap.get?_push_of_some _ e, turn_range _ lo (hi - lo).toNat, ?_, fun b hb => ?_, q⟩
  · have e1 : lo + ((0 : Nat) : Int) * 1 = lo := by simp
    have e2 : (((hi - lo).toNat : Nat) : Int) - ((0 : Nat) : Int) = Builtin.Range.rangeSize lo hi 1 := by rw [rangeSize_one]; split <;> omega
    show IsRangeIter _ _ (lo + ((0 : Nat) : Int) * 1) ((((hi - lo).toNat : Nat) : Int) - ((0 : Nat) : Int)) 1
    rw [e1, e2]
    exact Heap.get?_push_size _ rfl
  · have e : b = (s.heap.push { cls := .type "range", data := .fields #[.int lo t, .int hi u, .int 1 v] }).objs.size := by simpa using hb
    subst e
    exact I1.fpOk (Nat.le_refl _) (I1.hok.fresh (Nat.le_refl _))
def iRng1 (ta : TA) : TI := fun σ H R => ta σ H fun vs H1 => ∃ j : Int, vs = [.int j] ∧ -(2 ^ 62) ≤ j ∧ j < 2 ^ 62 ∧ R (Itr 0 j.toNat) H1
theorem pi_range1 {a : Expr} {ta : TA} {p pos : Pos} (hg : Gl X "range") (hm : X.mg "range" = none) (ha : PA X [a] ta) (hs : starEach [a] X.env = [(false, eval a X.env)] := by rfl) : PI X tg (.Call (.Name "range" p) [a] [] pos) (iRng1 ta) := by
  intro pins s σ H R I h
  refine Call_ (ld_blt I hg hm boot_range (PyProof.Rows.callWith_type1 (thn (ha pos pins s σ H _ I h) fun us s1 ⟨vs, H1, I1, r1, q1⟩ => ?_) hs rfl))
  obtain ⟨j, e, q1, q2, q⟩ := q1
  subst e
  cases r1 with
  | cons r rr =>
    cases rr
    obtain ⟨t, rfl⟩ := r
    exact call_range_1 (range_it I1 (by omega) (by omega) q1 q2 (by simpa using q))
def tFor (wi : TI) (g : TG) (tb : TS) : TS := fun D σ H => wi σ H fun J H1 => ∃ W : Nat → Nat → St → Hp → Prop, (∃ m, W 0 m σ H1) ∧ ∀ i m σ H, W i m σ H →
  (J.stop i H ∧ D.nx σ H) ∨ (J.go i H ∧ ∃ N : St → Hp → Prop, (∀ σ' H', N σ' H' → ∃ m', m' < m ∧ W (i + 1) m' σ' H') ∧ ∀ x H', J.yld i H x H' → g x σ H' fun σ2 H2 => tb { D with nx := N, ct := N, bk := D.nx } σ2 H2)
def pinsAt (fp : List Addr) (h : Heap) : List (Addr × Obj) := fp.filterMap fun b => (h.get? b).map fun o => (b, o)
theorem mem_pinsAt {fp : List Addr} {h : Heap} {b : Addr} {o : Obj} (hb : b ∈ fp) (e : h.get? b = some o) : (b, o) ∈ pinsAt fp h := List.mem_filterMap.mpr ⟨b, hb, by rw [e]; rfl⟩
theorem of_pinsAt {fp : List Addr} {h : Heap} {p : Addr × Obj} (hp : p ∈ pinsAt fp h) : p.1 ∈ fp ∧ h.get? p.1 = some p.2 := by
  obtain ⟨b, hb, e⟩ := List.mem_filterMap.mp hp
  cases q : h.get? b with
  | none => rw [q] at e; cases e
  | some o =>
    rw [q] at e
    have e' : (b, o) = p := Option.some.inj e
    subst e'
    exact ⟨hb, q⟩
theorem Inv.pinned {pins : List (Addr × Obj)} {σ : St} {H : Hp} {s : Shared} {fp : List Addr} (I : Inv X pins σ H s) (hf : ∀ b ∈ fp, FpOk X pins H b) (ho : ∀ b ∈ fp, ∃ o, s.heap.get? b = some o ∧ ∀ v, o.data ≠ .cell v) : Inv X (pins ++ pinsAt fp s.heap) σ H s :=
  I.pins_of fun p hp => (List.mem_append.mp hp).elim (fun z => I.pin p (List.mem_append_right _ z)) fun z => by
    obtain ⟨hb, e⟩ := of_pinsAt z
    obtain ⟨f0, f1, f2, _⟩ := hf p.1 hb
    obtain ⟨o, e', d⟩ := ho p.1 hb
    rw [e] at e'; cases e'
    exact ⟨e, f0, f1, f2, d⟩
theorem Inv.unpinned {pins pl : List (Addr × Obj)} {σ : St} {H : Hp} {s : Shared} (I : Inv X (pins ++ pl) σ H s) : Inv X pins σ H s := I.pins_of fun p hp => I.pin p (List.mem_append_right _ (List.mem_append_left _ hp))
theorem ps_for {iter : Expr} {body : List Stmt} {wi : TI} {g : TG} {tb : TS} {pos : Pos} (hp : PassesOwn (model X.prog X.w) X.A X.env X.xe) (hc : X.calm = true) (hi : PI X tg iter wi) (hg : PG X tg g) (hb : PSs X body tb)
    (hs : ∀ x, foldedSetIterable iter X.env x = pure x := by intro _; rfl) : PS X (.For tg iter body [] pos) (tFor wi g tb) := by
  intro pins s σ H D I h
  refine wpAny_For (thn (hi pins s σ H _ I h) fun v s1 h1 => thn h1 fun itv s2 h2 => ?_) hs
  obtain ⟨it, fp, tn, J, H2, e, I2, T, st2, f2, W, ⟨m0, w0⟩, turn⟩ := h2
  subst e
  -- what stays true of the iterator's objects through the loop
  have stat : ∀ {H' : Hp}, (∀ b ∈ fp, H' b = none) → ∀ b ∈ fp, FpOk X pins H' b := fun hn b hb => ⟨hn b hb, (f2 b hb).2⟩
  refine codeAny_forLoop_any (fun n s' => ∃ i σ' H', Inv X pins σ' H' s' ∧ tn i s'.heap ∧ (∀ b ∈ fp, H' b = none) ∧ W i n σ' H') ?_ m0 ⟨0, σ, H2, I2, st2, fun b hb => (f2 b hb).1, w0⟩
  rintro n s3 ⟨i, σ3, H3, I3, st3, fr3, w3⟩
  rcases turn i n σ3 H3 w3 with ⟨stop, qn⟩ | ⟨go, N, hN, step⟩
  · refine wpAny_passesOwn hp (thn (T.done X rfl rfl rfl hc i pins s3 σ3 H3 X.xe I3 (stat fr3) st3 stop) fun r s4 ⟨hr, I4⟩ => ?_)
    subst hr
    exact wpAny_execs_nil ⟨σ3, H3, I4, qn⟩
  · refine wpAny_passesOwn hp (thn (T.item X rfl rfl rfl hc i pins s3 σ3 H3 X.xe I3 (stat fr3) st3 go) fun r s4 ⟨u, hr, h4⟩ => ?_)
    subst hr
    refine wpAny_passesOwn hp (thn h4 fun _ s5 ⟨x, H5, I5, r5, y5, st5, fr5⟩ => ?_)
    have I5' := I5.pinned (stat fr5) (T.obj _ _ st5)
    refine wpAny_passesOwn hp (thn (hg _ s5 σ3 H5 x u _ I5' r5 (step x H5 y5)) fun _ s6 ⟨σ6, H6, I6, q6⟩ => ?_)
    refine wpAny_passesOwn hp (thn (hb _ s6 σ6 H6 _ I6 q6) fun f s7 q7 => ?_)
    have again : ∀ {σ7 : St} {H7 : Hp}, Inv X (pins ++ pinsAt fp s5.heap) σ7 H7 s7 → N σ7 H7 → ∃ m, m < n ∧ ∃ i σ' H', Inv X pins σ' H' s7 ∧ tn i s7.heap ∧ (∀ b ∈ fp, H' b = none) ∧ W i m σ' H' := fun {σ7 H7} I7 n7 => by
      obtain ⟨m', hm, w7⟩ := hN σ7 H7 n7
      refine ⟨m', hm, i + 1, σ7, H7, I7.unpinned, T.keep _ _ _ st5 fun b hb o e => (I7.pin (b, o) (List.mem_append_right _ (List.mem_append_right _ (mem_pinsAt hb e)))).1, fun b hb => ?_, w7⟩
      obtain ⟨o, e, d⟩ := T.obj _ _ st5 b hb
      exact (I7.pin (b, o) (List.mem_append_right _ (List.mem_append_right _ (mem_pinsAt hb e)))).2.1
    cases f with
    | next => obtain ⟨σ7, H7, I7, n7⟩ := q7; exact again I7 n7
    | cont => obtain ⟨σ7, H7, I7, n7⟩ := q7; exact again I7 n7
    | brk => obtain ⟨σ7, H7, I7, q7⟩ := q7; exact ⟨σ7, H7, I7.unpinned, q7⟩
    | ret v => obtain ⟨x7, σ7, H7, I7, r7, q7⟩ := q7; exact ⟨x7, σ7, H7, I7.unpinned, r7, q7⟩
end

theorem for_list {K : PySem.W.Frag} {a : Addr} {xs : List V} {g : TG} {tb : TS} {D : Ends} {σ : St} {H : Hp} (Pv : Nat → St → Hp → Prop) (h0 : Pv 0 σ H) (hl : ∀ i σ H, i ≤ xs.length → Pv i σ H → SqL K H a xs)
    (hs : ∀ i x σ H, xs[i]? = some x → Pv i σ H → g x σ H fun σ2 H2 => tb { D with nx := Pv (i + 1), ct := Pv (i + 1), bk := D.nx } σ2 H2) (hd : ∀ σ H, Pv xs.length σ H → D.nx σ H) :
    ∃ W : Nat → Nat → St → Hp → Prop, (∃ m, W 0 m σ H) ∧ ∀ i m σ H, W i m σ H →
      ((Itl K a).stop i H ∧ D.nx σ H) ∨ ((Itl K a).go i H ∧ ∃ N : St → Hp → Prop, (∀ σ' H', N σ' H' → ∃ m', m' < m ∧ W (i + 1) m' σ' H') ∧ ∀ x H', (Itl K a).yld i H x H' → g x σ H' fun σ2 H2 => tb { D with nx := N, ct := N, bk := D.nx } σ2 H2) := by
  refine ⟨fun i m σ H => m = xs.length - i ∧ i ≤ xs.length ∧ Pv i σ H, ⟨xs.length, by simp, Nat.zero_le _, h0⟩, ?_⟩
  rintro i m σ H ⟨rfl, hi, p⟩
  have q := hl i σ H hi p
  by_cases hlt : i < xs.length
  · refine .inr ⟨⟨xs, xs[i], q, by simp [hlt]⟩, Pv (i + 1), fun σ' H' p' => ⟨xs.length - (i + 1), by omega, rfl, hlt, p'⟩, fun x H' y => ?_⟩
    obtain ⟨e, y⟩ := y
    subst e
    exact hs i x σ _ (y xs q) p
  · have e : i = xs.length := by omega
    subst e
    exact .inl ⟨⟨xs, q, Nat.le_refl _⟩, hd σ H p⟩
theorem for_range {lo : Int} {n : Nat} {g : TG} {tb : TS} {D : Ends} {σ : St} {H : Hp} (Pv : Nat → St → Hp → Prop) (h0 : Pv 0 σ H)
    (hs : ∀ i σ H, i < n → Pv i σ H → g (.int (lo + i)) σ H fun σ2 H2 => tb { D with nx := Pv (i + 1), ct := Pv (i + 1), bk := D.nx } σ2 H2) (hd : ∀ σ H, Pv n σ H → D.nx σ H) :
    ∃ W : Nat → Nat → St → Hp → Prop, (∃ m, W 0 m σ H) ∧ ∀ i m σ H, W i m σ H →
      ((Itr lo n).stop i H ∧ D.nx σ H) ∨ ((Itr lo n).go i H ∧ ∃ N : St → Hp → Prop, (∀ σ' H', N σ' H' → ∃ m', m' < m ∧ W (i + 1) m' σ' H') ∧ ∀ x H', (Itr lo n).yld i H x H' → g x σ H' fun σ2 H2 => tb { D with nx := N, ct := N, bk := D.nx } σ2 H2) := by
  refine ⟨fun i m σ H => m = n - i ∧ i ≤ n ∧ Pv i σ H, ⟨n, by simp, Nat.zero_le _, h0⟩, ?_⟩
  rintro i m σ H ⟨rfl, hi, p⟩
  by_cases hlt : i < n
  · refine .inr ⟨hlt, Pv (i + 1), fun σ' H' p' => ⟨n - (i + 1), by omega, rfl, hlt, p'⟩, fun x H' y => ?_⟩
    obtain ⟨e, y⟩ := y
    subst e y
    exact hs i σ _ hlt p
  · have e : i = n := by omega
    subst e
    exact .inl ⟨Nat.le_refl _, hd σ H p⟩
end L2

namespace L2
open PySem PySem.Spec PyProof.Rows

abbrev R2 := V → V → Hp → VK → Prop
def OpR (X : Cx) (f : Value → Value → Sem Value) (r : R2) : Prop :=
  ∀ (pins : List (Addr × Obj)) (s : Shared) (σ : St) (H : Hp) (x y : V) (v u : Value) (Q : VK), Inv X pins σ H s → RelV x v → RelV y u → r x y H Q →
    wpAny (model X.prog X.w) X.A (f v u) (EP X pins σ Q) X.xe s
def UnR (X : Cx) (f : Value → Sem Value) (r : V → Hp → VK → Prop) : Prop :=
  ∀ (pins : List (Addr × Obj)) (s : Shared) (σ : St) (H : Hp) (x : V) (v : Value) (Q : VK), Inv X pins σ H s → RelV x v → r x H Q →
    wpAny (model X.prog X.w) X.A (f v) (EP X pins σ Q) X.xe s
def CallR (X : Cx) (f : Value) (r : List V → Hp → VK → Prop) : Prop :=
  ∀ (pins : List (Addr × Obj)) (s : Shared) (σ : St) (H : Hp) (xs : List V) (us : List Value) (Q : VK), Inv X pins σ H s → Vals xs us → r xs H Q →
    wpAny (model X.prog X.w) X.A (call f us) (EP X pins σ Q) X.xe s
def tOp (r : R2) (ta tb : TE) : TE := fun σ H Q => ta σ H fun x H1 => tb σ H1 fun y H2 => r x y H2 Q
def tUn (r : V → Hp → VK → Prop) (ta : TE) : TE := fun σ H Q => ta σ H fun x H1 => r x H1 Q
def rI (C : Int → Int → Prop) (g : Int → Int → V) : R2 := fun x y H Q => ∃ i j, x = .int i ∧ y = .int j ∧ C i j ∧ Q (g i j) H
def rI0 (g : Int → Int → V) : R2 := fun x y H Q => ∃ i j, x = .int i ∧ y = .int j ∧ Q (g i j) H
def rU (g : Int → V) : V → Hp → VK → Prop := fun x H Q => ∃ i, x = .int i ∧ Q (g i) H

section
variable {X : Cx} {a b c : Expr} {ta tb tc : TE} {pos : Pos}

theorem binT (ha : PE X a ta) (hb : PE X b tb) {pins : List (Addr × Obj)} {s : Shared} {σ : St} {H : Hp} {R : V → V → Hp → Prop} (I : Inv X pins σ H s)
    (h : ta σ H fun x H1 => tb σ H1 fun y H2 => R x y H2) {Q : Value → Shared → Prop} {f : Value → Value → Sem Value}
    (hf : ∀ v u s2 x y H2, Inv X pins σ H2 s2 → RelV x v → RelV y u → R x y H2 → wpAny (model X.prog X.w) X.A (f v u) Q X.xe s2) :
    wpAny (model X.prog X.w) X.A (eval a X.env) (fun v s₁ => wpAny (model X.prog X.w) X.A (eval b X.env) (fun u s₂ => wpAny (model X.prog X.w) X.A (f v u) Q X.xe s₂) X.xe s₁) X.xe s := by
  refine thn (ha pins s σ H _ I h) fun v s1 ⟨x, H1, I1, r1, q1⟩ => ?_
  refine thn (hb pins s1 σ H1 _ I1 q1) fun u s2 ⟨y, H2, I2, r2, q2⟩ => ?_
  exact hf v u s2 x y H2 I2 r1 r2 q2

theorem pe_op {op : Operator} {r : R2} (ho : OpR X (binaryOp op) r) (ha : PE X a ta) (hb : PE X b tb) : PE X (.BinOp a op b pos) (tOp r ta tb) := by
  intro pins s σ H Q I h
  exact wpAny_BinOp (binT ha hb I h fun v u s2 x y H2 I2 rx ry q => ho pins s2 σ H2 x y v u Q I2 rx ry q)
theorem pe_un {op : UnaryOp} {r : V → Hp → VK → Prop} (ho : UnR X (unaryOp op) r) (ha : PE X a ta) : PE X (.UnaryOp op a pos) (tUn r ta) := by
  intro pins s σ H Q I h
  exact UnaryOp_ (thn (ha pins s σ H _ I h) fun v s1 ⟨x, H1, I1, r1, q1⟩ => ho pins s1 σ H1 x v Q I1 r1 q1)
theorem opI {f : Value → Value → Sem Value} {C : Int → Int → Prop} {g : Int → Int → Int}
    (rule : ∀ (i j : Int) (t u : Tok) (s : Shared) (Q : Value → Shared → Prop) (E : Value → Shared → Prop), C i j → Q (.int (g i j) s.toks) { s with toks := s.toks + 1 } → wpAny (model X.prog X.w) X.A (f (.int i t) (.int j u)) Q E s) :
    OpR X f (rI C fun i j => .int (g i j)) := by
  intro pins s σ H x y v u Q I rx ry h
  obtain ⟨i, j, rfl, rfl, hc, q⟩ := h
  obtain ⟨t, rfl⟩ := rx
  obtain ⟨t', rfl⟩ := ry
  exact rule i j t t' s _ _ hc ⟨.int (g i j), H, I.tok _, ⟨_, rfl⟩, q⟩
theorem opI0 {f : Value → Value → Sem Value} {g : Int → Int → Int}
    (rule : ∀ (i j : Int) (t u : Tok) (s : Shared) (Q : Value → Shared → Prop) (E : Value → Shared → Prop), Q (.int (g i j) s.toks) { s with toks := s.toks + 1 } → wpAny (model X.prog X.w) X.A (f (.int i t) (.int j u)) Q E s) :
    OpR X f (rI0 fun i j => .int (g i j)) := by
  intro pins s σ H x y v u Q I rx ry h
  obtain ⟨i, j, rfl, rfl, q⟩ := h
  obtain ⟨t, rfl⟩ := rx
  obtain ⟨t', rfl⟩ := ry
  exact rule i j t t' s _ _ ⟨.int (g i j), H, I.tok _, ⟨_, rfl⟩, q⟩
theorem opB0 {f : Value → Value → Sem Value} {g : Int → Int → Bool}
    (rule : ∀ (i j : Int) (t u : Tok) (s : Shared) (Q : Value → Shared → Prop) (E : Value → Shared → Prop), Q (.bool (g i j)) s → wpAny (model X.prog X.w) X.A (f (.int i t) (.int j u)) Q E s) :
    OpR X f (rI0 fun i j => .bl (g i j)) := by
  intro pins s σ H x y v u Q I rx ry h
  obtain ⟨i, j, rfl, rfl, q⟩ := h
  obtain ⟨t, rfl⟩ := rx
  obtain ⟨t', rfl⟩ := ry
  exact rule i j t t' s _ _ ⟨.bl (g i j), H, I, rfl, q⟩

def CPow (i j : Int) : Prop := 0 ≤ j ∧ j ≤ 1000000 ∧ i.natAbs < 2 ^ 64
def CMul (i j : Int) : Prop := (-(2 ^ 64) < i ∧ i < 2 ^ 64) ∨ (-(2 ^ 64) < j ∧ j < 2 ^ 64)
theorem CMul.ok {i j : Int} (h : CMul i j) : IntMulOk i j := by
  rcases h with ⟨h1, h2⟩ | ⟨h1, h2⟩
  · exact .of_left (intBits_le_64 h1 h2)
  · exact .of_right (intBits_le_64 h1 h2)
theorem op_add : OpR X (binaryOp .Add) (rI0 fun i j => .int (i + j)) := opI0 fun _ _ _ _ _ _ _ q => add_int q
theorem op_sub : OpR X (binaryOp .Sub) (rI0 fun i j => .int (i - j)) := opI0 fun _ _ _ _ _ _ _ q => sub_int q
theorem op_mul : OpR X (binaryOp .Mult) (rI CMul fun i j => .int (i * j)) := opI fun _ _ _ _ _ _ _ hc q => mul_int q hc.ok
theorem op_mod : OpR X (binaryOp .Mod) (rI (fun _ j => 0 < j) fun i j => .int (i % j)) := opI fun i j _ _ _ _ _ hc q => by
  have h1 : (0 : Int) < j := hc
  exact mod_int' (by omega) (by rw [Int.fmod_eq_emod_of_nonneg i (by omega)]; exact q)
theorem op_pow : OpR X (binaryOp .Pow) (rI CPow fun i j => .int (i ^ j.toNat)) := opI fun _ _ _ _ _ _ _ hc q => pow_int_small hc.1 hc.2.1 hc.2.2 q
theorem unI {f : Value → Sem Value} {g : Int → Int}
    (rule : ∀ (i : Int) (t : Tok) (s : Shared) (Q : Value → Shared → Prop) (E : Value → Shared → Prop), Q (.int (g i) s.toks) { s with toks := s.toks + 1 } → wpAny (model X.prog X.w) X.A (f (.int i t)) Q E s) :
    UnR X f (rU fun i => .int (g i)) := by
  intro pins s σ H x v Q I rx h
  obtain ⟨i, rfl, q⟩ := h
  obtain ⟨t, rfl⟩ := rx
  exact rule i t s _ _ ⟨.int (g i), H, I.tok _, ⟨_, rfl⟩, q⟩
theorem un_neg : UnR X (unaryOp .USub) (rU fun i => .int (-i)) := unI fun _ _ _ _ _ q => neg_int q
end

def scal : V → V → Bool
  | .non, .non => true | .non, .int _ => true | .int _, .non => true | .non, .bl _ => true | .bl _, .non => true | .non, .str _ => true | .str _, .non => true
  | .int _, .int _ => true | .bl _, .bl _ => true | .str _, .str _ => true | .byt _, .byt _ => true
  | .int _, .str _ => true | .str _, .int _ => true | .bl _, .str _ => true | .str _, .bl _ => true
  | _, _ => false
def rEq : R2 := fun x y H Q => scal x y = true ∧ Q (.bl (decide (x = y))) H
def rNe : R2 := fun x y H Q => scal x y = true ∧ Q (.bl (!decide (x = y))) H

theorem dec_int {i j : Int} : decide (V.int i = V.int j) = (i == j) := by
  rw [Bool.eq_iff_iff]
  simp
theorem dec_bl {i j : Bool} : decide (V.bl i = V.bl j) = (i == j) := by
  rw [Bool.eq_iff_iff]
  simp
theorem dec_str {i j : Str} : decide (V.str i = V.str j) = (i == j) := by
  rw [Bool.eq_iff_iff]
  simp
theorem dec_byt {i j : Array UInt8} : decide (V.byt i = V.byt j) = (i.toList == j.toList) := by
  rw [Bool.eq_iff_iff]
  cases i
  cases j
  simp

section
variable {X : Cx} {a b c : Expr} {ta tb tc : TE} {pos : Pos}
theorem fin_bl {pins : List (Addr × Obj)} {σ : St} {H : Hp} {s : Shared} {Q : VK} {k k' : Bool} (I : Inv X pins σ H s) (q : Q (.bl k) H) (e : k = k') : EP X pins σ Q (.bool k') s := by
  subst e
  exact ⟨.bl k, H, I, rfl, q⟩
theorem op_eq : OpR X (compareOp .Eq) rEq := by
  intro pins s σ H x y v u Q I rx ry h
  obtain ⟨hs, q⟩ := h
  cases x with
  | non =>
    cases rx
    cases y with
    | non => cases ry; exact PySem.EqNone.eq_none_none (fin_bl I q (by simp))
    | bl j => cases ry; exact PySem.EqNone.eq_none_bool (fin_bl I q (by simp))
    | int j => obtain ⟨t', rfl⟩ := ry; exact PySem.EqNone.eq_none_int (fin_bl I q (by simp))
    | str j => obtain ⟨t', rfl⟩ := ry; exact PySem.EqNone.eq_none_str (fin_bl I q (by simp))
    | _ => exact absurd (show false = true from hs) Bool.false_ne_true
  | bl i =>
    cases rx
    cases y with
    | non => cases ry; exact PySem.EqNone.eq_bool_none (fin_bl I q (by simp))
    | bl j => cases ry; exact eq_bool (fin_bl I q dec_bl)
    | str j => obtain ⟨t', rfl⟩ := ry; exact PySem.EqMixed.eq_bool_str (fin_bl I q (by simp))
    | _ => exact absurd (show false = true from hs) Bool.false_ne_true
  | int i =>
    obtain ⟨t, rfl⟩ := rx
    cases y with
    | non => cases ry; exact PySem.EqNone.eq_int_none (fin_bl I q (by simp))
    | int j => obtain ⟨t', rfl⟩ := ry; exact eq_int (fin_bl I q dec_int)
    | str j => obtain ⟨t', rfl⟩ := ry; exact PySem.EqMixed.eq_int_str (fin_bl I q (by simp))
    | _ => exact absurd (show false = true from hs) Bool.false_ne_true
  | str i =>
    obtain ⟨t, rfl⟩ := rx
    cases y with
    | non => cases ry; exact PySem.EqNone.eq_str_none (fin_bl I q (by simp))
    | bl j => cases ry; exact PySem.EqMixed.eq_str_bool (fin_bl I q (by simp))
    | int j => obtain ⟨t', rfl⟩ := ry; exact PySem.EqMixed.eq_str_int (fin_bl I q (by simp))
    | str j => obtain ⟨t', rfl⟩ := ry; exact eq_str (fin_bl I q dec_str)
    | _ => exact absurd (show false = true from hs) Bool.false_ne_true
  | byt i =>
    obtain ⟨t, rfl⟩ := rx
    cases y with
    | byt j => obtain ⟨t', rfl⟩ := ry; exact PySem.W.eq_bytes (fin_bl I q dec_byt)
    | _ => exact absurd (show false = true from hs) Bool.false_ne_true
  | _ => cases y <;> exact absurd (show false = true from hs) Bool.false_ne_true
theorem op_ne : OpR X (compareOp .NotEq) rNe := by
  intro pins s σ H x y v u Q I rx ry h
  obtain ⟨hs, q⟩ := h
  cases x with
  | non =>
    cases rx
    cases y with
    | non => cases ry; exact PySem.EqNone.ne_none_none (fin_bl I q (by simp))
    | bl j => cases ry; exact PySem.EqNone.ne_none_bool (fin_bl I q (by simp))
    | int j => obtain ⟨t', rfl⟩ := ry; exact PySem.EqNone.ne_none_int (fin_bl I q (by simp))
    | str j => obtain ⟨t', rfl⟩ := ry; exact PySem.EqNone.ne_none_str (fin_bl I q (by simp))
    | _ => exact absurd (show false = true from hs) Bool.false_ne_true
  | bl i =>
    cases rx
    cases y with
    | non => cases ry; exact PySem.EqNone.ne_bool_none (fin_bl I q (by simp))
    | bl j => cases ry; exact ne_bool (fin_bl I q (congrArg not dec_bl))
    | str j => obtain ⟨t', rfl⟩ := ry; exact PySem.EqMixed.ne_bool_str (fin_bl I q (by simp))
    | _ => exact absurd (show false = true from hs) Bool.false_ne_true
  | int i =>
    obtain ⟨t, rfl⟩ := rx
    cases y with
    | non => cases ry; exact PySem.EqNone.ne_int_none (fin_bl I q (by simp))
    | int j => obtain ⟨t', rfl⟩ := ry; exact ne_int (fin_bl I q (congrArg not dec_int))
    | str j => obtain ⟨t', rfl⟩ := ry; exact PySem.EqMixed.ne_int_str (fin_bl I q (by simp))
    | _ => exact absurd (show false = true from hs) Bool.false_ne_true
  | str i =>
    obtain ⟨t, rfl⟩ := rx
    cases y with
    | non => cases ry; exact PySem.EqNone.ne_str_none (fin_bl I q (by simp))
    | bl j => cases ry; exact PySem.EqMixed.ne_str_bool (fin_bl I q (by simp))
    | int j => obtain ⟨t', rfl⟩ := ry; exact PySem.EqMixed.ne_str_int (fin_bl I q (by simp))
    | str j => obtain ⟨t', rfl⟩ := ry; exact ne_str (fin_bl I q (congrArg not dec_str))
    | _ => exact absurd (show false = true from hs) Bool.false_ne_true
  | byt i =>
    obtain ⟨t, rfl⟩ := rx
    cases y with
    | byt j => obtain ⟨t', rfl⟩ := ry; exact PySem.W.ne_bytes (fin_bl I q (congrArg not dec_byt))
    | _ => exact absurd (show false = true from hs) Bool.false_ne_true
  | _ => cases y <;> exact absurd (show false = true from hs) Bool.false_ne_true

theorem op_lt : OpR X (compareOp .Lt) (rI0 fun i j => .bl (decide (i < j))) := opB0 fun _ _ _ _ _ _ _ q => lt_int q
theorem op_le : OpR X (compareOp .LtE) (rI0 fun i j => .bl (decide (i ≤ j))) := opB0 fun _ _ _ _ _ _ _ q => le_int q
theorem op_gt : OpR X (compareOp .Gt) (rI0 fun i j => .bl (decide (j < i))) := opB0 fun _ _ _ _ _ _ _ q => gt_int q
theorem op_ge : OpR X (compareOp .GtE) (rI0 fun i j => .bl (decide (j ≤ i))) := opB0 fun _ _ _ _ _ _ _ q => ge_int q
theorem op_isN : OpR X (compareOp .Is) (fun x y H Q => y = .non ∧ Q (.bl (decide (x = .non))) H) := by
  intro pins s σ H x y v u Q I rx ry h
  obtain ⟨rfl, q⟩ := h
  cases ry
  refine is_none_gen (fin_bl I q ?_)
  cases x <;> first
    | (cases rx; rfl)
    | (obtain ⟨t, rfl⟩ := rx; rfl)
theorem op_notN : OpR X (compareOp .IsNot) (fun x y H Q => y = .non ∧ Q (.bl (!decide (x = .non))) H) := by
  intro pins s σ H x y v u Q I rx ry h
  obtain ⟨rfl, q⟩ := h
  cases ry
  refine isnot_none_gen (fin_bl I q ?_)
  cases x <;> first
    | (cases rx; rfl)
    | (obtain ⟨t, rfl⟩ := rx; rfl)

theorem OpR.or {f : Value → Value → Sem Value} {r r' : R2} (h : OpR X f r) (h' : OpR X f r') : OpR X f (fun x y H Q => r x y H Q ∨ r' x y H Q) := by
  intro pins s σ H x y v u Q I rx ry q
  rcases q with q | q
  · exact h pins s σ H x y v u Q I rx ry q
  · exact h' pins s σ H x y v u Q I rx ry q

theorem nomark (b : Expr) {op : CmpOp} (h : op ≠ .In := by decide) (h2 : op ≠ .NotIn := by decide) : behindInMarks op b = false := by
  have e1 : (op == CmpOp.In) = false := by cases op <;> first | rfl | exact absurd rfl h
  have e2 : (op == CmpOp.NotIn) = false := by cases op <;> first | rfl | exact absurd rfl h2
  cases b <;> simp [behindInMarks, e1, e2]
theorem pe_cmpR {op : CmpOp} {r : R2} (ho : OpR X (compareOp op) r) (ha : PE X a ta) (hb : PE X b tb) (hm : behindInMarks op b = false) : PE X (.Compare a [op] [b] pos) (tOp r ta tb) := by
  intro pins s σ H Q I h
  exact wpAny_Compare1 (binT ha hb I h fun v u s2 x y H2 I2 rx ry q => ho pins s2 σ H2 x y v u Q I2 rx ry q) hm
def tTest (t : TE) : TT := fun σ H Q => t σ H fun x H' => ∃ k, x = .bl k ∧ Q k H'
theorem pt_cmpR {op : CmpOp} {r : R2} (ho : OpR X (compareOp op) r) (ha : PE X a ta) (hb : PE X b tb) (hm : behindInMarks op b = false) : PT X (.Compare a [op] [b] pos) (tTest (tOp r ta tb)) := by
  intro pins s σ H Q I h
  refine wpAny_isTrue_Compare1 (thn (ha pins s σ H _ I h) fun v s1 ⟨x, H1, I1, r1, q1⟩ => thn (hb pins s1 σ H1 _ I1 q1) fun u s2 ⟨y, H2, I2, r2, q2⟩ =>
    thn (ho pins s2 σ H2 x y v u _ I2 r1 r2 q2) fun c s3 ⟨z, H3, I3, r3, k, e, q3⟩ => ?_) hm
  subst e
  cases r3
  exact wpAny_truthy_bool ⟨H3, I3, q3⟩
def tChain (r r' : R2) (ta tb tc : TE) : TE := fun σ H Q => ta σ H fun x H1 => tb σ H1 fun y H2 => r x y H2 fun z H3 => ∃ k, z = .bl k ∧
  (if k = true then tc σ H3 fun w' H4 => r' y w' H4 Q else Q (.bl false) H3)
theorem pe_chain {op op' : CmpOp} {r r' : R2} (ho : OpR X (compareOp op) r) (ho' : OpR X (compareOp op') r') (ha : PE X a ta) (hb : PE X b tb) (hc : PE X c tc)
    (hm : lastMarks [op, op'] [b, c] = false := by with_unfolding_all rfl) : PE X (.Compare a [op, op'] [b, c] pos) (tChain r r' ta tb tc) := by
  intro pins s σ H Q I h
  refine Compare_chain (thn (ha pins s σ H _ I h) fun v s1 ⟨x, H1, I1, r1, q1⟩ => chain_link (thn (hb pins s1 σ H1 _ I1 q1) fun u s2 ⟨y, H2, I2, r2, q2⟩ =>
    thn (ho pins s2 σ H2 x y v u _ I2 r1 r2 q2) fun d s3 ⟨z, H3, I3, r3, k, e, q3⟩ => ?_)) hm
  subst e
  cases r3
  refine wpAny_truthy_bool ?_
  cases k with
  | false => exact ite_ff ⟨.bl false, H3, I3, rfl, q3⟩
  | true => exact ite_tt (chain_last (thn (hc pins s3 σ H3 _ I3 q3) fun w' s4 ⟨z', H4, I4, r4, q4⟩ => ho' pins s4 σ H4 y z' u w' Q I4 r2 r4 q4))
theorem pt_chain {op op' : CmpOp} {r r' : R2} (ho : OpR X (compareOp op) r) (ho' : OpR X (compareOp op') r') (ha : PE X a ta) (hb : PE X b tb) (hc : PE X c tc)
    (hm : lastMarks [op, op'] [b, c] = false := by with_unfolding_all rfl) : PT X (.Compare a [op, op'] [b, c] pos) (tTest (tChain r r' ta tb tc)) := by
  intro pins s σ H Q I h
  refine isTrue_chain (thn (ha pins s σ H _ I h) fun v s1 ⟨x, H1, I1, r1, q1⟩ => test_link (thn (hb pins s1 σ H1 _ I1 q1) fun u s2 ⟨y, H2, I2, r2, q2⟩ =>
    thn (ho pins s2 σ H2 x y v u _ I2 r1 r2 q2) fun d s3 ⟨z, H3, I3, r3, k, e, q3⟩ => ?_)) hm
  subst e
  cases r3
  refine wpAny_truthy_bool ?_
  cases k with
  | false =>
    obtain ⟨k', e', q'⟩ := q3
    cases e'
    exact ite_ff ⟨H3, I3, q'⟩
  | true =>
    refine ite_tt (test_last (thn (hc pins s3 σ H3 _ I3 q3) fun w' s4 ⟨z', H4, I4, r4, q4⟩ => thn (ho' pins s4 σ H4 y z' u w' _ I4 r2 r4 q4) fun d' s5 ⟨z2, H5, I5, r5, k2, e2, q5⟩ => ?_))
    subst e2
    cases r5
    exact wpAny_truthy_bool ⟨H5, I5, q5⟩

theorem line63 : (sizeLine : Nat) < 2 ^ 63 := by rw [sizeLine_eq]; decide
theorem vals1 {x : V} {us : List Value} (r : Vals [x] us) : ∃ u, us = [u] ∧ RelV x u := by
  cases r with
  | cons r1 r2 => cases r2; exact ⟨_, rfl, r1⟩
theorem vals2 {x y : V} {us : List Value} (r : Vals [x, y] us) : ∃ u w', us = [u, w'] ∧ RelV x u ∧ RelV y w' := by
  cases r with
  | cons r1 r2 =>
    cases r2 with
    | cons r3 r4 => cases r4; exact ⟨_, _, rfl, r1, r3⟩
theorem call_max2 (hc : X.calm = true) : CallR X (.builtin "max") (fun xs H Q => ∃ i j, xs = [.int i, .int j] ∧ Q (.int (if j > i then j else i)) H) := by
  intro pins s σ H xs us Q I r h
  obtain ⟨i, j, rfl, q⟩ := h
  obtain ⟨u, w', rfl, ⟨t, rfl⟩, ⟨t', rfl⟩⟩ := vals2 r
  refine max_two_ints (I.ok.hd hc) fun h' tk k => ⟨_, H, I.kept k, ?_, q⟩
  by_cases hj : j > i
  · rw [if_pos hj, if_pos hj]; exact ⟨_, rfl⟩
  · rw [if_neg hj, if_neg hj]; exact ⟨_, rfl⟩
theorem call_min2 (hc : X.calm = true) : CallR X (.builtin "min") (fun xs H Q => ∃ i j, xs = [.int i, .int j] ∧ Q (.int (if j < i then j else i)) H) := by
  intro pins s σ H xs us Q I r h
  obtain ⟨i, j, rfl, q⟩ := h
  obtain ⟨u, w', rfl, ⟨t, rfl⟩, ⟨t', rfl⟩⟩ := vals2 r
  refine min_two_ints (I.ok.hd hc) fun h' tk k => ⟨_, H, I.kept k, ?_, q⟩
  by_cases hj : j < i
  · rw [if_pos hj, if_pos hj]; exact ⟨_, rfl⟩
  · rw [if_neg hj, if_neg hj]; exact ⟨_, rfl⟩
theorem call_int1 : CallR X (.type "int") (fun xs H Q => (∃ i, xs = [.int i] ∧ Q (.int i) H) ∨ ∃ k, xs = [.bl k] ∧ Q (.int (if k then 1 else 0)) H) := by
  intro pins s σ H xs us Q I r h
  rcases h with ⟨i, rfl, q⟩ | ⟨k, rfl, q⟩
  · obtain ⟨u, rfl, t, rfl⟩ := vals1 r
    exact call_int_int ⟨.int i, H, I, ⟨_, rfl⟩, q⟩
  · obtain ⟨u, rfl, r1⟩ := vals1 r
    cases r1
    exact call_int_bool ⟨.int (if k then 1 else 0), H, I.tok _, ⟨_, rfl⟩, q⟩
end
end L2

namespace L2
open PySem PySem.Spec PyProof.Rows

structure ObjM (h : Heap) (x dx C : Addr) (mA : Str → Option Value) : Prop where
  obj : h.get? x = some (PySem.W.instObj C dx)
  ns : h.Ns1 dx mA
  ne : dx ≠ x

theorem lookIn_ns {h : Heap} {dx : Addr} {mA : Str → Option Value} (n : h.Ns1 dx mA) : ∃ od, h.get? dx = some od ∧ ∀ name, PySem.W.lookIn name od = some (mA name) := by
  obtain ⟨o, es, ep, ho, hd, hk, _, hm⟩ := n
  refine ⟨o, ho, fun name => ?_⟩
  have e := hm name
  unfold nsFind findBy at e
  rw [← Array.find?_toList] at e
  unfold PySem.W.lookIn
  rw [hd]
  dsimp only
  split
  · rename_i y q
    rw [q] at e
    exact congrArg some e
  · rename_i q
    rw [q] at e
    have a : es.toList.any (·.refKey) = false := by
      rw [List.any_eq_false]
      intro y hy
      obtain ⟨z, t, hkey⟩ := hk y (Array.mem_toList_iff.mp hy)
      simp [DictEntry.refKey, hkey]
    have a' : ¬ es.toList.any (·.refKey) = true := by rw [a]; exact Bool.false_ne_true
    rw [if_neg a']
    exact congrArg some e

theorem ObjM.look {h : Heap} {x dx C : Addr} {mA : Str → Option Value} (I : ObjM h x dx C mA) : ∃ od, PySem.W.InstAt h x (PySem.W.instObj C dx) C (some od) ∧ ∀ name, PySem.W.lookIn name od = some (mA name) :=
  let ⟨od, ho, hl⟩ := lookIn_ns I.ns
  ⟨od, ⟨I.obj, rfl, rfl, ho⟩, hl⟩

section
variable {prog : Program} {w : World} {A : Around} {E : Value → Shared → Prop} {s : Shared} {K : PySem.W.Frag} {x dx C f : Addr} {mA : Str → Option Value} {name : Str} {v : Value}

theorem get_map {expr : Bool} {Q : Value → Shared → Prop} (X : K.In s.heap) (I : ObjM s.heap x dx C mA) (hg : PySem.W.plainGet K C name = true) (hh : PySem.W.hasDictIn K C = true)
    (ha : PySem.W.findIn K (.ref C) name = some none) (hv : mA name = some v) (hv' : PySem.W.handedIn v = true) (h : Q v { s with toks := s.toks + 1 }) :
    wpAny (model prog w) A (getAttr (.ref x) name expr) Q E s := by
  obtain ⟨od, J, hl⟩ := I.look
  exact PySem.W.get_value X J (PySem.W.plainGet_of hg).1 (PySem.W.findObj_own hh ha rfl (by rw [hl, hv])) hv' h

theorem get_meth {pl : Sem Bool} {Q : Value × List Value → Shared → Prop} (X : K.In s.heap) (I : ObjM s.heap x dx C mA) (hg : PySem.W.plainGet K C name = true)
    (hf : PySem.W.findIn K (.ref C) name = some (some (.ref f))) (ht : PySem.W.isFn K (.ref f) = true) (hv : mA name = none) (h : Q (.ref f, [.ref x]) s) :
    wpAny (model prog w) A (getMethod (.ref x) name pl) Q E s := by
  obtain ⟨od, J, hl⟩ := I.look
  exact PySem.W.method_fn X J (PySem.W.plainGet_of hg).1 (PySem.W.plainGet_of hg).2 hf (beq_iff_eq.mp ht) (by show (PySem.W.lookIn name od).map (·.isSome) = some false; rw [hl, hv]; rfl) h

theorem set_map {ns : List Str} {Q : Unit → Shared → Prop} (X : K.In s.heap) (I : ObjM s.heap x dx C mA)
    (hs : PySem.W.findIn K (.ref C) "__setattr__" = some (some (.builtin "object.__setattr__"))) (hp : PySem.W.plainOver K C = true) (ht : PySem.W.takerIn K C name = some none) (hh : PySem.W.hasDictIn K C = true)
    (hw : PySem.Within mA ns) (hsz : ns.length ≤ sizeLine)
    (h : ∀ h', ObjM h' x dx C (fun y => if y = name then some v else mA y) → Heap.SameBut dx s.heap h' → Q () { s with heap := h', toks := s.toks + 2 }) :
    wpAny (model prog w) A (setAttr (.ref x) name v) Q E s := by
  obtain ⟨od, J, hl⟩ := I.look
  refine PySem.W.set_plain X J hs (PySem.W.osa_open (s := { s with toks := s.toks + 1 }) (r := none) X J hp ht fun b => ?_)
  obtain ⟨cd, hc, hd'⟩ := PySem.W.any_some hh
  have hx : s.heap.get? x = some ⟨.ref C, some dx, .plain, #[]⟩ := I.obj
  refine wpAny_bind (wpAny_pure (wpAny_bind (wpAny_bind (wpAny_loadPart hx (wpAny_bind (PySem.W.Looks.here (s := { s with toks := s.toks + 1 }) (PySem.W.looks_clsIn X hc) ?_))))))
  rw [hd']
  refine wpAny_pure (a := some dx) (wpAny_bind (wpAny_pure (wpAny_bind ?_)))
  refine wpAny_nsSet1 (s := { s with toks := s.toks + 1 }) I.ns fun h' hn2 hs2 => ?_
  obtain ⟨oD, esD, epD, hoD, hdD, hcD⟩ := hn2.count (PySem.Within.cons name v hw)
  refine wpAny_bind (wpAny_lookBehind hoD (by rw [hdD]; exact pastItsLine_dict (Nat.le_trans hcD (by rw [List.length_cons]; omega))) ?_)
  exact wpAny_pure (h _ ⟨(hs2.2 _ (Ne.symm I.ne)).trans I.obj, hn2, I.ne⟩ hs2)

theorem make_map {R : Result → Shared → Prop} {vs : List Value} {kw : List (Str × Value)} (X : K.In s.heap) (hm : PySem.W.makesIn K C = true)
    (hi : PySem.W.findIn K (.ref C) "__init__" = some (some (.ref f))) (hf : PySem.W.typeIn K (.ref f) = some (.type "function"))
    (h : codeAny (model prog w) (A.under (.builtin "type.__call__" ⟨.ref C :: vs, kw⟩)) (.call (.ref f) ⟨.ref (s.heap.objs.size + 1) :: vs, kw⟩) (PySem.W.InitBack (s.heap.objs.size + 1) R)
      { s with heap := (s.heap.push PySem.W.emptyDict).push (PySem.W.instObj C s.heap.objs.size) }) :
    codeAny (model prog w) A (.call (.ref C) ⟨vs, kw⟩) R s := by
  obtain ⟨hh, g, d, t, os⟩ := s
  exact PySem.W.make_core (PySem.W.makes_of X hm) (PySem.W.looks_findIn X hi) (fun self => PySem.W.bind_fn X self hf) (.inl rfl) h
end

def putF (f : Str) (v : V) : List (Str × V) → List (Str × V)
  | [] => [(f, v)]
  | (g, x) :: r => if g = f then (g, v) :: r else (g, x) :: putF f v r
theorem lookup_putF (f g : Str) (v : V) : ∀ fs : List (Str × V), (putF f v fs).lookup g = if g = f then some v else fs.lookup g
  | [] => by
    show List.lookup g [(f, v)] = _
    by_cases h : g = f
    · have hb : (g == f) = true := beq_iff_eq.mpr h
      simp only [List.lookup, hb, if_pos h]
    · have hb : (g == f) = false := beq_eq_false_iff_ne.mpr h
      simp only [List.lookup, hb, if_neg h]
  | (k, x) :: r => by
    have ih := lookup_putF f g v r
    rw [show putF f v ((k, x) :: r) = (if k = f then (k, v) :: r else (k, x) :: putF f v r) from rfl]
    by_cases hk : k = f
    · rw [if_pos hk]
      by_cases h : g = k
      · have hb : (g == k) = true := beq_iff_eq.mpr h
        simp only [List.lookup, hb, if_pos (h.trans hk)]
      · have hb : (g == k) = false := beq_eq_false_iff_ne.mpr h
        simp only [List.lookup, hb, if_neg (fun e : g = f => h (e.trans hk.symm))]
    · rw [if_neg hk]
      by_cases h : g = k
      · have hb : (g == k) = true := beq_iff_eq.mpr h
        simp only [List.lookup, hb, if_neg (fun e : g = f => hk (h.symm.trans e))]
      · have hb : (g == k) = false := beq_eq_false_iff_ne.mpr h
        simp only [List.lookup, hb]
        exact ih
theorem keys_putF (f : Str) (v : V) : ∀ fs : List (Str × V), f ∈ (putF f v fs).map (·.1) ∧ ∀ g, g ∈ fs.map (·.1) → g ∈ (putF f v fs).map (·.1)
  | [] => ⟨by simp [putF], fun g h => by simp at h⟩
  | (k, x) :: r => by
    obtain ⟨i1, i2⟩ := keys_putF f v r
    rw [show putF f v ((k, x) :: r) = (if k = f then (k, v) :: r else (k, x) :: putF f v r) from rfl]
    by_cases hk : k = f
    · rw [if_pos hk]
      subst hk
      exact ⟨by simp, fun g h => by simpa using h⟩
    · rw [if_neg hk]
      refine ⟨?_, fun g h => ?_⟩
      · rw [List.map_cons]
        exact List.mem_cons_of_mem _ i1
      · rw [List.map_cons] at h ⊢
        rcases List.mem_cons.mp h with e | e
        · exact List.mem_cons.mpr (.inl e)
        · exact List.mem_cons_of_mem _ (i2 g e)
theorem length_putF (f : Str) (v : V) : ∀ fs : List (Str × V), (putF f v fs).length ≤ fs.length + 1
  | [] => by simp [putF]
  | (k, x) :: r => by
    have ih := length_putF f v r
    rw [show putF f v ((k, x) :: r) = (if k = f then (k, v) :: r else (k, x) :: putF f v r) from rfl]
    by_cases hk : k = f
    · rw [if_pos hk, List.length_cons, List.length_cons]; omega
    · rw [if_neg hk, List.length_cons, List.length_cons]; omega

theorem RelO.some_of {v : V} {o : Option Value} (r : RelO (some v) o) : ∃ u, o = some u ∧ RelV v u := by
  cases o with
  | none => exact (show False from r).elim
  | some u => exact ⟨u, rfl, r⟩
theorem RelO.none_of {o : Option Value} (r : RelO none o) : o = none := by
  cases o with
  | none => rfl
  | some u => exact (show False from r).elim
theorem handed_of {v : V} {u : Value} (r : RelV v u) : PySem.W.handedIn u = true := by
  cases v with
  | non => cases (show u = Value.none from r); rfl
  | bl b => cases (show u = Value.bool b from r); rfl
  | int i => obtain ⟨t, e⟩ := (show ∃ t, u = Value.int i t from r); cases e; rfl
  | str x => obtain ⟨t, e⟩ := (show ∃ t, u = Value.str x t from r); cases e; rfl
  | byt b => obtain ⟨t, e⟩ := (show ∃ t, u = Value.bytes b t from r); cases e; rfl
  | flt b => obtain ⟨t, e⟩ := (show ∃ t, u = Value.float b t from r); cases e; rfl
  | ref a => cases (show u = Value.ref a from r); rfl
  | ty n => cases (show u = Value.type n from r); rfl

section
variable {P : Program} {w : World} {H H' : Hp} {h h' : Heap} {a C dx : Addr} {fs fs' : List (Str × V)}
theorem ins_get (hok : HOk P w H h) (e : H a = some (.ins C dx fs)) : ∃ mA, ObjM h a dx C mA ∧ (∀ f, RelO (fs.lookup f) (mA f)) ∧ PySem.Within mA (fs.map (·.1)) ∧ fs.length ≤ 1000 ∧ H dx = some (.own a) := by
  obtain ⟨d, z, ne, ob, mA, n, r, q⟩ := (show ObjOk P w H h a (.ins C dx fs) from hok a _ e)
  exact ⟨mA, ⟨ob, n, ne⟩, r, q, z, d⟩
end

structure Cls (K : PySem.W.Frag) (C : Addr) : Prop where
  pg : PySem.W.plainGet K C Str.empty = true
  hd : PySem.W.hasDictIn K C = true
  po : PySem.W.plainOver K C = true
  sa : PySem.W.findIn K (.ref C) "__setattr__" = some (some (.builtin "object.__setattr__"))
theorem Cls.get {K : PySem.W.Frag} {C : Addr} (c : Cls K C) (f : Str) : PySem.W.plainGet K C f = true := c.pg
def NoAttr (K : PySem.W.Frag) (C : Addr) (f : Str) : Prop := PySem.W.findIn K (.ref C) f = some none
theorem NoAttr.taker {K : PySem.W.Frag} {C : Addr} {f : Str} (n : NoAttr K C f) : PySem.W.takerIn K C f = some none := by
  unfold PySem.W.takerIn
  rw [show PySem.W.findIn K (.ref C) f = some none from n]
  rfl
structure Con (K : PySem.W.Frag) (C : Addr) (f : Str) (v : V) (u : Value) : Prop where
  at_ : PySem.W.findIn K (.ref C) f = some (some u)
  rel : RelV v u
  get : PySem.W.specialIn K u "__get__" = some none
  cp : PySem.W.copiedNames.contains f = false
structure Meth (K : PySem.W.Frag) (C : Addr) (m : Str) (f : Addr) : Prop where
  at_ : PySem.W.findIn K (.ref C) m = some (some (.ref f))
  fn : PySem.W.isFn K (.ref f) = true
  kp : PySem.W.keepIn K (.ref f) = true

section
variable {X : Cx} {pins : List (Addr × Obj)} {σ : St} {H : Hp} {s : Shared} {a C dx : Addr} {fs : List (Str × V)} {f : Str} {v : V} {A : Around} {E : Value → Shared → Prop}

theorem getattr_ok {b : Bool} {Q : Value → Shared → Prop} (I : Inv X pins σ H s) (e : H a = some (.ins C dx fs)) (c : Cls X.K C) (n : NoAttr X.K C f) (l : fs.lookup f = some v)
    (h : ∀ u s', Inv X pins σ H s' → RelV v u → Q u s') : wpAny (model X.prog X.w) A (getAttr (.ref a) f b) Q E s := by
  obtain ⟨mA, O, r, _, _, _⟩ := ins_get I.hok e
  obtain ⟨u, hu, ru⟩ := RelO.some_of (v := v) (o := mA f) (by rw [← l]; exact r f)
  exact get_map I.kIn O (c.get f) c.hd n hu (handed_of ru) (h u _ (I.tok _) ru)

theorem getmeth_ok {m : Str} {g : Addr} {pl : Sem Bool} {Q : Value × List Value → Shared → Prop} (I : Inv X pins σ H s) (e : H a = some (.ins C dx fs)) (c : Cls X.K C) (k : Meth X.K C m g) (l : fs.lookup m = none)
    (h : Q (.ref g, [.ref a]) s) : wpAny (model X.prog X.w) A (getMethod (.ref a) m pl) Q E s := by
  obtain ⟨mA, O, r, _, _, _⟩ := ins_get I.hok e
  have hn : mA m = none := RelO.none_of (by rw [← l]; exact r m)
  exact get_meth I.kIn O (c.get m) k.at_ k.fn hn h

theorem setattr_ok {y : V} {u : Value} {Q : Unit → Shared → Prop} (I : Inv X pins σ H s) (e : H a = some (.ins C dx fs)) (c : Cls X.K C) (n : NoAttr X.K C f) (hl : fs.length < 1000) (ry : RelV y u)
    (h : ∀ s', Inv X pins σ (upd H a (.ins C dx (putF f y fs))) s' → Q () s') : wpAny (model X.prog X.w) A (setAttr (.ref a) f u) Q E s := by
  obtain ⟨mA, O, r, wi, _, ho⟩ := ins_get I.hok e
  have hz : (fs.map (·.1)).length ≤ sizeLine := by rw [List.length_map, sizeLine_eq]; omega
  refine set_map I.kIn O c.sa c.po n.taker c.hd wi hz fun h' O' sb => h _ ?_
  have hd : ∃ o, h'.get? dx = some o := let ⟨o, _, _, e', _⟩ := O'.ns; ⟨o, e'⟩
  refine I.write (x := a) (e := dx) (by rw [e]; exact True.intro) (.inr ho) (fun b q hb z => (sb.2 b hb).trans z) hd ?_
  refine ⟨by rw [upd_ne O.ne]; exact ho, ?_, O.ne, O'.obj, _, O'.ns, fun g => ?_, fun g hg => ?_⟩
  · have := length_putF f y fs; omega
  · show RelO ((putF f y fs).lookup g) (if g = f then some u else mA g)
    rw [lookup_putF]
    by_cases q : g = f
    · rw [if_pos q, if_pos q]; exact ry
    · rw [if_neg q, if_neg q]; exact r g
  · by_cases q : g = f
    · rw [q]; exact (keys_putF f y fs).1
    · refine (keys_putF f y fs).2 g (wi g fun z => hg ?_)
      show (if g = f then some u else mA g) = none
      rw [if_neg q]; exact z

theorem Inv.made (I : Inv X pins σ H s) : Inv X pins σ (upd (upd H s.heap.objs.size (.own (s.heap.objs.size + 1))) (s.heap.objs.size + 1) (.ins C s.heap.objs.size []))
    { s with heap := (s.heap.push PySem.W.emptyDict).push (PySem.W.instObj C s.heap.objs.size) } := by
  have e1 : (s.heap.push PySem.W.emptyDict).get? s.heap.objs.size = some PySem.W.emptyDict := Heap.get?_push_size s.heap rfl
  have e2 : ((s.heap.push PySem.W.emptyDict).push (PySem.W.instObj C s.heap.objs.size)).get? (s.heap.objs.size + 1) = some (PySem.W.instObj C s.heap.objs.size) := by
    have := Heap.get?_push_size (s.heap.push PySem.W.emptyDict) (o := PySem.W.instObj C s.heap.objs.size) rfl
    rwa [Heap.size_push] at this
  have e3 : (s.heap.push PySem.W.emptyDict).Ns s.heap.objs.size (fun _ => none) := ⟨PySem.W.emptyDict, #[], _, e1, rfl, (fun e he => absurd he (by simp)), fun _ => rfl⟩
  have I1 := I.laid (a := s.heap.objs.size) (o := .own (s.heap.objs.size + 1)) (h' := s.heap.push PySem.W.emptyDict) (t' := s.toks) (fun b u q => Heap.get?_push_of_some _ q) (Nat.le_refl _) ⟨_, e1⟩
  refine I1.laid (a := s.heap.objs.size + 1) (o := .ins C s.heap.objs.size []) (t' := s.toks) (fun b u q => Heap.get?_push_of_some _ q) (Nat.le_of_eq (Heap.size_push _ _)) ?_
  have ne : s.heap.objs.size ≠ s.heap.objs.size + 1 := Nat.ne_of_lt (Nat.lt_succ_self _)
  refine ⟨by rw [upd_ne ne, upd_same], Nat.zero_le _, ne, e2, fun _ => none, (Heap.Ns1.of_empty e3).at fun o q => Heap.get?_push_of_some _ q, fun _ => True.intro, fun y hy => absurd rfl hy⟩

theorem attr_of {prog : Program} {w : World} {env : Env} {e : Expr} {f : Str} {pos : Pos} {s : Shared} {Q : Value → Shared → Prop} (hb : attributeBase e f env (eval e env) = eval e env)
    (h : wpAny (model prog w) A (eval e env) (fun o s₁ => wpAny (model prog w) A (getAttr o f true) Q E s₁) E s) : wpAny (model prog w) A (eval (.Attribute e f pos) env) Q E s :=
  Attribute_any_ h (by rw [arm_eval_Attribute, hb])
end

def tFld (K : PySem.W.Frag) (ta : TE) (f : Str) : TE := fun σ H Q => ta σ H fun x H1 => ∃ a C dx fs v, x = .ref a ∧ H1 a = some (.ins C dx fs) ∧ Cls K C ∧ NoAttr K C f ∧ fs.lookup f = some v ∧ Q v H1
def sFld (K : PySem.W.Frag) (ta tv : TE) (f : Str) : TS := fun D σ H => tv σ H fun y H1 => ta σ H1 fun x H2 => ∃ a C dx fs, x = .ref a ∧ H2 a = some (.ins C dx fs) ∧ Cls K C ∧ NoAttr K C f ∧ fs.length < 1000 ∧
  D.nx σ (upd H2 a (.ins C dx (putF f y fs)))
section
variable {X : Cx} {o e value : Expr} {f : Str} {pos pos' tpos : Pos} {ta tv : TE}
theorem pe_fld (he : PE X e ta) (hb : attributeBase e f X.env (eval e X.env) = eval e X.env) : PE X (.Attribute e f pos) (tFld X.K ta f) := by
  intro pins s σ H Q I h
  refine attr_of hb (thn (he pins s σ H _ I h) fun u s1 ⟨x, H1, I1, rx, a, C, dx, fs, v, ex, ea, c, n, l, q⟩ => ?_)
  subst ex
  obtain rfl : u = Value.ref a := rx
  exact getattr_ok I1 ea c n l fun u' s2 I2 ru => ⟨v, H1, I2, ru, q⟩
theorem ps_fld (ha : PE X o ta) (hv : PE X value tv) (hs : swapsWith value (some (.Attribute o f pos')) pos.line X.env = pure false) : PS X (.Assign [.Attribute o f pos'] value pos) (sFld X.K ta tv f) := by
  intro pins s σ H D I h
  refine plainObj_wpAny_Assign_Attribute (thn (hv pins s σ H _ I h) fun u s1 ⟨y, H1, I1, ry, q⟩ => thn (ha pins s1 σ H1 _ I1 q) fun ov s2 ⟨x, H2, I2, rx, a, C, dx, fs, ex, ea, c, n, l, q2⟩ => ?_) hs
  subst ex
  obtain rfl : ov = Value.ref a := rx
  exact setattr_ok I2 ea c n l ry fun s3 I3 => ⟨σ, _, I3, q2⟩
end

section
variable {X : Cx} {pins : List (Addr × Obj)} {σ : St} {H : Hp} {s : Shared} {A : Around} {E : Value → Shared → Prop} {Q : Value → Shared → Prop} {c : Value} {b : Bool}
inductive TyOf (K : PySem.W.Frag) (H : Hp) : V → Value → Prop where
  | non : TyOf K H .non (.type "NoneType")
  | bl (x : Bool) : TyOf K H (.bl x) (.type "bool")
  | int (i : Int) : TyOf K H (.int i) (.type "int")
  | str (x : Str) : TyOf K H (.str x) (.type "str")
  | flt (x : UInt64) : TyOf K H (.flt x) (.type "float")
  | lst {a : Addr} {xs : List V} (e : H a = some (.lst xs)) : TyOf K H (.ref a) (.type "list")
  | frz {a : Addr} {o : Obj} {xs : List V} (e : H a = some (.frz o (.lst xs))) : TyOf K H (.ref a) (.type "list")
  | tup {a : Addr} {xs : List V} (e : H a = some (.tup xs)) : TyOf K H (.ref a) (.type "tuple")
  | dK {a : Addr} {kvs : List (Key × V)} (e : H a = some (.dK kvs)) : TyOf K H (.ref a) (.type "dict")
  | dT {a : Addr} {kvs : List (List Key × V)} (e : H a = some (.dT kvs)) : TyOf K H (.ref a) (.type "dict")
  | ins {a C dx : Addr} {fs : List (Str × V)} (e : H a = some (.ins C dx fs)) (cl : Cls K C) (ha : PySem.W.findIn K (.ref C) "__class__" = some (some (.builtin "object.__class__")))
      (hn : PySem.W.specialIn K (.builtin "object.__class__") "__get__" = some (some (.builtin "getset_descriptor.__get__"))) (htk : PySem.W.takesIn K (.builtin "object.__class__") = some true)
      (hm : PySem.W.mroIn K C (.type "object") = some true) : TyOf K H (.ref a) (.ref C)
end
end L2

namespace L2
open PySem PySem.Spec PyProof.Rows

structure Room (k : Nat) (A : Around) : Prop where
  hd : A.handled = none
  dp : A.depth + 3 * k + 5 < recursionLimit
  un : A.units + 16 * k + 200 < cLine
  gd : A.guards = some []
theorem Room.mono {j k : Nat} {A : Around} (r : Room k A) (h : j ≤ k) : Room j A := ⟨r.hd, by have := r.dp; omega, by have := r.un; omega, r.gd⟩
theorem Room.deeper {k : Nat} {A : Around} (r : Room (k + 1) A) (env : Env) : Room k (A.deeper env) :=
  ⟨r.hd, by have := r.dp; show A.depth + 1 + 3 * k + 5 < _; omega, by have := r.un; show A.units + 3 + 16 * k + 200 < _; omega, r.gd⟩
theorem Room.in1 {k : Nat} {A : Around} (r : Room (k + 1) A) : Room k A.in1 :=
  ⟨r.hd, by have := r.dp; show A.depth + 3 * k + 5 < _; omega, by have := r.un; show A.units + 1 + 16 * k + 200 < _; omega, r.gd⟩
theorem make_depth {A : Around} {C : Addr} {us : List Value} {kw : List (Str × Value)} : (A.under (.builtin "type.__call__" ⟨.ref C :: us, kw⟩)).depth = A.depth + 1 := by
  first | rfl | simp [Around.under, Code.weight, Code.isCreation, Code.isGuard, Code.isCaller, Code.frames, Code.isFrame, guardIds]
theorem make_units {A : Around} {C : Addr} {us : List Value} {kw : List (Str × Value)} : (A.under (.builtin "type.__call__" ⟨.ref C :: us, kw⟩)).units = A.units + 1 := by
  first | rfl | simp [Around.under, Code.cUnits, Code.frames, Code.isFrame]
theorem make_guards {A : Around} {C : Addr} {us : List Value} {kw : List (Str × Value)} : (A.under (.builtin "type.__call__" ⟨.ref C :: us, kw⟩)).guards = A.guards := by
  first | rfl | simp [Around.under, Code.cUnits, Code.frames, Code.isFrame]
theorem Room.make {k : Nat} {A : Around} (r : Room (k + 1) A) (C : Addr) (us : List Value) (kw : List (Str × Value)) : Room k (A.under (.builtin "type.__call__" ⟨.ref C :: us, kw⟩)) :=
  ⟨r.hd, by have := r.dp; rw [make_depth]; omega, by have := r.un; rw [make_units]; omega, by rw [make_guards]; exact r.gd⟩
theorem Room.depth {k : Nat} {A : Around} (r : Room k A) : A.depth < recursionLimit := by have := r.dp; omega
theorem Room.units {k : Nat} {A : Around} (r : Room k A) : A.units + 64 < cLine := by have := r.un; omega
theorem Room.units0 {k : Nat} {A : Around} (r : Room k A) : A.units < cLine := by have := r.un; omega

def tNil : TA := fun _ H Q => Q [] H
def tCons (ta : TE) (tr : TA) : TA := fun σ H Q => ta σ H fun x H1 => tr σ H1 fun xs H2 => Q (x :: xs) H2
section
variable {X : Cx} {e : Expr} {es : List Expr} {te : TE} {t : TA} {pos : Pos}
theorem pa_nil : PA X [] tNil := fun _ _ _ _ H Q I h => Calls.spliced_nil ⟨[], H, I, .nil, h⟩
theorem pa_cons (ha : PE X e te) (hr : PA X es t) (hs : starEach (e :: es) X.env = (false, eval e X.env) :: starEach es X.env := by rfl) : PA X (e :: es) (tCons te t) := by
  intro pos pins s σ H Q I h
  rw [hs]
  show wpAny _ _ (spliced ((false, eval e X.env) :: backTo pos (starEach es X.env))) _ _ s
  refine Calls.spliced_cons (thn (ha pins s σ H _ I h) fun u s1 ⟨x, H1, I1, r1, q1⟩ => ?_)
  exact thn (hr pos pins s1 σ H1 _ I1 q1) fun us s2 ⟨xs, H2, I2, r2, q2⟩ => ⟨x :: xs, H2, I2, .cons r1 r2, q2⟩

def tTup (t : TA) : TE := fun σ H Q => t σ H fun xs H1 => xs.length ≤ sizeLine ∧ ∀ p, H1 p = none → Q (.ref p) (upd H1 p (.tup xs))
def tLst (t : TA) : TE := fun σ H Q => t σ H fun xs H1 => xs.length ≤ sizeLine ∧ ∀ p, H1 p = none → Q (.ref p) (upd H1 p (.lst xs))
theorem pe_tup {x1} (h : PA X es t) : PE X (.Tuple es x1 pos) (tTup t) := by
  intro pins s σ H Q I hq
  refine wpAny_Tuple_spliced (thn (h pos pins s σ H _ I hq) fun us s1 ⟨xs, H1, I1, r, z, q⟩ => ⟨by rw [← r.length]; exact z, ?_⟩)
  have hf : H1 s1.heap.objs.size = none := I1.hok.fresh (Nat.le_refl _)
  refine ⟨.ref s1.heap.objs.size, upd H1 s1.heap.objs.size (.tup xs), I1.laid (t' := s1.toks) (fun b u e => Heap.get?_push_of_some _ e) (Nat.le_refl _) ?_, rfl, q _ hf⟩
  exact ⟨z, us, r, ⟨_, Heap.get?_push_size _ rfl, rfl, _, rfl⟩, tup_nodict⟩
theorem pe_lst (h : PA X es t) : PE X (.List es pos) (tLst t) := by
  intro pins s σ H Q I hq
  refine wpAny_List_spliced (thn (h pos pins s σ H _ I hq) fun us s1 ⟨xs, H1, I1, r, z, q⟩ => ⟨by rw [← r.length]; exact z, ?_⟩)
  have hf : H1 s1.heap.objs.size = none := I1.hok.fresh (Nat.le_refl _)
  refine ⟨.ref s1.heap.objs.size, upd H1 s1.heap.objs.size (.lst xs), I1.laid (t' := s1.toks) (fun b u e => Heap.get?_push_of_some _ e) (Nat.le_refl _) ?_, rfl, q _ hf⟩
  exact ⟨z, us, 0, r, Heap.get?_push_size _ rfl⟩
end

abbrev Sp := List V → Hp → VK → XK → Prop
abbrev CXT := List Env → Hp → Shared → XK → Value → Shared → Prop

structure Env0 (P : Program) (w : World) (K : PySem.W.Frag) (mg : Str → Option Value) (base : Heap) (A : Around) (outer : List Env) (s : Shared) (H : Hp) : Prop where
  frames : A.frames = some outer
  mod : Mod K mg base
  bs : ∀ b o, base.get? b = some o → s.heap.get? b = some o ∧ H b = none
  bsz : base.objs.size ≤ s.heap.objs.size
  funs : s.heap.FunFrames base outer
  frf : ∀ b ∈ frs outer, H b = none
  hok : HOk P w H s.heap
  bare : AllBare s.gens
def CE (outer : List Env) (P : Program) (w : World) (H : Hp) (s : Shared) (Q : VK) (u : Value) (s' : Shared) : Prop :=
  ∃ v H', s'.os = s.os ∧ AllBare s'.gens ∧ Un (frs outer) [] H H' s.heap s'.heap ∧ HOk P w H' s'.heap ∧ RelV v u ∧ Q v H'
def CR (CX : CXT) (outer : List Env) (P : Program) (w : World) (H : Hp) (s : Shared) (Q : VK) (E : XK) (r : Result) (s' : Shared) : Prop :=
  match r with
  | .ok (.ret u) => CE outer P w H s Q u s'
  | .ok _ => False
  | .error e => CX outer H s E e s'
structure FnOk (P : Program) (w : World) (K : PySem.W.Frag) (mg : Str → Option Value) (base : Heap) (CX : CXT) (k : Nat) (f : Addr) (fd : FuncData) (ps : List Str) (sp : Sp) : Prop where
  len : ∀ vs H Q E, sp vs H Q E → vs.length = ps.length
  run : ∀ (A : Around) (outer : List Env) (s : Shared) (H : Hp) (args : Args) (us : List Value) (vs : List V) (Q : VK) (E : XK), Room k A → Env0 P w K mg base A outer s H → BindsTo s fd args (ps.zip us) → Vals vs us → sp vs H Q E →
    codeAny (model P w) A (.call (.ref f) args) (CR CX outer P w H s Q E) s
theorem FnOk.mono {P : Program} {w : World} {K : PySem.W.Frag} {mg : Str → Option Value} {base : Heap} {CX : CXT} {j k : Nat} {f : Addr} {fd : FuncData} {ps : List Str} {sp : Sp} (F : FnOk P w K mg base CX j f fd ps sp) (h : j ≤ k) :
    FnOk P w K mg base CX k f fd ps sp := ⟨F.len, fun A outer s H args us vs Q E hr => F.run A outer s H args us vs Q E (hr.mono h)⟩
theorem FnOk.imp {P : Program} {w : World} {K : PySem.W.Frag} {mg : Str → Option Value} {base : Heap} {CX : CXT} {k : Nat} {f : Addr} {fd : FuncData} {ps : List Str} {sp sp' : Sp} (F : FnOk P w K mg base CX k f fd ps sp)
    (h : ∀ vs H Q E, sp' vs H Q E → sp vs H Q E) : FnOk P w K mg base CX k f fd ps sp' :=
  ⟨fun vs H Q E q => F.len vs H Q E (h _ _ _ _ q), fun A outer s H args us vs Q E hr he hb hv hs => F.run A outer s H args us vs Q E hr he hb hv (h _ _ _ _ hs)⟩

theorem Env0.make {P : Program} {w : World} {K : PySem.W.Frag} {mg : Str → Option Value} {base : Heap} {A : Around} {outer : List Env} {s : Shared} {H : Hp} (e : Env0 P w K mg base A outer s H) (C : Addr) (us : List Value) (kw : List (Str × Value)) :
    Env0 P w K mg base (A.under (.builtin "type.__call__" ⟨.ref C :: us, kw⟩)) outer s H := ⟨by first | exact e.frames | (simpa [Around.under, Code.envs, Code.isFrame, pushEnvs] using e.frames), e.mod, e.bs, e.bsz, e.funs, e.frf, e.hok, e.bare⟩
theorem Env0.in1 {P : Program} {w : World} {K : PySem.W.Frag} {mg : Str → Option Value} {base : Heap} {A : Around} {outer : List Env} {s : Shared} {H : Hp} (e : Env0 P w K mg base A outer s H) :
    Env0 P w K mg base A.in1 outer s H := ⟨e.frames, e.mod, e.bs, e.bsz, e.funs, e.frf, e.hok, e.bare⟩

section
variable {X : Cx} {pins : List (Addr × Obj)} {σ : St} {H : Hp} {s s' : Shared}
theorem Inv.env0 (I : Inv X pins σ H s) : Env0 X.prog X.w X.K X.mg X.base X.A X.stack s H :=
  ⟨I.ok.frames, I.ok.mod, I.bs, Nat.le_trans I.ok.bsz I.sz, I.stack, I.stkFree, I.hok, I.bare⟩
theorem Inv.after {Q : VK} {u : Value} (I : Inv X pins σ H s) (h : CE X.stack X.prog X.w H s Q u s') : EP X pins σ Q u s' := by
  obtain ⟨v, H', os, bare, un, hok, r, q⟩ := h
  obtain ⟨hh, g, d, t, os'⟩ := s'
  obtain rfl : os' = s.os := os
  exact ⟨v, H', I.call (h' := hh) (g' := g) (d' := d) (t' := t) (ch := []) un hok bare (fun b z => absurd z (by simp)), r, q⟩
end

def tCall (sp : Sp) (dvs : List V) (E : XK) (t : TA) : TE := fun σ H Q => t σ H fun vs H1 => sp (vs ++ dvs) H1 Q E
def tMeth (C : Addr) (m : Str) (sp : Sp) (dvs : List V) (E : XK) (ta : TE) (t : TA) : TE := fun σ H Q => ta σ H fun x H1 => ∃ a dx fs, x = .ref a ∧ H1 a = some (.ins C dx fs) ∧ fs.lookup m = none ∧
  t σ H1 fun vs H2 => sp (x :: (vs ++ dvs)) H2 Q E
def tMake (C : Addr) (sp : Sp) (dvs : List V) (E : XK) (t : TA) : TE := fun σ H Q => t σ H fun vs H1 => ∀ x dx, H1 x = none → H1 dx = none → dx ≠ x →
  sp (.ref x :: (vs ++ dvs)) (upd (upd H1 dx (.own x)) x (.ins C dx [])) (fun v H2 => v = .non ∧ Q (.ref x) H2) E

def Binds (K : PySem.W.Frag) (fd : FuncData) (ps : List Str) (ds : List Value) : Prop :=
  ∀ (s : Shared) (us : List Value), K.In s.heap → (us ++ ds).length = ps.length → BindsTo s fd ⟨us, []⟩ (ps.zip (us ++ ds))
theorem Binds.all {K : PySem.W.Frag} {fd : FuncData} {ps : List Str} (h : ∀ us : List Value, us.length = ps.length → bindArgs fd ⟨us, []⟩ = pure (ps.zip us)) : Binds K fd ps [] := fun s us _ hl => by
  rw [List.append_nil] at hl ⊢
  exact .of_eq (h us hl)

def Passes (CX : CXT) (X : Cx) (E : XK) : Prop := ∀ (pins : List (Addr × Obj)) (σ : St) (H : Hp) (s : Shared) (e : Value) (s' : Shared), Inv X pins σ H s → CX X.stack H s E e s' → X.xe e s'

section
variable {X : Cx} {CX : CXT} {k : Nat} {f C : Addr} {fd : FuncData} {ps : List Str} {sp : Sp} {dvs : List V} {ds : List Value} {E : XK} {x m : Str} {p pos apos : Pos} {e o : Expr} {es : List Expr} {ta : TE} {t : TA}

theorem run_fn {pins : List (Addr × Obj)} {σ : St} {H : Hp} {s : Shared} {Q : VK} {us : List Value} {vs : List V} (F : FnOk X.prog X.w X.K X.mg X.base CX k f fd ps sp) (hr : Room k X.A) (hb : Binds X.K fd ps ds) (hd : Vals dvs ds) (hx : Passes CX X E)
    (I : Inv X pins σ H s) (r : Vals vs us) (h : sp (vs ++ dvs) H Q E) : wpAny (model X.prog X.w) X.A (call (.ref f) us) (EP X pins σ Q) X.xe s := by
  have r2 : Vals (vs ++ dvs) (us ++ ds) := r.append hd
  have hl : (us ++ ds).length = ps.length := by rw [← r2.length]; exact F.len _ _ _ _ h
  refine wpAny_call (codeAny_mono (F.run X.A X.stack s H ⟨us, []⟩ (us ++ ds) (vs ++ dvs) Q E hr I.env0 (hb s us I.kIn hl) r2 h) fun r s' hq => ?_)
  cases r with
  | error e => exact hx pins σ H s e s' I hq
  | ok fl =>
    cases fl with
    | ret u => exact I.after hq
    | next => exact False.elim hq
    | brk => exact False.elim hq
    | cont => exact False.elim hq

theorem pe_call (F : FnOk X.prog X.w X.K X.mg X.base CX k f fd ps sp) (hr : Room k X.A) (hg : Gl X x) (hm : X.mg x = some (.ref f)) (hk : PySem.W.keepIn X.K (.ref f) = true) (hb : Binds X.K fd ps ds) (hd : Vals dvs ds) (hx : Passes CX X E)
    (ha : PA X (e :: es) t) (hdb : (x == ("__debug__" : Str)) = false := by decide) (he : starEach (e :: es) X.env = (false, eval e X.env) :: starEach es X.env := by rfl) (hpl : (backTo pos (starEach es X.env)).any (·.1) = false := by rfl) :
    PE X (.Call (.Name x p) (e :: es) [] pos) (tCall sp dvs E t) := by
  intro pins s σ H Q I h
  refine wpAny_Call_Name_kw (ld_glob I hg hm ?_ hdb)
  refine PySem.W.callWith_K (h₀ := X.base) I.ok.mod.kin hk (thn (ha pos pins s σ H _ I h) fun us s1 ⟨vs, H1, I1, r, q⟩ => ⟨I1.kIn, ?_⟩) he hpl
  exact run_fn F hr hb hd hx I1 r q
theorem pe_meth {pl : Sem Bool} (he : PE X o ta) (c : Cls X.K C) (hm : Meth X.K C m f) (F : FnOk X.prog X.w X.K X.mg X.base CX k f fd ps sp) (hr : Room k X.A) (hb : Binds X.K fd ps ds) (hd : Vals dvs ds) (hx : Passes CX X E) (ha : PA X (e :: es) t)
    (hst : starEach (e :: es) X.env = (false, eval e X.env) :: starEach es X.env := by rfl) (hpl : (backTo pos (starEach es X.env)).any (·.1) = false := by rfl)
    (ht : eval (.Call (.Attribute o m apos) (e :: es) [] pos) X.env = (do
      let ov ← eval o X.env
      standAt apos.atName
      let (f, first) ← holding [ov] (getMethod ov m pl)
      callWith pos f first (backTo pos (starEach (e :: es) X.env)) (backToKw pos (keywordEach [] X.env))) := by rfl) :
    PE X (.Call (.Attribute o m apos) (e :: es) [] pos) (tMeth C m sp dvs E ta t) := by
  intro pins s σ H Q I h
  refine PySem.W.methodCall_KW (pl := pl) (thn (he pins s σ H _ I h) fun u s1 ⟨x, H1, I1, rx, a, dx, fs, ex, ea, l, q⟩ => ?_) ht
  subst ex
  obtain rfl : u = Value.ref a := rx
  refine getmeth_ok I1 ea c hm l ?_
  refine PySem.W.callWith_K (first := [.ref a]) (h₀ := X.base) I.ok.mod.kin hm.kp (thn (ha pos pins s1 σ H1 _ I1 q) fun us s2 ⟨vs, H2, I2, r, q2⟩ => ⟨I2.kIn, ?_⟩) hst hpl
  exact run_fn (us := .ref a :: us) (vs := .ref a :: vs) F hr hb hd hx I2 (.cons rfl r) q2
theorem pe_meth0 {pl : Sem Bool} (he : PE X o ta) (c : Cls X.K C) (hm : Meth X.K C m f) (F : FnOk X.prog X.w X.K X.mg X.base CX k f fd ps sp) (hr : Room k X.A) (hb : Binds X.K fd ps ds) (hd : Vals dvs ds) (hx : Passes CX X E)
    (ht : eval (.Call (.Attribute o m apos) [] [] pos) X.env = (do
      let ov ← eval o X.env
      standAt apos.atName
      let (f, first) ← holding [ov] (getMethod ov m pl)
      callWith pos f first (backTo pos (starEach [] X.env)) (backToKw pos (keywordEach [] X.env))) := by rfl) :
    PE X (.Call (.Attribute o m apos) [] [] pos) (tMeth C m sp dvs E ta tNil) := by
  intro pins s σ H Q I h
  refine PySem.W.methodCall_KW (pl := pl) (thn (he pins s σ H _ I h) fun u s1 ⟨x, H1, I1, rx, a, dx, fs, ex, ea, l, q⟩ => ?_) ht
  subst ex
  obtain rfl : u = Value.ref a := rx
  refine getmeth_ok I1 ea c hm l ?_
  exact PySem.W.callWith_K0 (first := [.ref a]) I1.kIn hm.kp (run_fn (us := [.ref a]) (vs := [.ref a]) F hr hb hd hx I1 (.cons rfl .nil) q)

structure Mk (K : PySem.W.Frag) (C f : Addr) : Prop where
  makes : PySem.W.makesIn K C = true
  init : PySem.W.findIn K (.ref C) "__init__" = some (some (.ref f))
  fn : PySem.W.isFn K (.ref f) = true
  kp : PySem.W.keepIn K (.ref C) = true

theorem run_make {pins : List (Addr × Obj)} {σ : St} {H : Hp} {s : Shared} {Q : VK} {us : List Value} {vs : List V} (M : Mk X.K C f) (F : FnOk X.prog X.w X.K X.mg X.base CX k f fd ps sp) (hr : Room (k + 1) X.A) (hb : Binds X.K fd ps ds) (hd : Vals dvs ds)
    (hx : Passes CX X E) (I : Inv X pins σ H s) (r : Vals vs us)
    (h : ∀ x dx, H x = none → H dx = none → dx ≠ x → sp (.ref x :: (vs ++ dvs)) (upd (upd H dx (.own x)) x (.ins C dx [])) (fun v H2 => v = .non ∧ Q (.ref x) H2) E) :
    wpAny (model X.prog X.w) X.A (call (.ref C) us) (EP X pins σ Q) X.xe s := by
  have hq := h (s.heap.objs.size + 1) s.heap.objs.size (I.hok.fresh (Nat.le_succ _)) (I.hok.fresh (Nat.le_refl _)) (Nat.ne_of_lt (Nat.lt_succ_self _))
  have I2 := Inv.made (C := C) I
  have r2 : Vals (V.ref (s.heap.objs.size + 1) :: (vs ++ dvs)) (Value.ref (s.heap.objs.size + 1) :: (us ++ ds)) := .cons rfl (r.append hd)
  have hl : (Value.ref (s.heap.objs.size + 1) :: us ++ ds).length = ps.length := by
    have e := r2.length
    rw [F.len _ _ _ _ hq] at e
    exact e.symm
  refine wpAny_call (make_map (f := f) I.kIn M.makes M.init (beq_iff_eq.mp M.fn) (codeAny_mono (F.run _ X.stack _ _ ⟨Value.ref (s.heap.objs.size + 1) :: us, []⟩ (Value.ref (s.heap.objs.size + 1) :: (us ++ ds)) _ _ E (hr.make C us [])
    (I2.env0.make C us []) (hb _ (Value.ref (s.heap.objs.size + 1) :: us) I2.kIn hl) r2 hq) fun r s' hq' => ?_))
  cases r with
  | error e => exact hx pins σ _ _ e s' I2 hq'
  | ok fl =>
    cases fl with
    | ret u =>
      obtain ⟨v, H', I3, rv, ev, q3⟩ := I2.after hq'
      subst ev
      exact ⟨rv, ⟨V.ref (s.heap.objs.size + 1), H', I3, rfl, q3⟩⟩
    | next => exact False.elim hq'
    | brk => exact False.elim hq'
    | cont => exact False.elim hq'
theorem pe_make (M : Mk X.K C f) (F : FnOk X.prog X.w X.K X.mg X.base CX k f fd ps sp) (hr : Room (k + 1) X.A) (hg : Gl X x) (hm : X.mg x = some (.ref C)) (hb : Binds X.K fd ps ds) (hd : Vals dvs ds) (hx : Passes CX X E)
    (ha : PA X (e :: es) t) (hdb : (x == ("__debug__" : Str)) = false := by decide) (he : starEach (e :: es) X.env = (false, eval e X.env) :: starEach es X.env := by rfl) (hpl : (backTo pos (starEach es X.env)).any (·.1) = false := by rfl) :
    PE X (.Call (.Name x p) (e :: es) [] pos) (tMake C sp dvs E t) := by
  intro pins s σ H Q I h
  refine wpAny_Call_Name_kw (ld_glob I hg hm ?_ hdb)
  refine PySem.W.callWith_K (h₀ := X.base) I.ok.mod.kin M.kp (thn (ha pos pins s σ H _ I h) fun us s1 ⟨vs, H1, I1, r, q⟩ => ⟨I1.kIn, ?_⟩) he hpl
  exact run_make M F hr hb hd hx I1 r q
end

def PK (X : Cx) (kws : List Keyword) (t : TA) : Prop :=
  ∀ (pos : Pos) (pins : List (Addr × Obj)) (s : Shared) (σ : St) (H : Hp) (Q : List V → Hp → Prop), Inv X pins σ H s → t σ H Q → wpAny (model X.prog X.w) X.A (evalAll ((backToKw pos (keywordEach kws X.env)).map (·.2))) (AP X pins σ Q) X.xe s
section
variable {X : Cx} {CX : CXT} {k : Nat} {f C : Addr} {fd : FuncData} {ps ks : List Str} {sp : Sp} {E : XK} {x m : Str} {p pos apos kpos : Pos} {e o : Expr} {es : List Expr} {kws : List Keyword} {te ta : TE} {t tk : TA} {nm : Option Str}
structure KBinds (K : PySem.W.Frag) (fd : FuncData) (ps ks : List Str) (g : List Value → List Value → List Value) (gV : List V → List V → List V) : Prop where
  to : ∀ (s : Shared) (us ws : List Value), K.In s.heap → (g us ws).length = ps.length → BindsTo s fd ⟨us, ks.zip ws⟩ (ps.zip (g us ws))
  rel : ∀ {vs : List V} {us : List Value} {zs : List V} {ws : List Value}, Vals vs us → Vals zs ws → Vals (gV vs zs) (g us ws)
variable {g : List Value → List Value → List Value} {gV : List V → List V → List V}
end

structure FnScope (N P : List Str) (sc : Scope) : Prop where
  kind : sc.kind = .function
  co : sc.isCoroutine = false
  gen : sc.isGenerator = false
  nd : N.Nodup
  pre : N.take P.length = P
  par : ∀ x ∈ P, sc.names.lookup x = some .local ∨ sc.names.lookup x = some .cell
  nofree : ∀ y ∈ sc.names, y.2 ≠ .free

theorem bindL_out {kindOf : Str → Option NameKind} {x : Str} : ∀ {binds : List (Str × Value)} {m : Str → Option Value}, (∀ v, (x, v) ∉ binds) → bindL kindOf binds m x = m x
  | [], _, _ => rfl
  | (n, v) :: r, m, h => by
    unfold bindL
    rw [bindL_out fun w hw => h w (List.mem_cons_of_mem _ hw)]
    split
    · have : x ≠ n := by rintro rfl; exact h v List.mem_cons_self
      simp [this]
    · rfl
theorem bindC_out {kindOf : Str → Option NameKind} {x : Str} : ∀ {binds : List (Str × Value)} {m : Str → Option Value}, (∀ v, (x, v) ∉ binds) → bindC kindOf binds m x = m x
  | [], _, _ => rfl
  | (n, v) :: r, m, h => by
    unfold bindC
    rw [bindC_out fun w hw => h w (List.mem_cons_of_mem _ hw)]
    split
    · rfl
    · have : x ≠ n := by rintro rfl; exact h v List.mem_cons_self
      simp [this]
theorem bindL_get {kindOf : Str → Option NameKind} {x : Str} {v : Value} : ∀ {P : List Str} {vs : List Value} {i : Nat} {m : Str → Option Value}, P.Nodup → P[i]? = some x → vs[i]? = some v → kindOf x = some .local →
    bindL kindOf (P.zip vs) m x = some v
  | [], _, _, _, _, h, _, _ => by simp at h
  | _ :: _, [], _, _, _, _, h, _ => by simp at h
  | p :: P, w :: vs, 0, m, nd, h1, h2, hk => by
    simp at h1 h2; subst h1; subst h2
    show bindL kindOf ((p, w) :: P.zip vs) m p = _
    unfold bindL
    rw [bindL_out fun v hv => (List.nodup_cons.mp nd).1 (List.of_mem_zip hv).1, if_pos hk]
    simp
  | p :: P, w :: vs, i + 1, m, nd, h1, h2, hk => by
    show bindL kindOf ((p, w) :: P.zip vs) m x = _
    unfold bindL
    exact bindL_get (i := i) (List.nodup_cons.mp nd).2 (by simpa using h1) (by simpa using h2) hk
theorem bindC_get {kindOf : Str → Option NameKind} {x : Str} {v : Value} : ∀ {P : List Str} {vs : List Value} {i : Nat} {m : Str → Option Value}, P.Nodup → P[i]? = some x → vs[i]? = some v → kindOf x ≠ some .local →
    bindC kindOf (P.zip vs) m x = some v
  | [], _, _, _, _, h, _, _ => by simp at h
  | _ :: _, [], _, _, _, _, h, _ => by simp at h
  | p :: P, w :: vs, 0, m, nd, h1, h2, hk => by
    simp at h1 h2; subst h1; subst h2
    show bindC kindOf ((p, w) :: P.zip vs) m p = _
    unfold bindC
    rw [bindC_out fun v hv => (List.nodup_cons.mp nd).1 (List.of_mem_zip hv).1, if_neg hk]
    simp
  | p :: P, w :: vs, i + 1, m, nd, h1, h2, hk => by
    show bindC kindOf ((p, w) :: P.zip vs) m x = _
    unfold bindC
    exact bindC_get (i := i) (List.nodup_cons.mp nd).2 (by simpa using h1) (by simpa using h2) hk

def start (N : List Str) (vs : List V) : St := vs.map some ++ List.replicate (N.length - vs.length) none

def cxOf (CX : CXT) (P : Program) (w : World) (K : PySem.W.Frag) (mg : Str → Option Value) (base : Heap) (N : List Str) (qual : Str) (scope : Scope) (f : Addr) (cd : Value) (A : Around) (outer : List Env) (s : Shared) (H : Hp) (E : XK) : Cx where
  prog := P
  w := w
  K := K
  mg := mg
  base := base
  A := A.deeper (envOfC qual scope s.heap.objs.size f cd)
  N := N
  s₀ := s
  H₀ := H
  env := envOfC qual scope s.heap.objs.size f cd
  outer := outer
  stack := envOfC qual scope s.heap.objs.size f cd :: outer
  ex := []
  calm := true
  fn := fun _ => true
  pn := []
  xe := fun e s' => wpAny (model P w) (A.deeper (envOfC qual scope s.heap.objs.size f cd)) (leaving (envOfC qual scope s.heap.objs.size f cd) e) (fun _ s'' => CX outer H s E e s'') (fun e' s'' => CX outer H s E e' s'') s'

theorem cell_has {sc : Scope} {n : Nat} {x : Str} (h : sc.names.lookup x = some .cell) : ∃ c, (cellsFrom n sc.names []).lookup x = some c := by
  have q := PySem.W.cellsFrom_some sc.names n [] (.inl h)
  exact Option.isSome_iff_exists.mp q

theorem inv_start {CX : CXT} {P : Program} {w : World} {K : PySem.W.Frag} {mg : Str → Option Value} {base : Heap} {N ps : List Str} {qual : Str} {scope : Scope} {f : Addr} {cd : Value} {A : Around} {outer : List Env} {s s1 : Shared} {H : Hp} {E : XK} {us : List Value} {vs : List V}
    (S : FnScope N ps scope) (hd : A.handled = none) (e0 : Env0 P w K mg base A outer s H) (hl : vs.length = ps.length) (r : Vals vs us)
    (x : InCallC s s.heap.objs.size (bindL (envOfC qual scope s.heap.objs.size f cd).kindOf (ps.zip us) fun _ => none) (cellsFrom (s.heap.objs.size + 1) scope.names []) (bindC (envOfC qual scope s.heap.objs.size f cd).kindOf (ps.zip us) fun _ => none) s1) :
    Inv (cxOf CX P w K mg base N qual scope f cd A outer s H E) [] (start N vs) H s1 := by
  have hpl : ps.length ≤ N.length := by have := congrArg List.length S.pre; rw [List.length_take] at this; omega
  obtain ⟨h1, tk, rfl, hk⟩ := x.done
  have noA : ∀ b : Addr, b ∉ (cxOf CX P w K mg base N qual scope f cd A outer s H E).ex := fun b z => absurd (show b ∈ ([] : List Addr) from z) (by simp)
  refine ⟨⟨e0.mod, S.kind, rfl, rfl, Nat.le_refl _, fun y z c h1 h2 => ?_, fun y hy => ?_, fun y c _ h => ?_, fun _ => hd, Around.frames_deeper e0.frames, .inr ⟨rfl, rfl⟩, fun b z => absurd z (noA b), e0.bs, e0.bsz, fun b _ _ => noA b, fun b z => absurd z (noA b), e0.funs, e0.frf⟩,
    rfl, e0.bare, Un.kept hk, ⟨_, x.toInCall.ns, fun i y v h1 h2 h3 => ?_⟩, fun y c h => ⟨_, x.cell y c h⟩, e0.hok.fresh (Nat.le_refl _), fun y c h => ?_, fun p hp => absurd (show p ∈ ([] : List (Addr × Obj)) from hp) (by simp), e0.hok.kept hk, ?_⟩
  · exact name_of_addr x.apart (PySem.mem_of_lookup h1) (PySem.mem_of_lookup h2)
  · have hy : scope.names.lookup y = some .cell ∨ scope.names.lookup y = some .free := hy
    rcases hy with hy | hy
    · exact cell_has hy
    · exact absurd rfl (S.nofree _ (PySem.mem_of_lookup hy))
  · exact Nat.le_of_lt (x.above y c (PySem.mem_of_lookup h))
  · have hi : i < vs.length := by
      unfold start at h2
      by_cases hi : i < vs.length
      · exact hi
      · rw [List.getElem?_append_right (by simpa using hi)] at h2
        rw [List.getElem?_replicate] at h2
        split at h2 <;> cases h2
    have ha : vs[i]? = some v := by
      unfold start at h2
      rw [List.getElem?_append_left (by simpa using hi), List.getElem?_map] at h2
      cases e : vs[i]? with
      | none => rw [e] at h2; cases h2
      | some a => rw [e] at h2; cases h2; rfl
    obtain ⟨u, hu, rv⟩ := r.get ha
    have hp : ps[i]? = some y := by
      rw [← S.pre, List.getElem?_take_of_lt (by omega)]; exact h1
    have ndP : ps.Nodup := by rw [← S.pre]; exact S.nd.sublist (List.take_sublist _ _)
    refine ⟨u, rv, ?_⟩
    rcases S.par y (List.mem_of_getElem? hp) with k | k
    · exact .inl ⟨k, bindL_get ndP hp hu k⟩
    · obtain ⟨c, e⟩ := cell_has (n := s.heap.objs.size + 1) k
      refine .inr ⟨.inl k, c, e, ?_⟩
      have q := x.cell y c e
      rw [bindC_get ndP hp hu (by show scope.names.lookup y ≠ _; rw [k]; decide)] at q
      exact q
  · exact e0.hok.fresh (Nat.le_of_lt (x.above y c (PySem.mem_of_lookup h)))
  · unfold start
    show _ = N.length
    rw [List.length_append, List.length_map, List.length_replicate]
    omega

theorem fn_of {CX : CXT} {P : Program} {w : World} {K : PySem.W.Frag} {mg : Str → Option Value} {base : Heap} {k : Nat} {f : Addr} {name qual : Str} {params : Arguments} {body : List Stmt} {scope : Scope} {dV kV doc pm cdv ct oc : Value} {an od : Option Addr}
    {osl : Array (Option Value)} {N ps : List Str} {sp : Sp} (lk : K.lookup f = some ⟨oc, od, .func (PySem.W.fnOf name qual params body scope dV kV doc pm an cdv ct), osl⟩) (hcd : PySem.W.codeIn K cdv qual = true) (S : FnScope N ps scope)
    (len : ∀ vs H Q E, sp vs H Q E → vs.length = ps.length)
    (hbody : ∀ (A : Around) (outer : List Env) (s : Shared) (H : Hp) (vs : List V) (Q : VK) (E : XK), Room k (A.deeper (envOfC qual scope s.heap.objs.size f cdv)) → sp vs H Q E →
      ∃ t, PSs (cxOf CX P w K mg base N qual scope f cdv A outer s H E) body t ∧ t { nx := fun _ H' => Q .non H', rt := Q } (start N vs) H) :
    FnOk P w K mg base CX (k + 1) f (PySem.W.fnOf name qual params body scope dV kV doc pm an cdv ct) ps sp := by
  refine ⟨len, fun A outer s H args us vs Q E hr e0 hb r hsp => ?_⟩
  have hl := len _ _ _ _ hsp
  have KX : K.In s.heap := e0.mod.kin.keeps fun b o e => (e0.bs b o e).1
  have lim : s.heap.NoLimit := e0.mod.nolimit.keeps fun b o e => (e0.bs b o e).1
  have hkind : ∀ y ∈ ps.zip us, scope.names.lookup y.1 = some .local ∨ (scope.names.lookup y.1 = some .cell ∧ ((cellsFrom (s.heap.objs.size + 1) scope.names []).lookup y.1).isSome = true) := fun ⟨n, v⟩ hy => by
    rcases S.par n (List.of_mem_zip hy).1 with q | q
    · exact .inl q
    · exact .inr ⟨q, PySem.W.cellsFrom_some _ _ _ (.inl q)⟩
  refine codeAny_call_function hr.depth (KX _ _ lk) rfl S.co S.gen rfl (PySem.W.codeRec_of KX hcd) (hb _ _ _ _ ?_)
  refine wpAny_newFunctionEnv_cells S.kind hkind fun env he s1 x => ?_
  subst he
  refine ⟨lim.keeps x.toInCall.keep, codeAny_func ?_⟩
  obtain ⟨t, ht, hq⟩ := hbody A outer s H vs Q E (hr.deeper _) hsp
  have I : Inv (cxOf CX P w K mg base N qual scope f cdv A outer s H E) [] (start N vs) H s1 := inv_start S hr.hd e0 hl r x
  refine wpAny_mono (ht [] s1 (start N vs) H _ I hq) (fun fl s' hs => ?_) fun e s' hs => hs
  have fin : ∀ {σ' : St} {H' : Hp} {v : V} {u : Value}, Inv (cxOf CX P w K mg base N qual scope f cdv A outer s H E) [] σ' H' s' → RelV v u → Q v H' → CE outer P w H s Q u s' :=
    fun {σ' H' v u} J rv q => ⟨v, H', J.os, J.bare, J.base, J.hok, rv, q⟩
  cases fl with
  | ret u =>
    obtain ⟨v, σ', H', J, rv, q⟩ := hs
    exact fin J rv q
  | next =>
    obtain ⟨σ', H', J, q⟩ := hs
    exact fin (v := V.non) (u := Value.none) J rfl q
  | brk =>
    obtain ⟨_, _, _, q⟩ := hs
    exact False.elim q
  | cont =>
    obtain ⟨_, _, _, q⟩ := hs
    exact False.elim q
end L2

namespace L2
open PySem PySem.Spec PyProof.Rows
section
variable {X : Cx} {x : Str} {p pos : Pos} {e : Expr} {es : List Expr} {t : TA} {id T : String} {r : List V → Hp → VK → Prop}

def tCB (r : List V → Hp → VK → Prop) (t : TA) : TE := fun σ H Q => t σ H fun vs H1 => r vs H1 Q
theorem pe_callB (hc : CallR X (.builtin id) r) (hg : Gl X x) (hm : X.mg x = none) (hv : bootBuiltins x = some (.builtin id)) (ha : PA X (e :: es) t) (hn : x ≠ "__name__" := by decide) (hdb : (x == ("__debug__" : Str)) = false := by decide)
    (he : starEach (e :: es) X.env = (false, eval e X.env) :: starEach es X.env := by rfl) (hpl : (backTo pos (starEach es X.env)).any (·.1) = false := by rfl) : PE X (.Call (.Name x p) (e :: es) [] pos) (tCB r t) := by
  intro pins s σ H Q I h
  refine wpAny_Call_Name_kw (ld_blt I hg hm hv ?_ hn hdb)
  exact PyProof.Rows.callWith_builtin1 (thn (ha pos pins s σ H _ I h) fun us s1 ⟨vs, H1, I1, r1, q1⟩ => hc pins s1 σ H1 vs us Q I1 r1 q1) he hpl
theorem pe_callTy (hc : CallR X (.type T) r) (hg : Gl X x) (hm : X.mg x = none) (hv : bootBuiltins x = some (.type T)) (ha : PA X (e :: es) t) (hn : x ≠ "__name__" := by decide) (hdb : (x == ("__debug__" : Str)) = false := by decide)
    (he : starEach (e :: es) X.env = (false, eval e X.env) :: starEach es X.env := by rfl) (hpl : (backTo pos (starEach es X.env)).any (·.1) = false := by rfl) : PE X (.Call (.Name x p) (e :: es) [] pos) (tCB r t) := by
  intro pins s σ H Q I h
  refine wpAny_Call_Name_kw (ld_blt I hg hm hv ?_ hn hdb)
  exact PyProof.Rows.callWith_type1 (thn (ha pos pins s σ H _ I h) fun us s1 ⟨vs, H1, I1, r1, q1⟩ => hc pins s1 σ H1 vs us Q I1 r1 q1) he hpl
end
end L2
namespace L2
open PySem PySem.Spec PyProof.Rows

section
variable {κ : Type} [DecidableEq κ]
def valV (kvs : List (κ × V)) (k : κ) : Option V := (kvs.find? fun kv => decide (kv.1 = k)).map (·.2)
def putK (kvs : List (κ × V)) (k : κ) (v : V) : List (κ × V) :=
  if (kvs.any fun kv => decide (kv.1 = k)) = true then kvs.map (fun kv => if kv.1 = k then (kv.1, v) else kv) else kvs ++ [(k, v)]
def dropK (kvs : List (κ × V)) (k : κ) : List (κ × V) := kvs.filter fun kv => decide (kv.1 ≠ k)

theorem valV_pos {p : κ × V} {r : List (κ × V)} {k : κ} (e : p.1 = k) : valV (p :: r) k = some p.2 := by simp [valV, List.find?_cons, e]
theorem valV_neg {p : κ × V} {r : List (κ × V)} {k : κ} (e : ¬ p.1 = k) : valV (p :: r) k = valV r k := by simp [valV, List.find?_cons, e]
theorem RelO.getD {o : Option V} {u : Option Value} {d : V} {d' : Value} (r : RelO o u) (rd : RelV d d') : RelV (o.getD d) (u.getD d') := by
  cases o with
  | none => cases u with
    | none => exact rd
    | some _ => exact (show False from r).elim
  | some _ => cases u with
    | none => exact (show False from r).elim
    | some _ => exact r

theorem KV.val {kvs : List (κ × V)} {vs : List (κ × Value)} (r : KV kvs vs) (k : κ) : RelO (valV kvs k) (valueAt vs k) := by
  unfold KV at r
  induction r with
  | nil => exact True.intro
  | @cons p q ps qs h t ih =>
    obtain ⟨h1, h2⟩ := h
    by_cases e : p.1 = k
    · have e' : q.1 = k := h1.symm.trans e
      have b : valueAt (q :: qs) k = some q.2 := by simp [valueAt, List.find?_cons, e']
      rw [valV_pos e, b]; exact h2
    · have e' : ¬ q.1 = k := fun z => e (h1.trans z)
      have b : valueAt (q :: qs) k = valueAt qs k := by simp [valueAt, List.find?_cons, e']
      rw [valV_neg e, b]; exact ih
theorem KV.any {kvs : List (κ × V)} {vs : List (κ × Value)} (r : KV kvs vs) (k : κ) : (kvs.any fun kv => decide (kv.1 = k)) = vs.any fun kv => decide (kv.1 = k) := by
  unfold KV at r
  induction r with
  | nil => rfl
  | cons h t ih => rw [List.any_cons, List.any_cons, ih, h.1]
theorem KV.drop {kvs : List (κ × V)} {vs : List (κ × Value)} (r : KV kvs vs) (k : κ) : KV (dropK kvs k) (without vs k) := by
  unfold KV at r ⊢
  unfold dropK without
  induction r with
  | nil => exact .nil
  | @cons p q ps qs h t ih =>
    obtain ⟨h1, h2⟩ := h
    rw [List.filter_cons, List.filter_cons]
    by_cases e : p.1 = k
    · have a : ¬ decide (p.1 ≠ k) = true := by simp [e]
      have b : ¬ decide (q.1 ≠ k) = true := by simp [h1.symm.trans e]
      rw [if_neg a, if_neg b]; exact ih
    · have e' : ¬ q.1 = k := fun z => e (h1.trans z)
      have a : decide (p.1 ≠ k) = true := by simp [e]
      have b : decide (q.1 ≠ k) = true := by simp [e']
      rw [if_pos a, if_pos b]; exact .cons ⟨h1, h2⟩ ih
theorem KV.keys {kvs : List (κ × V)} {vs : List (κ × Value)} (r : KV kvs vs) : kvs.map (·.1) = vs.map (·.1) := by
  unfold KV at r
  induction r with
  | nil => rfl
  | cons h t ih => rw [List.map_cons, List.map_cons, ih, h.1]
theorem KV.length {kvs : List (κ × V)} {vs : List (κ × Value)} (r : KV kvs vs) : kvs.length = vs.length := Paired.length r
end


theorem kV_is {P : Program} {w : World} {k : Key} {u : Value} (r : RelV (kV k) u) : (mixKind P w).is k u = true := by
  cases k with
  | inl i => obtain ⟨t, e⟩ := (show ∃ t, u = Value.int i t from r); subst e; exact mixKind_int P w i t
  | inr x => obtain ⟨t, e⟩ := (show ∃ t, u = Value.str x t from r); subst e; exact mixKind_str P w x t
theorem items_are {P : Program} {w : World} : ∀ {ks : List Key} {us : List Value}, Vals (ks.map kV) us → ItemsAre (mixKind P w) ks us
  | [], _, r => by rw [List.map_nil] at r; cases r; exact .nil
  | k :: ks, _, r => by
    rw [List.map_cons] at r
    cases r with
    | cons h t => exact .cons (kV_is h) (items_are t)

abbrev KT (H : Hp) : List (List Key × V) → List (List Key × Addr × Value) → Prop := Paired fun p q => p.1 = q.1 ∧ H q.2.1 = some (.tup (p.1.map kV)) ∧ RelV p.2 q.2.2
theorem KT.val {H : Hp} {kvs : List (List Key × V)} {xs : List (List Key × Addr × Value)} (r : KT H kvs xs) (k : List Key) : RelO (valV kvs k) ((atKey xs k).map (·.2)) := by
  induction r with
  | nil => exact True.intro
  | @cons p q ps qs h t ih =>
    obtain ⟨h1, _, h2⟩ := h
    by_cases e : p.1 = k
    · have e' : q.1 = k := h1.symm.trans e
      have b : atKey (q :: qs) k = some q.2 := by simp [atKey, List.find?_cons, e']
      rw [valV_pos e, b]; exact h2
    · have e' : ¬ q.1 = k := fun z => e (h1.trans z)
      have b : atKey (q :: qs) k = atKey qs k := by simp [atKey, List.find?_cons, e']
      rw [valV_neg e, b]; exact ih
theorem KT.keeps {H H' : Hp} {kvs : List (List Key × V)} {xs : List (List Key × Addr × Value)} (r : KT H kvs xs) (ht : ∀ b ys, H b = some (.tup ys) → H' b = some (.tup ys)) : KT H' kvs xs :=
  Paired.mapP r fun _ _ z => ⟨z.1, ht _ _ z.2.1, z.2.2⟩

section
variable {P : Program} {w : World} {H : Hp} {h : Heap} {a : Addr}
theorem rd_of {u : HO} (ok : HOk P w H h) (e : Rd H a u) : ObjOk P w H h a u := e.ok ok
theorem dk_rd {kvs : List (Key × V)} (ok : HOk P w H h) (e : Rd H a (.dK kvs)) : kvs.length ≤ sizeLine ∧ (a == sysModules) = false ∧ ∃ vs, KV kvs vs ∧ h.DictOf (mixKind P w) a vs :=
  show ObjOk P w H h a (.dK kvs) from rd_of ok e
theorem key_of {ks : List Key} (ok : HOk P w H h) (e : H a = some (.tup (ks.map kV))) : (tupleKind (mixKind P w)).is h ks a := by
  obtain ⟨_, its, r, ⟨o, h1, h2, n, h3⟩, _⟩ := (show ObjOk P w H h a (.tup (ks.map kV)) from ok a _ e)
  exact ⟨o, its.toArray, n, h1, h2, h3, by simpa using items_are r⟩
theorem dt_rd {kvs : List (List Key × V)} (ok : HOk P w H h) (e : Rd H a (.dT kvs)) : kvs.length ≤ sizeLine ∧ (a == sysModules) = false ∧
    ∃ xs, KT H kvs xs ∧ h.DictOfH (tupleKind (mixKind P w)) a xs := by
  obtain ⟨z, y, xs, r, o, es, ep, h1, h2, h3, h4, h5⟩ := (show ObjOk P w H h a (.dT kvs) from rd_of ok e)
  refine ⟨z, y, xs, r, o, es, ep, h1, h2, h3, h4, fun x hx => ?_, h5⟩
  have all : ∀ {l : List (List Key × V)} {m : List (List Key × Addr × Value)}, KT H l m → ∀ x ∈ m, (tupleKind (mixKind P w)).is h x.1 x.2.1 := by
    intro l m q
    induction q with
    | nil => intro x hx; exact nomatch hx
    | @cons p q ps qs hq t ih =>
      intro x hx
      rcases List.mem_cons.mp hx with e | hx
      · subst e
        exact key_of ok (by rw [← hq.1]; exact hq.2.1)
      · exact ih x hx
  exact all r x hx
end

def DGet (H : Hp) (a : Addr) (y : V) (r : Option V) : Prop :=
  (∃ kvs k, Rd H a (.dK kvs) ∧ y = kV k ∧ r = valV kvs k) ∨ ∃ kvs k b, Rd H a (.dT kvs) ∧ y = .ref b ∧ H b = some (.tup (k.map kV)) ∧ r = valV kvs k
def DPut (H : Hp) (a : Addr) (y v : V) (H' : Hp) : Prop :=
  (∃ kvs k, H a = some (.dK kvs) ∧ y = kV k ∧ kvs.length < sizeLine ∧ H' = upd H a (.dK (putK kvs k v))) ∨
  ∃ kvs k b, H a = some (.dT kvs) ∧ y = .ref b ∧ H b = some (.tup (k.map kV)) ∧ kvs.length < sizeLine ∧ H' = upd H a (.dT (putK kvs k v))
theorem DGet.k {H : Hp} {a : Addr} {kvs : List (Key × V)} {k : Key} (e : H a = some (.dK kvs)) : DGet H a (kV k) (valV kvs k) := .inl ⟨kvs, k, .inl e, rfl, rfl⟩
theorem DGet.t {H : Hp} {a b : Addr} {kvs : List (List Key × V)} {k : List Key} (e : H a = some (.dT kvs)) (eb : H b = some (.tup (k.map kV))) : DGet H a (.ref b) (valV kvs k) := .inr ⟨kvs, k, b, .inl e, rfl, eb, rfl⟩
theorem DPut.k {H : Hp} {a : Addr} {kvs : List (Key × V)} {k : Key} {v : V} (e : H a = some (.dK kvs)) (hl : kvs.length < sizeLine) : DPut H a (kV k) v (upd H a (.dK (putK kvs k v))) := .inl ⟨kvs, k, e, rfl, hl, rfl⟩
theorem DPut.t {H : Hp} {a b : Addr} {kvs : List (List Key × V)} {k : List Key} {v : V} (e : H a = some (.dT kvs)) (eb : H b = some (.tup (k.map kV))) (hl : kvs.length < sizeLine) :
    DPut H a (.ref b) v (upd H a (.dT (putK kvs k v))) := .inr ⟨kvs, k, b, e, rfl, eb, hl, rfl⟩


section
variable {X : Cx} {pins : List (Addr × Obj)} {σ : St} {H : Hp} {s : Shared} {a : Addr} {y v : V} {u r : Value} {o : Option V} {A : Around} {E : Value → Shared → Prop}

theorem Inv.big (I : Inv X pins σ H s) : sysModules < s.heap.objs.size := by
  have h : mainGlobals < s.heap.objs.size := (I.mod.glob.keeps I.bk).lt
  exact Nat.lt_trans (by decide) h

end

section
variable {X : Cx} {pins : List (Addr × Obj)} {σ : St} {H : Hp} {s : Shared} {a : Addr} {kvs : List (Key × V)} {k : Key} {u : Value} {A : Around} {E : Value → Shared → Prop}
end


section
variable {X : Cx} {o i e value : Expr} {pos pos' tpos : Pos} {td ty tv : TE}
end


theorem dk_empty {P : Program} {w : World} {H : Hp} (h : Heap) (hb : sysModules < h.objs.size) : ObjOk P w H (h.push { cls := .type "dict", data := .dict #[] }) h.objs.size (.dK []) :=
  ⟨Nat.zero_le _, beq_eq_false_iff_ne.mpr (Ne.symm (Nat.ne_of_lt hb)), [], .nil, Heap.DictOf.new h⟩
def tDNewK : TE := fun _ H Q => ∀ p, H p = none → Q (.ref p) (upd H p (.dK []))
section
variable {X : Cx} {pos : Pos}
theorem pe_dnewK : PE X (.Dict [] [] pos) tDNewK := fun pins s σ H Q I h =>
  wpAny_Dict_empty ⟨.ref s.heap.objs.size, _, I.laid (a := s.heap.objs.size) (o := .dK []) (t' := s.toks) (fun _ _ q => Heap.get?_push_of_some _ q) (Nat.le_refl _) (dk_empty s.heap I.big), rfl, h _ (I.hok.fresh (Nat.le_refl _))⟩
end

structure M1 (X : Cx) (o : Expr) (m : Str) (apos : Pos) (e : Expr) (cpos : Pos) : Prop where
  base : attributeBase o m X.env (eval o X.env) = eval o X.env
  few : ((backTo cpos (starEach [e] X.env)).all (fun x => !x.1) && (backToKw cpos (keywordEach [] X.env)).all (fun x => x.1.isSome)
    && decide (([e] : List Expr).length + ([] : List Keyword).length + (if ([] : List Keyword).isEmpty then 0 else 1) < 30)) = true
  line : (apos.endLine == cpos.line) = true
  trees : backTo cpos (starEach [e] X.env) = [(false, eval e X.env)]
structure M2 (X : Cx) (o : Expr) (m : Str) (apos : Pos) (e f : Expr) (cpos : Pos) : Prop where
  base : attributeBase o m X.env (eval o X.env) = eval o X.env
  few : ((backTo cpos (starEach [e, f] X.env)).all (fun x => !x.1) && (backToKw cpos (keywordEach [] X.env)).all (fun x => x.1.isSome)
    && decide (([e, f] : List Expr).length + ([] : List Keyword).length + (if ([] : List Keyword).isEmpty then 0 else 1) < 30)) = true
  line : (apos.endLine == cpos.line) = true
  trees : backTo cpos (starEach [e, f] X.env) = [(false, eval e X.env), (false, eval f X.env)]

def IsD (H : Hp) (a : Addr) : Prop := (∃ kvs, Rd H a (.dK kvs)) ∨ ∃ kvs, Rd H a (.dT kvs)
theorem isD_at {X : Cx} {pins : List (Addr × Obj)} {σ : St} {H : Hp} {s : Shared} {a : Addr} (I : Inv X pins σ H s) (d : IsD H a) :
    s.TypeIs (.ref a) "dict" ∧ (∀ b, Value.ref a = .ref b → ∃ ob, s.heap.get? b = some ob ∧ ob.dict = none) ∧ (a == sysModules) = false := by
  rcases d with ⟨kvs, e⟩ | ⟨kvs, e⟩
  · obtain ⟨_, hd, vs, _, dd⟩ := dk_rd I.hok e
    refine ⟨dd.typeIs, fun b q => ?_, hd⟩
    cases q
    obtain ⟨ob, _, _, h1, h2, _⟩ := dd
    exact ⟨ob, h1, h2.2.1⟩
  · obtain ⟨_, hd, xs, _, dd⟩ := dt_rd I.hok e
    refine ⟨dd.typeIs, fun b q => ?_, hd⟩
    cases q
    obtain ⟨ob, _, _, h1, h2, _⟩ := dd
    exact ⟨ob, h1, h2.2.1⟩

section
variable {X : Cx} {pins : List (Addr × Obj)} {σ : St} {H : Hp} {s : Shared} {a : Addr} {y d : V} {u r : Value} {o : Option V} {A : Around} {E : Value → Shared → Prop}
theorem d_get1 {Q : Value → Shared → Prop} (hu : A.units + 1 < cLine) (I : Inv X pins σ H s) (g : DGet H a y o) (ry : RelV y u) (h : ∀ w' s', Inv X pins σ H s' → RelV (o.getD .non) w' → Q w' s') :
    wpAny (model X.prog X.w) A (call (.builtin "dict.get") [.ref a, u]) Q E s := by
  rcases g with ⟨kvs, k, e, ey, l⟩ | ⟨kvs, k, b, e, ey, eb, l⟩
  · subst ey
    obtain ⟨z, hd, vs, rel, dd⟩ := dk_rd I.hok e
    refine call_meetsIn PySem.F.slot_dict_get dd.typeIs PySem.F.entry_dict_get (PySem.F.args_dict_get_2 _ _) (meets_dict_get (mixKind X.prog X.w) a (kV_is ry) hd) ⟨_, dd.mapOf, h _ _ (I.tok _) ?_⟩
    rw [l]
    exact (rel.val k).getD rfl
  · subst ey
    cases (show u = Value.ref b from ry)
    obtain ⟨z, hd, xs, rel, dd⟩ := dt_rd I.hok e
    refine call_meetsIn PySem.F.slot_dict_get dd.typeIs PySem.F.entry_dict_get (PySem.F.args_dict_get_2 _ _) (meetsH_dict_get (tupleKind (mixKind X.prog X.w)) a b hd) ⟨tupleKind_room_in1 hu, k, xs, key_of I.hok eb, dd, h _ _ (I.tok _) ?_⟩
    rw [l]
    exact (rel.val k).getD rfl
end

def tDGet1 (td ty : TE) : TE := fun σ H Q => td σ H fun x H1 => ∃ a, x = .ref a ∧ IsD H1 a ∧ ty σ H1 fun y H2 => ∃ o, DGet H2 a y o ∧ Q (o.getD .non) H2
section
variable {X : Cx} {o e f : Expr} {apos cpos : Pos} {td ty tx : TE}
theorem pe_dget1 (hu : X.A.units + 1 < cLine) (ho : PE X o td) (he : PE X e ty) (m : M1 X o "get" apos e cpos) : PE X (.Call (.Attribute o "get" apos) [e] [] cpos) (tDGet1 td ty) := by
  intro pins s σ H Q I h
  refine wpAny_Call_method m.base m.few m.line PySem.F.plainAttrs_dict PySem.F.slot_dict_get PySem.F.type_dict_get (thn (ho pins s σ H _ I h) fun u s1 ⟨x, H1, I1, rx, a, ex, d, q1⟩ => ?_)
  subst ex
  obtain rfl : u = Value.ref a := rx
  obtain ⟨t1, t2, _⟩ := isD_at I1 d
  refine ⟨t1, t2, ?_⟩
  rw [m.trees]
  refine Calls.callWith_builtin rfl (Calls.evalArgs_plain (Calls.spliced_cons (thn (he pins s1 σ H1 _ I1 q1) fun iv s2 ⟨y, H2, I2, ry, ov, g, q2⟩ => Calls.spliced_nil ?_)))
  exact d_get1 hu I2 g ry fun w' s3 I3 rw' => ⟨_, H2, I3, rw', q2⟩
end

section
variable {X : Cx} {pins : List (Addr × Obj)} {σ : St} {H : Hp} {s : Shared} {a : Addr} {kvs : List (Key × V)} {A : Around} {E : Value → Shared → Prop}
end


section
variable {X : Cx} {pins : List (Addr × Obj)} {σ : St} {H : Hp} {s : Shared} {a : Addr} {y : V} {u : Value} {A : Around} {E : Value → Shared → Prop}
end
end L2
namespace HT
open PySem PyProof.Rows

section
open PySem.SeqAt
open PySem.AutoSeq1 (wpAny_loadPart')
open PySem.MeetsSeq PySem.MeetsSeq2 PySem.MeetsSeq3

end

section
variable {prog : Program} {w : World} {A : Around} {E : Value → Shared → Prop} {s : Shared}

def sIx (n d : Nat) : Option Int → Nat
  | none => d
  | some v => if v < 0 then (v + (n : Int)).toNat else min v.toNat n
theorem sIx_nat (n d k : Nat) : sIx n d (some (k : Int)) = min k n := by
  show (if (k : Int) < 0 then ((k : Int) + (n : Int)).toNat else min (k : Int).toNat n) = min k n
  rw [if_neg (by omega), Int.toNat_natCast]
end
end HT

namespace L2
open PySem PySem.Spec PyProof.Rows

abbrev TO := St → Hp → (Option Int → Hp → Prop) → Prop
def PO (X : Cx) (e : Option Expr) (t : TO) : Prop :=
  ∀ (pins : List (Addr × Obj)) (s : Shared) (σ : St) (H : Hp) (Q : Option Int → Hp → Prop), Inv X pins σ H s → t σ H Q →
    wpAny (model X.prog X.w) X.A (evalPart e X.env) (fun u s' => ∃ o H', Inv X pins σ H' s' ∧ IsPart u o ∧ Q o H') X.xe s
def tNoPart : TO := fun _ H Q => Q none H
def tPart (t : TE) : TO := fun σ H Q => t σ H fun x H1 => ∃ i, x = .int i ∧ Q (some i) H1

section
variable {X : Cx} {e : Expr} {te : TE} {lo hi : Option Expr} {tl th : TO} {pos p2 : Pos}

theorem po_none : PO X none tNoPart := by
  intro pins s σ H Q I h
  rw [evalPart_none]
  exact wpAny_pure ⟨none, H, I, .none, h⟩
theorem po_some (h : PE X e te) : PO X (some e) (tPart te) := by
  intro pins s σ H Q I hw
  rw [evalPart_some]
  refine thn (h pins s σ H _ I hw) fun u s1 ⟨x, H1, I1, r1, q1⟩ => ?_
  obtain ⟨i, rfl, q⟩ := q1
  obtain ⟨t, rfl⟩ := r1
  exact ⟨some i, H1, I1, .int i t, q⟩

def SlR (X : Cx) (r : V → Option Int → Option Int → Hp → VK → Prop) : Prop :=
  ∀ (pins : List (Addr × Obj)) (s : Shared) (σ : St) (H : Hp) (x : V) (v vl vu : Value) (lo hi : Option Int) (sl : Addr) (Q : VK), Inv X pins σ H s → RelV x v → s.heap.IsSliceOf sl vl vu .none → IsPart vl lo → IsPart vu hi → r x lo hi H Q →
    ∃ T id, typeLookup (.type T) "__getitem__" = pure (some (.builtin id)) ∧ s.TypeIs v T ∧ wpAny (model X.prog X.w) X.A (getItem v (.ref sl)) (EP X pins σ Q) X.xe s
theorem SlR.or {r r' : V → Option Int → Option Int → Hp → VK → Prop} (h : SlR X r) (h' : SlR X r') : SlR X (fun x lo hi H Q => r x lo hi H Q ∨ r' x lo hi H Q) := by
  intro pins s σ H x v vl vu lo hi sl Q I rx hs pl pu q
  rcases q with q | q
  · exact h pins s σ H x v vl vu lo hi sl Q I rx hs pl pu q
  · exact h' pins s σ H x v vl vu lo hi sl Q I rx hs pl pu q
def tSl (r : V → Option Int → Option Int → Hp → VK → Prop) (te : TE) (tl th : TO) : TE := fun σ H Q => te σ H fun x H1 => tl σ H1 fun l H2 => th σ H2 fun u H3 => r x l u H3 Q
theorem pe_slice {r : V → Option Int → Option Int → Hp → VK → Prop} (hr : SlR X r) (he : PE X e te) (hl : PO X lo tl) (hu : PO X hi th) : PE X (.Subscript e (.Slice lo hi none p2) pos) (tSl r te tl th) := by
  intro pins s σ H Q I h
  refine Subscript_ (thn (he pins s σ H _ I h) fun v s1 ⟨x, H1, I1, r1, q1⟩ => ?_)
  refine wpAny_Slice (thn (hl pins s1 σ H1 _ I1 q1) fun vl s2 ⟨l, H2, I2, pl, q2⟩ => thn (hu pins s2 σ H2 _ I2 q2) fun vu s3 ⟨u, H3, I3, pu, q3⟩ => ?_)
  rw [evalPart_none]
  refine wpAny_pure ?_
  have I4 : Inv X pins σ H3 { s3 with heap := s3.heap.push { cls := .type "slice", data := .fields #[vl, vu, .none] } } := I3.kept (t' := s3.toks) fun b ob q => Heap.get?_push_of_some _ q
  obtain ⟨T, id, hT, ht, hg⟩ := hr pins { s3 with heap := s3.heap.push { cls := .type "slice", data := .fields #[vl, vu, .none] } } σ H3 x v vl vu l u s3.heap.objs.size Q I4 r1 (Heap.IsSliceOf.new ..) pl pu q3
  show wpAny (model X.prog X.w) X.A (subscriptTail e (.Slice lo hi none p2) v (.ref s3.heap.objs.size)) (EP X pins σ Q) X.xe { s3 with heap := s3.heap.push { cls := .type "slice", data := .fields #[vl, vu, .none] } }
  exact tail_any (ops := [.ref s3.heap.objs.size, v]) ht hT hg (by with_unfolding_all rfl)

def cutV (xs : List V) (lo hi : Option Int) : List V := (xs.drop (HT.sIx xs.length 0 lo)).take (HT.sIx xs.length xs.length hi - HT.sIx xs.length 0 lo)
theorem cutV_length (xs : List V) (lo hi : Option Int) : (cutV xs lo hi).length ≤ xs.length := by
  unfold cutV
  rw [List.length_take, List.length_drop]
  omega
end
end L2

namespace L2
open PySem PySem.Spec PyProof.Rows

def ixN (n : Nat) (i : Int) : Option Nat := if 0 ≤ i then (if i < n then some i.toNat else none) else if -(n : Int) ≤ i then some (i + n).toNat else none
def atI {α : Type} (xs : List α) (i : Int) : Option α := (ixN xs.length i).bind fun j => xs[j]?
theorem ixN_seq {n : Nat} {i : Int} {j : Nat} (h : ixN n i = some j) : seqIndex? i n = some j ∧ j < n ∧ -(n : Int) ≤ i ∧ i < n := by
  unfold ixN at h
  by_cases h0 : 0 ≤ i
  · rw [if_pos h0] at h
    by_cases h1 : i < n
    · rw [if_pos h1] at h
      have e : i.toNat = j := Option.some.inj h
      exact ⟨by rw [seqIndex_of h0 h1, e], by omega, by omega, h1⟩
    · rw [if_neg h1] at h; cases h
  · rw [if_neg h0] at h
    by_cases h1 : -(n : Int) ≤ i
    · rw [if_pos h1] at h
      have e : (i + n).toNat = j := Option.some.inj h
      exact ⟨by rw [seqIndex_neg (by omega) h1, e], by omega, h1, by omega⟩
    · rw [if_neg h1] at h; cases h
theorem atI_get {α : Type} {xs : List α} {i : Int} {v : α} (h : atI xs i = some v) : ∃ j, seqIndex? i xs.length = some j ∧ xs[j]? = some v ∧ j < xs.length ∧ -(xs.length : Int) ≤ i ∧ i < xs.length := by
  unfold atI at h
  cases e : ixN xs.length i with
  | none => rw [e] at h; cases h
  | some j =>
    rw [e] at h
    obtain ⟨h1, h2, h3, h4⟩ := ixN_seq e
    exact ⟨j, h1, h, h2, h3, h4⟩
theorem atI_nat {α : Type} {xs : List α} {j : Nat} {v : α} (h : xs[j]? = some v) : atI xs (j : Int) = some v := by
  have hj : j < xs.length := (List.getElem?_eq_some_iff.mp h).1
  have e : ixN xs.length (j : Int) = some j := by
    unfold ixN
    rw [if_pos (by omega), if_pos (by omega)]; simp
  unfold atI; rw [e]; exact h
def PlainIx (b : Expr) : Prop := ∀ o i, subscripted b false o i = operate [o, i] (getItem o i)
def IxR (X : Cx) (r : R2) : Prop :=
  ∀ (value slice : Expr) (pins : List (Addr × Obj)) (s : Shared) (σ : St) (H : Hp) (x y : V) (v u : Value) (Q : VK), Inv X pins σ H s → RelV x v → RelV y u → r x y H Q →
    subscripted slice false v u = operate [v, u] (getItem v u) → wpAny (model X.prog X.w) X.A (subscriptTail value slice v u) (EP X pins σ Q) X.xe s
def MtR (X : Cx) (id : String) (r : V → List V → Hp → VK → Prop) : Prop :=
  ∀ (pins : List (Addr × Obj)) (s : Shared) (σ : St) (H : Hp) (x : V) (xs : List V) (v : Value) (us : List Value) (Q : VK), Inv X pins σ H s → RelV x v → Vals xs us → r x xs H Q →
    wpAny (model X.prog X.w) X.A (call (.builtin id) (v :: us)) (EP X pins σ Q) X.xe s
section
variable {X : Cx} {a b : Expr} {ta tb : TE} {pos : Pos}
theorem IxR.or {r r' : R2} (h : IxR X r) (h' : IxR X r') : IxR X (fun x y H Q => r x y H Q ∨ r' x y H Q) := by
  intro value slice pins s σ H x y v u Q I rx ry q hs
  rcases q with q | q
  · exact h value slice pins s σ H x y v u Q I rx ry q hs
  · exact h' value slice pins s σ H x y v u Q I rx ry q hs
theorem MtR.or {id : String} {r r' : V → List V → Hp → VK → Prop} (h : MtR X id r) (h' : MtR X id r') : MtR X id (fun x xs H Q => r x xs H Q ∨ r' x xs H Q) := by
  intro pins s σ H x xs v us Q I rx rs q
  rcases q with q | q
  · exact h pins s σ H x xs v us Q I rx rs q
  · exact h' pins s σ H x xs v us Q I rx rs q
theorem pe_ix {r : R2} (hr : IxR X r) (ha : PE X a ta) (hb : PE X b tb) (hs : PlainIx b) : PE X (.Subscript a b pos) (tOp r ta tb) := by
  intro pins s σ H Q I h
  exact Subscript_ (binT ha hb I h fun v u s2 x y H2 I2 rx ry q => hr a b pins s2 σ H2 x y v u Q I2 rx ry q (hs _ _))

def rIxL (K : PySem.W.Frag) : R2 := fun x y H Q => ∃ p xs i v, x = .ref p ∧ y = .int i ∧ SqL K H p xs ∧ atI xs i = some v ∧ Q v H
def rIxT (K : PySem.W.Frag) : R2 := fun x y H Q => ∃ p xs i v, x = .ref p ∧ y = .int i ∧ SqT K H p xs ∧ atI xs i = some v ∧ Q v H
def rIxS : R2 := fun x y H Q => ∃ z i c, x = .str z ∧ y = .int i ∧ z.length ≤ sizeLine ∧ atI z.cps.toList i = some c ∧ Q (.str ⟨#[c]⟩) H
theorem ix_list : IxR X (rIxL X.K) := by
  intro value slice pins s σ H x y v u Q I rx ry h hs
  obtain ⟨p, xs, i, z, rfl, rfl, hq, he, q⟩ := h
  cases rx
  obtain ⟨t, rfl⟩ := ry
  obtain ⟨its, r, pl, hz⟩ := I.list hq
  obtain ⟨j, h1, h2, h3, h4, h5⟩ := atI_get he
  obtain ⟨w, ew, rw'⟩ := r.get h2
  have hl := r.length
  have hn := line63
  have fin : EP X pins σ Q w s := ⟨z, H, I, rw', q⟩
  by_cases h0 : 0 ≤ i
  · have hj : i.toNat = j := by
      rw [seqIndex_of h0 h5] at h1
      exact Option.some.inj h1
    exact item_listR pl.isList h0 (by omega) (by rw [hj]; simpa using ew) fin hs
  · have hj : (i + (its.toArray.size : Int)).toNat = j := by
      rw [seqIndex_neg (by omega) h4] at h1
      rw [List.size_toArray, ← hl]
      exact Option.some.inj h1
    exact subscriptTail_builtinR (x := w) pl.isList.typeIs slot_list_getitem.lookup
      (wpAny_getItem_list_neg (Q := fun r s' => r = w ∧ EP X pins σ Q r s') pl.isList (by omega) (by rw [List.size_toArray] <;> omega) (by omega) (by rw [hj]; simpa using ew) ⟨rfl, fin⟩) hs
theorem ix_tup : IxR X (rIxT X.K) := by
  intro value slice pins s σ H x y v u Q I rx ry h hs
  obtain ⟨p, xs, i, z, rfl, rfl, hq, he, q⟩ := h
  cases rx
  obtain ⟨t, rfl⟩ := ry
  obtain ⟨its, r, pl, hz⟩ := I.tuple hq
  obtain ⟨j, h1, h2, h3, h4, h5⟩ := atI_get he
  obtain ⟨w, ew, rw'⟩ := r.get h2
  have hl := r.length
  have hn := line63
  have fin : EP X pins σ Q w s := ⟨z, H, I, rw', q⟩
  exact subscriptTail_builtinR (x := w) pl.typeIs slot_tuple_getitem.lookup
    (getItem_tuple (j := j) (Q := fun r s' => r = w ∧ EP X pins σ Q r s') pl (by omega) (by omega) (by rw [List.size_toArray, ← hl]; exact h1) (by simpa using ew) ⟨rfl, fin⟩) hs
theorem ix_str : IxR X rIxS := by
  intro value slice pins s σ H x y v u Q I rx ry h hs
  obtain ⟨z, i, c, rfl, rfl, hz, he, q⟩ := h
  obtain ⟨t, rfl⟩ := rx
  obtain ⟨t', rfl⟩ := ry
  obtain ⟨j, h1, h2, h3, h4, h5⟩ := atI_get he
  have hl : z.cps.toList.length = z.length := by simp [Str.length]
  rw [hl] at h1 h4 h5
  have hn := line63
  exact tail_any (typeIs_str s z t) slot_str_getitem.lookup (getItem_str (c := c) (by
    have e1 : decide (i < -(2 ^ 63 : Int)) = false := decide_eq_false (by omega)
    have e2 : decide (i ≥ 2 ^ 63) = false := decide_eq_false (by omega)
    rw [e1, e2, Bool.or_false]) (by rw [h1]; simpa using h2) ⟨.str ⟨#[c]⟩, H, I.tok _, ⟨_, rfl⟩, q⟩) hs
def rIx (K : PySem.W.Frag) : R2 := fun x y H Q => rIxL K x y H Q ∨ rIxT K x y H Q ∨ rIxS x y H Q
theorem ix_seq : IxR X (rIx X.K) := ix_list.or (ix_tup.or ix_str)

theorem mapSeq_set (its : List Value) (n j : Nat) (u : Value) : Obj.mapSeq (·.setIfInBounds j u) { cls := .type "list", data := .seq its.toArray n } = { cls := .type "list", data := .seq (its.set j u).toArray n } := by
  simp [Obj.mapSeq]
theorem Inv.lst {pins : List (Addr × Obj)} {σ : St} {H : Hp} {s : Shared} {p : Addr} {xs : List V} (I : Inv X pins σ H s) (h : H p = some (.lst xs)) :
    ∃ (its : List Value) (n : Nat), Vals xs its ∧ s.heap.get? p = some { cls := .type "list", data := .seq its.toArray n } ∧ xs.length ≤ sizeLine := by
  obtain ⟨z, its, n, r, e⟩ := I.hok p _ h
  exact ⟨its, n, r, e, z⟩
theorem Inv.lstUpd {pins : List (Addr × Obj)} {σ : St} {H : Hp} {s : Shared} {p : Addr} {xs ys : List V} {its its' : List Value} {n n' : Nat} {f : Obj → Obj} (I : Inv X pins σ H s) (h : H p = some (.lst xs))
    (ho : s.heap.get? p = some { cls := .type "list", data := .seq its.toArray n }) (hf : f { cls := .type "list", data := .seq its.toArray n } = { cls := .type "list", data := .seq its'.toArray n' }) (r : Vals ys its') (hz : ys.length ≤ sizeLine) (t : Nat) :
    Inv X pins σ (upd H p (.lst ys)) { s with heap := s.heap.update p f, toks := t } := by
  have e : (s.heap.update p f).get? p = some { cls := .type "list", data := .seq its'.toArray n' } := by
    rw [Heap.get?_update_self f ho (by rw [hf] <;> rfl), hf]
  refine I.write (x := p) (e := p) (by rw [h]; trivial) (.inl rfl) (fun b u hb q => (Heap.get?_update_other _ _ (Ne.symm hb)).trans q) ⟨_, e⟩ ?_
  exact ⟨hz, its', n', r, e⟩
def rSetL : V → V → V → Hp → (Hp → Prop) → Prop := fun o i v H Q => ∃ p xs k j, o = .ref p ∧ i = .int k ∧ H p = some (.lst xs) ∧ ixN xs.length k = some j ∧ Q (upd H p (.lst (xs.set j v)))
theorem set_list : PSet X rSetL := by
  intro pins s σ H o i v ov iv u Q I ro ri rv h
  obtain ⟨p, xs, k, j, rfl, rfl, hp, hj, q⟩ := h
  cases ro
  obtain ⟨t, rfl⟩ := ri
  obtain ⟨its, n, r, ho, hz⟩ := I.lst hp
  obtain ⟨h1, h2, h3, h4⟩ := ixN_seq hj
  have hl := r.length
  have hn := line63
  have I' : Inv X pins σ (upd H p (.lst (xs.set j v))) { s with heap := s.heap.update p (Obj.mapSeq (·.setIfInBounds j u)) } :=
    I.lstUpd hp ho (mapSeq_set its n j u) (r.set rv j) (by rw [List.length_set]; exact hz) s.toks
  by_cases h0 : 0 ≤ k
  · have hk : k.toNat = j := by
      rw [seqIndex_of h0 h4] at h1
      exact Option.some.inj h1
    exact PySem.W.ki_setAt ho h0 (by omega) (by rw [List.size_toArray, ← hl]; exact h4) (by rw [hk]; exact ⟨_, I', q⟩)
  · have hk : (k + (its.toArray.size : Int)).toNat = j := by
      rw [seqIndex_neg (by omega) h3] at h1
      rw [List.size_toArray, ← hl]
      exact Option.some.inj h1
    exact PySem.W.ki_setBack ho (by omega) (by rw [List.size_toArray, ← hl]; exact h3) (by omega) (by rw [hk]; exact ⟨_, I', q⟩)

theorem slice_bounds (lo hi : Option Int) (n : Nat) : (sliceBounds lo hi none n).1 = ((HT.sIx n 0 lo : Nat) : Int) ∧ (sliceBounds lo hi none n).2.1 = ((HT.sIx n n hi : Nat) : Int) ∧ (sliceBounds lo hi none n).2.2 = 1 := by
  refine ⟨?_, ?_, rfl⟩
  · cases lo with
    | none => simp [sliceBounds, HT.sIx]
    | some i =>
      simp only [sliceBounds, HT.sIx, Option.getD_none, show (1 : Int) > 0 by decide, if_true]
      by_cases h : i < 0
      · simp only [h, if_true] <;> omega
      · simp only [h, if_false] <;> omega
  · cases hi with
    | none => simp [sliceBounds, HT.sIx]
    | some i =>
      simp only [sliceBounds, HT.sIx, Option.getD_none, show (1 : Int) > 0 by decide, if_true]
      by_cases h : i < 0
      · simp only [h, if_true] <;> omega
      · simp only [h, if_false] <;> omega
theorem slicePick_cut (its : List Value) (lo hi : Option Int) : slicePick its.toArray lo hi none = ((its.drop (HT.sIx its.length 0 lo)).take (HT.sIx its.length its.length hi - HT.sIx its.length 0 lo)).toArray := by
  obtain ⟨h1, h2, h3⟩ := slice_bounds lo hi its.toArray.size
  unfold slicePick
  rw [h1, h2, h3]
  simp only [sliceRange_one, pick_run, List.size_toArray] <;> rfl
def rSlL (K : PySem.W.Frag) : V → Option Int → Option Int → Hp → VK → Prop := fun x lo hi H Q => ∃ a xs, x = .ref a ∧ SqL K H a xs ∧ ∀ p, H p = none → Q (.ref p) (upd H p (.lst (cutV xs lo hi)))
theorem sl_list : SlR X (rSlL X.K) := by
  intro pins s σ H x v vl vu lo hi sl Q I rx hs pl pu h
  obtain ⟨a, xs, rfl, hx, q⟩ := h
  cases rx
  obtain ⟨its, r, ht, hz⟩ := I.list hx
  have hlen := r.length
  refine ⟨"list", _, slot_list_getitem.lookup, ht.isList.typeIs, ?_⟩
  refine wpAny_getItem_list_slice ht.isList hs pl pu .none (by simp) ?_ (by rw [List.size_toArray] <;> omega)
  rw [slicePick_cut, ← hlen]
  refine ⟨.ref s.heap.objs.size, _, I.laid (t' := s.toks) (o := .lst (cutV xs lo hi)) (fun b ob q => Heap.get?_push_of_some _ q) (Nat.le_refl _) ?_, rfl, q _ (I.hok.fresh (Nat.le_refl _))⟩
  exact ⟨Nat.le_trans (cutV_length xs lo hi) hz, _, 0, (r.drop (HT.sIx xs.length 0 lo)).take (HT.sIx xs.length xs.length hi - HT.sIx xs.length 0 lo), Heap.get?_push_size _ rfl⟩

def flatV : V → Bool
  | .non => true
  | .bl _ => true
  | .int _ => true
  | .str _ => true
  | _ => false
def eqV : V → V → Bool
  | .non, .non => true
  | .bl a, .bl b => a == b
  | .bl a, .int b => (if a then 1 else 0) == b
  | .int a, .bl b => a == (if b then 1 else 0)
  | .int a, .int b => a == b
  | .str a, .str b => a == b
  | _, _ => false
theorem eqAt_V {A : Around} {s : Shared} {y x : V} {u v : Value} (ry : RelV y u) (rx : RelV x v) (fy : flatV y = true) (fx : flatV x = true) : SeqAt.EqAt A s u v (eqV y x) := by
  cases y with
  | non =>
    cases ry
    cases x with
    | non => cases rx; exact SeqAt.EqAt.same _
    | bl b => cases rx; exact SeqAt.EqAt.none_bool b
    | int b => obtain ⟨t, rfl⟩ := rx; exact SeqAt.EqAt.none_int b t
    | str b => obtain ⟨t, rfl⟩ := rx; exact SeqAt.EqAt.none_str b t
    | _ => exact absurd (show false = true from fx) Bool.false_ne_true
  | bl a =>
    cases ry
    cases x with
    | non => cases rx; exact SeqAt.EqAt.bool_none a
    | bl b => cases rx; exact SeqAt.EqAt.bool_bool a b
    | int b => obtain ⟨t, rfl⟩ := rx; exact SeqAt.EqAt.bool_int a b t
    | str b => obtain ⟨t, rfl⟩ := rx; exact SeqAt.EqAt.bool_str a b t
    | _ => exact absurd (show false = true from fx) Bool.false_ne_true
  | int a =>
    obtain ⟨t', rfl⟩ := ry
    cases x with
    | non => cases rx; exact SeqAt.EqAt.int_none a t'
    | bl b => cases rx; exact SeqAt.EqAt.int_bool a t' b
    | int b => obtain ⟨t, rfl⟩ := rx; exact SeqAt.EqAt.int_int a t' b t
    | str b => obtain ⟨t, rfl⟩ := rx; exact SeqAt.EqAt.int_str a t' b t
    | _ => exact absurd (show false = true from fx) Bool.false_ne_true
  | str a =>
    obtain ⟨t', rfl⟩ := ry
    cases x with
    | non => cases rx; exact SeqAt.EqAt.str_none a t'
    | bl b => cases rx; exact SeqAt.EqAt.str_bool a t' b
    | int b => obtain ⟨t, rfl⟩ := rx; exact SeqAt.EqAt.str_int a t' b t
    | str b => obtain ⟨t, rfl⟩ := rx; exact SeqAt.EqAt.str_str a t' b t
    | _ => exact absurd (show false = true from fx) Bool.false_ne_true
  | _ => exact absurd (show false = true from fy) Bool.false_ne_true
def eqU (x : V) (u : Value) : Bool := match u with
  | .none => eqV .non x
  | .bool b => eqV (.bl b) x
  | .int i _ => eqV (.int i) x
  | .str z _ => eqV (.str z) x
  | _ => false
theorem eqU_of {x y : V} {u : Value} (r : RelV y u) (f : flatV y = true) : eqU x u = eqV y x := by
  cases y with
  | non => cases r; rfl
  | bl b => cases r; rfl
  | int i => obtain ⟨t, rfl⟩ := r; rfl
  | str z => obtain ⟨t, rfl⟩ := r; rfl
  | _ => exact absurd (show false = true from f) Bool.false_ne_true
theorem any_eqU {x : V} : ∀ {xs : List V} {us : List Value}, Vals xs us → xs.all flatV = true → us.any (eqU x) = xs.any fun y => eqV y x
  | _, _, .nil, _ => rfl
  | y :: xs, u :: us, .cons r t, f => by
    rw [List.all_cons, Bool.and_eq_true] at f
    rw [List.any_cons, List.any_cons, eqU_of r f.1, any_eqU t f.2]
theorem mem_eqAt {A : Around} {s : Shared} {x : V} {v : Value} (rx : RelV x v) (fx : flatV x = true) : ∀ {xs : List V} {us : List Value}, Vals xs us → xs.all flatV = true → ∀ u ∈ us, SeqAt.EqAt A s u v (eqU x u)
  | _, _, .nil, _ => fun u hu => by cases hu
  | y :: xs, u :: us, .cons r t, f => fun u' hu => by
    rw [List.all_cons, Bool.and_eq_true] at f
    rcases List.mem_cons.mp hu with rfl | hu
    · rw [eqU_of r f.1]; exact eqAt_V r rx f.1 fx
    · exact mem_eqAt rx fx t f.2 u' hu
def inV (x : V) (xs : List V) : Bool := xs.any fun y => eqV y x
def rIn (K : PySem.W.Frag) (neg : Bool) : R2 := fun x y H Q => ∃ p xs, y = .ref p ∧ (SqL K H p xs ∨ SqT K H p xs) ∧ flatV x = true ∧ xs.all flatV = true ∧ Q (.bl (if neg then !inV x xs else inV x xs)) H
theorem op_notIn_seq : OpR X (compareOp .NotIn) (rIn X.K true) := by
  intro pins s σ H x y v u Q I rx ry h
  obtain ⟨p, xs, rfl, hq, fx, fs, q⟩ := h
  cases ry
  rcases hq with hq | hq
  · obtain ⟨its, r, pl, hz⟩ := I.list hq
    refine SeqAt.notIn_listAt (eqU x) pl.isList (fun w hw => mem_eqAt rx fx r fs w (by simpa using hw)) ⟨.bl _, H, I, rfl, ?_⟩
    rw [show its.toArray.any (eqU x) = its.any (eqU x) by simp, any_eqU r fs]
    exact q
  · obtain ⟨its, r, pl, hz⟩ := I.tuple hq
    refine SeqAt.notIn_tupleAt (eqU x) pl (fun w hw => mem_eqAt rx fx r fs w (by simpa using hw)) ⟨.bl _, H, I, rfl, ?_⟩
    rw [show its.toArray.any (eqU x) = its.any (eqU x) by simp, any_eqU r fs]
    exact q
theorem call_len_seq : CallR X (.builtin "len") (fun xs H Q => ∃ p ys, xs = [.ref p] ∧ (SqL X.K H p ys ∨ SqT X.K H p ys) ∧ Q (.int ys.length) H) := by
  intro pins s σ H xs us Q I r h
  obtain ⟨p, ys, rfl, hq, q⟩ := h
  obtain ⟨u, rfl, rx⟩ := vals1 r
  cases rx
  have hn := line63
  rcases hq with hq | hq
  · obtain ⟨its, r', pl, hz⟩ := I.list hq
    have hlen := r'.length
    exact Calls.call_len_list pl.isList (by simp only [List.size_toArray] <;> omega) ⟨.int ys.length, H, I.tok _, ⟨s.toks + 1, by rw [List.size_toArray, hlen]⟩, q⟩
  · obtain ⟨its, r', pl, hz⟩ := I.tuple hq
    have hlen := r'.length
    exact len_tuple pl (by simp only [List.size_toArray] <;> omega) ⟨.int ys.length, H, I.tok _, ⟨s.toks + 1, by rw [List.size_toArray, hlen]⟩, q⟩
theorem CallR.or {f : Value} {r r' : List V → Hp → VK → Prop} (h : CallR X f r) (h' : CallR X f r') : CallR X f (fun xs H Q => r xs H Q ∨ r' xs H Q) := by
  intro pins s σ H xs us Q I rs q
  rcases q with q | q
  · exact h pins s σ H xs us Q I rs q
  · exact h' pins s σ H xs us Q I rs q
theorem call_list_of : CallR X (.type "list") (fun xs H Q => ∃ p ys, xs = [.ref p] ∧ (SqL X.K H p ys ∨ SqT X.K H p ys) ∧ ∀ l, H l = none → Q (.ref l) (upd H l (.lst ys))) := by
  intro pins s σ H xs us Q I r h
  obtain ⟨p, ys, rfl, hq, q⟩ := h
  obtain ⟨u, rfl, rx⟩ := vals1 r
  cases rx
  have fin : ∀ (its : List Value), Vals ys its → ys.length ≤ sizeLine → ∀ (h' : Heap) (c' : Nat), (∀ b o', s.heap.get? b = some o' → h'.get? b = some o') →
      h'.get? s.heap.objs.size = some { cls := .type "list", dict := none, data := .seq its.toArray c', slots := #[] } → EP X pins σ Q (.ref s.heap.objs.size) { s with heap := h' } := fun its r' hz h' c' kp e =>
    ⟨.ref s.heap.objs.size, _, I.laid (t' := s.toks) kp (Nat.le_refl _) (show ObjOk X.prog X.w _ h' _ (.lst ys) from ⟨hz, its, c', r', e⟩), rfl, q _ (I.hok.fresh (Nat.le_refl _))⟩
  rcases hq with hq | hq
  · obtain ⟨its, r', pl, hz⟩ := I.list hq
    have hlen := r'.length
    obtain ⟨o, ho, hc, n, hd⟩ := pl.isList
    exact call_list_seq p (.inl rfl) ho hc hd (fun h' c' kp e => fin its r' hz h' c' kp e) (by simp only [List.size_toArray] <;> omega)
  · obtain ⟨its, r', pl, hz⟩ := I.tuple hq
    have hlen := r'.length
    obtain ⟨o, ho, hc, n, hd⟩ := pl
    exact call_list_seq p (.inr rfl) ho hc hd (fun h' c' kp e => fin its r' hz h' c' kp e) (by simp only [List.size_toArray] <;> omega)
theorem call_tuple_of : CallR X (.type "tuple") (fun xs H Q => ∃ p ys, xs = [.ref p] ∧ ((SqL X.K H p ys ∧ ∀ l, H l = none → Q (.ref l) (upd H l (.tup ys))) ∨ (SqT X.K H p ys ∧ Q (.ref p) H))) := by
  intro pins s σ H xs us Q I r h
  obtain ⟨p, ys, rfl, h⟩ := h
  obtain ⟨u, rfl, rx⟩ := vals1 r
  cases rx
  rcases h with ⟨hq, q⟩ | ⟨hq, q⟩
  · obtain ⟨its, r', pl, hz⟩ := I.list hq
    have hlen := r'.length
    refine call_tuple_list pl.isList (fun h' kp => ?_) (by simp only [List.size_toArray] <;> omega)
    have I1 : Inv X pins σ H { s with heap := h' } := I.kept (t' := s.toks) kp
    have I2 : Inv X pins σ (upd H h'.objs.size (.tup ys)) { s with heap := h'.push { cls := .type "tuple", data := .seq its.toArray } } :=
      I1.laid (t' := s.toks) (fun b o e => Heap.get?_push_of_some _ e) (Nat.le_refl _) (show ObjOk X.prog X.w _ _ _ (.tup ys) from ⟨hz, its, r', IsTup.new _ _, tup_nodict⟩)
    exact ⟨.ref h'.objs.size, _, I2, rfl, q _ (I1.hok.fresh (Nat.le_refl _))⟩
  · obtain ⟨its, r', pl, hz⟩ := I.tuple hq
    exact call_tuple_same pl ⟨.ref p, H, I, rfl, q⟩

def tyV (K : PySem.W.Frag) (T : String) (x : V) (H : Hp) : Prop := match x with
  | .str _ => T = "str"
  | .int _ => T = "int"
  | .ref p => (T = "list" ∧ ∃ xs, SqL K H p xs) ∨ (T = "tuple" ∧ ∃ o, K.lookup p = some o ∧ o.cls = .type "tuple" ∧ o.dict = none) ∨
      (T = "dict" ∧ ((∃ kvs, H p = some (.dK kvs)) ∨ ∃ kvs, H p = some (.dT kvs))) ∨ (T = "set" ∧ ∃ S n, H p = some (.set S n))
  | _ => False
theorem tyV_is {pins : List (Addr × Obj)} {σ : St} {H : Hp} {s : Shared} {T : String} {x : V} {v : Value} (I : Inv X pins σ H s) (r : RelV x v) (ty : tyV X.K T x H) :
    s.TypeIs v T ∧ ∀ a, v = .ref a → ∃ ob, s.heap.get? a = some ob ∧ ob.dict = none := by
  cases x with
  | str z =>
    obtain ⟨t, rfl⟩ := r
    cases (show T = "str" from ty)
    exact ⟨typeIs_str s z t, fun _ e => nomatch e⟩
  | int i =>
    obtain ⟨t, rfl⟩ := r
    cases (show T = "int" from ty)
    exact ⟨typeIs_int s i t, fun _ e => nomatch e⟩
  | ref p =>
    cases r
    rcases ty with ⟨rfl, xs, hq⟩ | ⟨rfl, o, hk, hc, hd⟩ | ⟨rfl, hk⟩ | ⟨rfl, S, n, hk⟩
    · obtain ⟨its, _, pl, _⟩ := I.list hq
      refine ⟨pl.isList.typeIs, fun a e => ?_⟩
      cases e
      obtain ⟨o, n, e, c, hd, _⟩ := pl
      exact ⟨o, e, hd⟩
    · refine ⟨⟨o, I.kIn p o hk, hc⟩, fun a e => ?_⟩
      cases e
      exact ⟨o, I.kIn _ o hk, hd⟩
    · have z : ∃ o, s.heap.get? p = some o ∧ o.ExactDict := by
        rcases hk with ⟨kvs, hk⟩ | ⟨kvs, hk⟩
        · obtain ⟨_, _, _, _, o, _, _, e, ex, _⟩ := I.hok p _ hk
          exact ⟨o, e, ex⟩
        · obtain ⟨_, _, _, _, o, _, _, e, ex, _⟩ := I.hok p _ hk
          exact ⟨o, e, ex⟩
      obtain ⟨o, e, ex⟩ := z
      refine ⟨⟨o, e, ex.1⟩, fun a e2 => ?_⟩
      cases e2
      exact ⟨o, e, ex.2.1⟩
    · obtain ⟨o, _, _, _, e, ex, _⟩ := I.hok p _ hk
      refine ⟨⟨o, e, ex.1⟩, fun a e2 => ?_⟩
      cases e2
      exact ⟨o, e, ex.2.1⟩
  | _ => exact False.elim ty
def tBM0 (K : PySem.W.Frag) (T : String) (r : V → List V → Hp → VK → Prop) (to : TE) : TE := fun σ H Q => to σ H fun x H1 => tyV K T x H1 ∧ r x [] H1 Q
def tBM (K : PySem.W.Frag) (T : String) (r : V → List V → Hp → VK → Prop) (to : TE) (t : TA) : TE := fun σ H Q => to σ H fun x H1 => tyV K T x H1 ∧ t σ H1 fun xs H2 => r x xs H2 Q
variable {o e : Expr} {es : List Expr} {to : TE} {t : TA} {name : Str} {apos cpos : Pos} {T id : String} {r : V → List V → Hp → VK → Prop}
theorem pe_bm0 (pa : PlainAttrs T) (slot : Slot T name id) (hty : typeOf (.builtin id) = pure (.type "method_descriptor")) (hm : MtR X id r) (ho : PE X o to)
    (hbase : attributeBase o name X.env (eval o X.env) = eval o X.env := by rfl) (hline : (apos.endLine == cpos.line) = true := by rfl) : PE X (.Call (.Attribute o name apos) [] [] cpos) (tBM0 X.K T r to) := by
  intro pins s σ H Q I h
  refine wpAny_Call_method0_late hbase hline (thn (ho pins s σ H _ I h) fun v s1 ⟨x, H1, I1, r1, ty, q1⟩ => ?_)
  obtain ⟨h1, h2⟩ := tyV_is I1 r1 ty
  exact ⟨T, id, pa, slot, hty, h1, h2, Calls.callWith_builtin rfl (PySem.evalArgs_none (hm pins s1 σ H1 x [] v [] Q I1 r1 .nil q1))⟩
theorem pe_bm (pa : PlainAttrs T) (slot : Slot T name id) (hty : typeOf (.builtin id) = pure (.type "method_descriptor")) (hm : MtR X id r) (ho : PE X o to) (ha : PA X (e :: es) t)
    (hbase : attributeBase o name X.env (eval o X.env) = eval o X.env := by rfl)
    (hfew : ((backTo cpos (starEach (e :: es) X.env)).all (fun x => !x.1) && (backToKw cpos (keywordEach [] X.env)).all (fun x => x.1.isSome)
      && decide ((e :: es).length + ([] : List Keyword).length + (if ([] : List Keyword).isEmpty then 0 else 1) < 30)) = true := by rfl)
    (hline : (apos.endLine == cpos.line) = true := by rfl) (hs : starEach (e :: es) X.env = (false, eval e X.env) :: starEach es X.env := by rfl) (hplain : (backTo cpos (starEach es X.env)).any (·.1) = false := by rfl) :
    PE X (.Call (.Attribute o name apos) (e :: es) [] cpos) (tBM X.K T r to t) := by
  intro pins s σ H Q I h
  refine wpAny_Call_method_late hbase hfew hline rfl (thn (ho pins s σ H _ I h) fun v s1 ⟨x, H1, I1, r1, ty, q1⟩ => ?_)
  obtain ⟨h1, h2⟩ := tyV_is I1 r1 ty
  refine ⟨T, id, pa, slot, hty, h1, h2, ?_⟩
  have hA := ha cpos pins s1 σ H1 _ I1 q1
  rw [hs] at hA ⊢
  refine Calls.callWith_builtin (by show (false || (backTo cpos (starEach es X.env)).any (·.1)) = false; rw [hplain] <;> rfl) (Calls.evalArgs_plain ?_)
  exact thn hA fun us s2 ⟨vs, H2, I2, r2, q2⟩ => hm pins s2 σ H2 x vs v us Q I2 r1 r2 q2
end
end L2

namespace L2
open PySem PySem.Spec PyProof.Rows

def MtM (X : Cx) (id : String) (r : V → List V → Hp → VK → Prop) : Prop :=
  ∀ (pins : List (Addr × Obj)) (s : Shared) (σ : St) (H : Hp) (x : V) (xs : List V) (v : Value) (us : List Value) (Q : VK), Inv X pins σ H s → RelV x v → Vals xs us → r x xs H Q →
    wpAny (model X.prog X.w) X.A (call (.builtin id) (v :: us)) (EP X pins σ Q) X.xe s

theorem Vals.one : ∀ {x : V} {us : List Value}, Vals [x] us → ∃ u, us = [u] ∧ RelV x u
  | _, _, .cons r .nil => ⟨_, rfl, r⟩
theorem Vals.two : ∀ {x y : V} {us : List Value}, Vals [x, y] us → ∃ u v, us = [u, v] ∧ RelV x u ∧ RelV y v
  | _, _, _, .cons r (.cons q .nil) => ⟨_, _, rfl, r, q⟩
theorem Vals.zero : ∀ {us : List Value}, Vals [] us → us = []
  | _, .nil => rfl
theorem Vals.eraseIdx : ∀ {xs : List V} {us : List Value} (i : Nat), Vals xs us → Vals (xs.eraseIdx i) (us.eraseIdx i)
  | _, _, _, .nil => .nil
  | _, _, 0, .cons _ t => t
  | _, _, i + 1, .cons r t => .cons r (Vals.eraseIdx i t)
theorem Vals.reverse {xs : List V} {us : List Value} (h : Vals xs us) : Vals xs.reverse us.reverse := by
  induction h with
  | nil => exact .nil
  | cons r t ih => rw [List.reverse_cons, List.reverse_cons]; exact Vals.append ih (.cons r .nil)
section
variable {X : Cx} {pins : List (Addr × Obj)} {σ : St} {H : Hp} {s : Shared} {l b : Addr} {xs ys zs : List V}

theorem Inv.lset {its its' : List Value} {n : Nat} {f : Array Value → Array Value} {t' : Nat} (I : Inv X pins σ H s) (hH : H l = some (.lst xs))
    (e : s.heap.get? l = some { cls := .type "list", data := .seq its.toArray n }) (hf : f its.toArray = its'.toArray) (hv : Vals ys its') (hz : ys.length ≤ sizeLine) :
    Inv X pins σ (upd H l (.lst ys)) { s with heap := s.heap.update l (Obj.mapSeq f), toks := t' } := by
  have q := PySem.IsL.update e f
  rw [hf] at q
  refine I.write (x := l) (e := l) (by rw [hH]; exact trivial) (.inl rfl) (fun b' u hb hu => (Heap.get?_update_other s.heap (Obj.mapSeq f) (Ne.symm hb)).trans hu) ⟨_, q⟩ ?_
  exact ⟨hz, its', _, hv, q⟩
theorem Inv.lnew {its : List Value} {t' : Nat} (I : Inv X pins σ H s) (hv : Vals ys its) (hz : ys.length ≤ sizeLine) :
    Inv X pins σ (upd H s.heap.objs.size (.lst ys)) { s with heap := s.heap.push { cls := .type "list", data := .seq its.toArray }, toks := t' } :=
  I.laid (fun _ _ q => Heap.get?_push_of_some _ q) (Nat.le_refl _) ⟨hz, its, 0, hv, Heap.get?_push_size _ rfl⟩
theorem Inv.fresh (I : Inv X pins σ H s) : H s.heap.objs.size = none := I.hok.fresh (Nat.le_refl _)
theorem Inv.lstM (I : Inv X pins σ H s) (hH : H l = some (.lst xs)) : xs.length ≤ sizeLine ∧ ∃ (its : List Value) (n : Nat), Vals xs its ∧ xs.length = its.length ∧ s.heap.get? l = some { cls := .type "list", data := .seq its.toArray n } := by
  obtain ⟨z, its, n, r, e⟩ := I.hok l _ hH
  exact ⟨z, its, n, r, r.length, e⟩

theorem notLongL {n : Nat} (h : n ≤ sizeLine) : Builtin.List.listTooLong n = false := by
  unfold Builtin.List.listTooLong
  exact decide_eq_false (by omega)
end

section
variable {X : Cx}

def rAppend : V → List V → Hp → VK → Prop := fun x vs H Q => ∃ l xs y, x = .ref l ∧ vs = [y] ∧ H l = some (.lst xs) ∧ xs.length < sizeLine ∧ Q .non (upd H l (.lst (xs ++ [y])))
theorem mt_append : MtM X "list.append" rAppend := by
  intro pins s σ H x vs v us Q I rx rv h
  obtain ⟨l, xs, y, rfl, rfl, hH, hz, q⟩ := h
  cases rx
  obtain ⟨u, rfl, ru⟩ := rv.one
  obtain ⟨z, its, n, r, hl, e⟩ := I.lstM hH
  refine call_meets F.slot_list_append ⟨_, e, rfl⟩ F.entry_list_append (F.args_list_append_2 _ _) (PySem.list_append l its.toArray n u (by rw [List.size_toArray]; omega)) ⟨e, ?_⟩
  refine ⟨.non, _, I.lset (its' := its ++ [u]) hH e (by simp) (r.append (.cons ru .nil)) ?_, rfl, q⟩
  rw [List.length_append, List.length_singleton]
  omega

def rExtend : V → List V → Hp → VK → Prop := fun x vs H Q => ∃ l b xs zs, x = .ref l ∧ vs = [.ref b] ∧ H l = some (.lst xs) ∧ H b = some (.lst zs) ∧ xs.length + zs.length ≤ sizeLine ∧ Q .non (upd H l (.lst (xs ++ zs)))
theorem mt_extend : MtM X "list.extend" rExtend := by
  intro pins s σ H x vs v us Q I rx rv h
  obtain ⟨l, b, xs, zs, rfl, rfl, hH, hB, hz, q⟩ := h
  cases rx
  obtain ⟨u, rfl, ru⟩ := rv.one
  cases ru
  obtain ⟨z, its, n, r, hl, e⟩ := I.lstM hH
  obtain ⟨z2, its2, n2, r2, hl2, e2⟩ := I.lstM hB
  have hsz : its.toArray.size + its2.toArray.size ≤ sizeLine := by rw [List.size_toArray, List.size_toArray]; omega
  have hlong : ¬ (!its.toArray.isEmpty && Builtin.List.listTooLong (its.toArray.size + its2.toArray.size)) = true := by
    rw [notLongL hsz, Bool.and_false]
    exact Bool.false_ne_true
  refine call_meets F.slot_list_extend ⟨_, e, rfl⟩ F.entry_list_extend (F.args_list_extend_2 _ _)
    (AutoSeq1.list_extend_list_list_0 l its.toArray n b its2.toArray n2 hlong (by rw [List.size_toArray]; omega) (by omega)) ⟨e, e2, ?_⟩
  refine ⟨.non, _, I.lset (its' := its ++ its2) hH e (by simp) (r.append r2) ?_, rfl, q⟩
  rw [List.length_append]
  omega

def rClear : V → List V → Hp → VK → Prop := fun x vs H Q => ∃ l xs, x = .ref l ∧ vs = [] ∧ H l = some (.lst xs) ∧ Q .non (upd H l (.lst []))
theorem mt_clear : MtM X "list.clear" rClear := by
  intro pins s σ H x vs v us Q I rx rv h
  obtain ⟨l, xs, rfl, rfl, hH, q⟩ := h
  cases rx
  have hus := rv.zero
  subst hus
  obtain ⟨z, its, n, r, hl, e⟩ := I.lstM hH
  refine call_meets F.slot_list_clear ⟨_, e, rfl⟩ F.entry_list_clear (F.args_list_clear_1 _) (AutoSeq1.list_clear_list_0 l its.toArray n (by rw [List.size_toArray]; omega)) ⟨e, ?_⟩
  exact ⟨.non, _, I.lset (its' := []) (ys := []) hH e rfl .nil (Nat.zero_le _), rfl, q⟩

def rCat : R2 := fun x y H Q => ∃ l b xs zs, x = .ref l ∧ y = .ref b ∧ H l = some (.lst xs) ∧ H b = some (.lst zs) ∧ xs.length + zs.length ≤ sizeLine ∧ ∀ p, H p = none → Q (.ref p) (upd H p (.lst (xs ++ zs)))
theorem op_cat : OpR X (binaryOp .Add) rCat := by
  intro pins s σ H x y v u Q I rx ry h
  obtain ⟨l, b, xs, zs, rfl, rfl, hH, hB, hz, q⟩ := h
  cases rx
  cases ry
  obtain ⟨z, its, n, r, hl, e⟩ := I.lstM hH
  obtain ⟨z2, its2, n2, r2, hl2, e2⟩ := I.lstM hB
  refine PySem.P.add_list e e2 ?_ (by rw [List.size_toArray, List.size_toArray]; omega)
  have ea : its.toArray ++ its2.toArray = (its ++ its2).toArray := by simp
  rw [ea]
  exact ⟨.ref _, _, I.lnew (t' := s.toks) (r.append r2) (by rw [List.length_append]; omega), rfl, q _ I.fresh⟩
end

section
variable {prog : Program} {w : World} {A : Around} {E : Value → Shared → Prop} {s : Shared}
end

section
variable {X : Cx}
end
end L2
namespace Att
open PySem PySem.W PySem.Calls PyProof.Rows

theorem ints_of_wellAll {P : Params} {h : Heap} : ∀ (ns : List Int) (vs : List Value), WellAll P h vs (ns.map WData.int) → IntsAre vs ns := by
  intro ns
  induction ns with
  | nil =>
    intro vs w
    rw [List.map_nil] at w
    cases w
    exact .nil
  | cons n ns ih =>
    intro vs w
    rw [List.map_cons] at w
    cases w with
    | cons a b =>
      cases a
      exact .cons _ _ (ih _ b)

theorem script_of {l : OpenLaw} {n : Nat} (hn : l.most = some n) {P : Params} {h : Heap} {args : List WData} {vals : List Value}
    (hpre : l.row.toRowW.claim.pre args = true) (hwl : WellAll P h vals args) :
    ∃ a vs ns, vals = [Value.ref a] ∧ args = [WData.list (ns.map WData.int)] ∧ h.get? a = some { cls := .type "list", data := .seq vs.toArray } ∧ IntsAre vs ns ∧ ns.length ≤ n := by
  have hsh : WShape.hasAll [] args [.list .int] = true := (pre_splitW hpre).1
  have hc : l.pre.holds [] { args := args } = true := (pre_splitW hpre).2
  obtain ⟨d, r, rfl, h1, h2⟩ := hasAllW_cons hsh
  obtain rfl := hasAllW_nil h2
  obtain ⟨xs, rfl, h3⟩ := hasW_list h1
  obtain ⟨ns, rfl⟩ := items_int h3
  have hlen : ns.length ≤ n := by
    unfold OpenLaw.pre at hc
    have h4 : (WTm.not (.lt (.lit (.int (n : Int))) (.len (.arg 0)))).holds [] { args := [.list (ns.map .int)] } = true := by
      have h4 := (holds_andW hc).1
      rw [hn] at h4
      exact h4
    have h5 := condW_of h4 (w_not (w_lt w_lit (w_len_list (w_arg rfl))))
    rw [List.length_map] at h5
    refine Nat.le_of_not_lt fun q => ?_
    have q' : (n : Int) < ((ns.length : Nat) : Int) := by omega
    first
      | (rw [decide_eq_true q'] at h5; exact absurd h5 (by decide))
      | (simp at h5; omega)
  cases hwl with
  | cons w1 w2 =>
    cases w2
    cases w1 with
    | list ho hall => exact ⟨_, _, ns, rfl, rfl, ho, ints_of_wellAll ns _ hall, hlen⟩

theorem post_true (l : OpenLaw) (args : List WData) : l.row.toRowW.claim.post args (.bool true) args = true :=
  postW_of (r := l.row.toRowW) (X := (true == true))
    (show WShape.has [] (.bool true) .bool = true by first | rfl | decide | simp [WShape.has, WShape.arms, WShape.armsAll])
    (show (WTm.eq .res (.lit (.bool true))).value [] { args := args, res := some (.bool true), after := args } = some (.bool (true == true)) from w_eq_bool (w_res rfl) w_lit) rfl

theorem attach_call {l : OpenLaw} {n : Nat} {q : Program} {loose : List Str} {XP : (Str → Option Value) → Heap → Prop} {YP : World → Heap → Prop} {d : DefRec}
    (hn : l.most = some n) (hdf : d.params.defaults = [])
    (call : ∀ (w : World) (s₀ s₁ : Shared) (mg mb : Str → Option Value) (fa : Addr) (o : Obj) (pm cd doc : Value) (a : Addr) (vs : List Value) (ns : List Int),
      Ground q loose [] XP w s₀ mg mb s₁.heap → YP w s₁.heap →
      s₁.heap.get? fa = some o → o.data = .func (docDef d.name d.params d.body d.scope pm cd doc) → s₁.heap.CodeRec cd d.name → mg d.name = some (.ref fa) →
      s₁.heap.get? a = some { cls := .type "list", data := .seq vs.toArray } → IntsAre vs ns → ns.length ≤ n → s₁.gens = #[] →
      codeAny (model l.prog w) callerA (.call (.ref fa) ⟨[.ref a], []⟩) (fun r s' => r = .ok (.ret (.bool true)) ∧ OldK s₁.heap s'.heap ∧ s'.os = s₁.os ∧ AllBare s'.gens) s₁) :
    WalkO q loose XP YP l.row.toRowW d [] (fun f vs => PySem.call f vs) := by
  intro w s₀ s₁ mg mb G Y fa o pm cd doc dV kV ho hd hcd hD hmg hg args vals as hpre hlay hrd hwl hlo
  obtain rfl : dV = .none := Dflts.none hD hdf
  obtain rfl : kV = .none := Dflts.noKw hD
  obtain ⟨a, vs, ns, rfl, rfl, hobj, hints, hlen⟩ := script_of hn hpre hwl
  refine enter_call (codeAny_mono (call w s₀ s₁ mg mb fa o pm cd doc a vs ns G Y ho (fd_plain hd) hcd hmg hobj hints hlen hg) fun r s' hq => ?_)
  obtain ⟨rfl, h2, h3, h4⟩ := hq
  exact ⟨.inl ⟨.bool true, .bool true, [], rfl, fun _ => rfl, .bool true, post_true l _, fun _ => ⟨List.Pairwise.nil, fun _ hm => (nomatch hm)⟩⟩, h2, h3, h4⟩

section
variable {prog : Program} {w : World} {A : Around} {E : Value → Shared → Prop} {s : Shared} {K : Frag}

end
end Att

namespace L2
open PySem PySem.Spec PyProof.Rows

theorem vals_ints : ∀ {vs : List Value} {ns : List Int}, IntsAre vs ns → Vals (ns.map V.int) vs
  | _, _, .nil => .nil
  | _, _, .cons n t h => .cons ⟨t, rfl⟩ (vals_ints h)

def Only (H : Hp) : Prop := ∀ b, H b = none ∨ ∃ o xs, H b = some (.frz o (.lst xs))

theorem law_call {P : Program} {w : World} {K : PySem.W.Frag} {mg mb : Str → Option Value} {CX : CXT} {k : Nat} {fa a : Addr} {fd : FuncData} {x : Str} {sp : Sp} {s₁ : Shared} {vs : List Value} {ns : List Int}
    (KX : K.In s₁.heap) (hns : s₁.heap.Ns mainGlobals mg) (hb : s₁.heap.Ns builtinsNs mb) (hbb : ∀ x : Str, x ≠ "__name__" → mb x = bootBuiltins x) (hlim : s₁.heap.NoLimit) (hg : s₁.gens = #[])
    (ha : s₁.heap.get? a = some { cls := .type "list", data := .seq vs.toArray }) (hi : IntsAre vs ns) (hl : ns.length ≤ sizeLine) (hr : Room k callerA)
    (F : ∀ base : Heap, K.In base → base.Ns mainGlobals mg → FnOk P w K mg base CX k fa fd [x] sp) (hbind : ∀ (s : Shared) (u : Value), BindsTo s fd ⟨[u], []⟩ [(x, u)])
    (hsp : ∀ H : Hp, Only H → SqL K H a (ns.map V.int) → sp [.ref a] H (fun v _ => v = .bl true) fun _ _ _ => False)
    (hCX : ∀ H e s', CX [] H s₁ (fun _ _ _ => False) e s' → False) :
    codeAny (model P w) callerA (.call (.ref fa) ⟨[.ref a], []⟩) (fun r s' => r = .ok (.ret (.bool true)) ∧ OldK s₁.heap s'.heap ∧ s'.os = s₁.os ∧ AllBare s'.gens) s₁ := by
  have rv := vals_ints hi
  have lenV := hi.length
  -- from an abstract heap in which nothing but the script may be tracked
  have core : ∀ H : Hp, Only H → SqL K H a (ns.map V.int) → HOk P w H s₁.heap → (∀ b, H b ≠ none → b = a) → (H a ≠ none → K.lookup a = none) →
      codeAny (model P w) callerA (.call (.ref fa) ⟨[.ref a], []⟩) (fun r s' => r = .ok (.ret (.bool true)) ∧ OldK s₁.heap s'.heap ∧ s'.os = s₁.os ∧ AllBare s'.gens) s₁ := by
    intro H hO hS hok hA hK
    have base_of : ∀ {b : Addr} {o : Obj}, s₁.heap.get? b = some o → H b = none → (hidT s₁.heap H).get? b = some o := fun e n => hidT_get e n
    have noA : ∀ {b : Addr} {o : Obj} {es : Array DictEntry} {ep : Nat}, s₁.heap.get? b = some o → o.data = .dict es ep → H b = none := fun {b o es ep} e d => by
      cases q : H b with
      | none => rfl
      | some u =>
        have e' : b = a := hA b (by rw [q]; simp)
        subst e'
        rw [ha] at e; cases e
        have d' : Data.seq vs.toArray _ = Data.dict es ep := d
        cases d'
    have nsK : ∀ {b : Addr} {m : Str → Option Value}, s₁.heap.Ns b m → (hidT s₁.heap H).Ns b m := fun {b m} ⟨o, es, ep, e, d, r⟩ => ⟨o, es, ep, base_of e (noA e d), d, r⟩
    have hKb : K.In (hidT s₁.heap H) := fun b o e => base_of (KX b o e) (by
      cases q : H b with
      | none => rfl
      | some u =>
        have e' : b = a := hA b (by rw [q]; simp)
        subst e'
        rw [hK (by rw [q]; simp)] at e; cases e)
    have hM : Mod K mg (hidT s₁.heap H) := ⟨hKb, nsK hns, ⟨mb, nsK hb, hbb⟩, let ⟨mc, h1, h2⟩ := hlim; ⟨mc, nsK h1, h2⟩⟩
    have e0 : Env0 P w K mg (hidT s₁.heap H) callerA [] s₁ H := ⟨rfl, hM, fun b o e => of_hidT e, Nat.le_of_eq (hidT_size _ _), trivial, fun b hb => absurd (show b ∈ ([] : List Addr) from hb) (by simp), hok, .of_eq hg⟩
    refine codeAny_mono ((F _ hKb (nsK hns)).run callerA [] s₁ H ⟨[.ref a], []⟩ [.ref a] [.ref a] _ _ hr e0 (hbind s₁ (.ref a)) (.cons rfl .nil) (hsp H hO hS)) fun r s' h => ?_
    cases r with
    | error e => exact (hCX H e s' h).elim
    | ok fl =>
      cases fl with
      | next => exact False.elim h
      | brk => exact False.elim h
      | cont => exact False.elim h
      | ret u =>
        obtain ⟨v, H', os, bare, un, hok', r', q⟩ := h
        have q' : v = .bl true := q
        subst q'
        obtain rfl : u = Value.bool true := r'
        refine ⟨rfl, OldK.of_keep fun b o e => ?_, os, bare⟩
        cases q : H b with
        | none => exact un.keep b o e q (by intro z; exact absurd (show b ∈ ([] : List Addr) from z) (by simp)) (by simp)
        | some u =>
          rcases hO b with z | ⟨ob, xs, z⟩
          · rw [q] at z; cases z
          · have z2 := un.frzs b ob _ z
            obtain ⟨e1, _⟩ := hok b _ z
            obtain ⟨e2, _⟩ := hok' b _ z2
            rw [e] at e1; cases e1
            exact e2
  cases hk : K.lookup a with
  | some o =>
    -- the script is one of the module's own objects
    have e := KX a o hk
    rw [ha] at e
    cases e
    refine core (fun _ => none) (fun _ => .inl rfl) (.inr ⟨_, vs.toArray, _, hk, rfl, rfl, rfl, by rw [List.size_toArray, lenV]; exact hl, by simpa using rv⟩) (fun b u z => by have z' : (none : Option HO) = some u := z; cases z') (fun b z => absurd rfl z) fun z => absurd rfl z
  | none =>
    refine core (fun b => if b = a then some (.frz { cls := .type "list", data := .seq vs.toArray } (.lst (ns.map V.int))) else none) (fun b => ?_) (.inl (.inr ⟨{ cls := .type "list", data := .seq vs.toArray }, if_pos rfl⟩)) (fun b u z => ?_) (fun b z => ?_) fun _ => hk
    · by_cases hb : b = a
      · exact .inr ⟨_, _, if_pos hb⟩
      · exact .inl (if_neg hb)
    · by_cases hb : b = a
      · have z' := (if_pos hb).symm.trans z
        cases z'
        subst hb
        exact ⟨ha, by rw [List.length_map]; exact hl, vs, _, rv, ha⟩
      · have z' := (if_neg hb).symm.trans z
        cases z'
    · by_cases hb : b = a
      · exact hb
      · exact absurd (if_neg hb) z
end L2

namespace L2
open PySem PySem.Spec PyProof.Rows

abbrev KOf {K : PySem.W.Frag} {h : Heap} (_ : K.In h) : PySem.W.Frag := K

theorem walk_of {l : PySem.W.OpenLaw} {n k : Nat} {q : Program} {loose : List Str} {XP : (Str → Option Value) → Heap → Prop} {YP : World → Heap → Prop} {d : DefRec} {K : Params → PySem.W.Frag} {CX : World → CXT} {sp : World → Sp} {x : Str}
    (hn : l.most = some n) (hn2 : n ≤ sizeLine) (hdf : d.params.defaults = []) (hr : Room k callerA)
    (hY : ∀ (w : World) (h : Heap), YP w h → (K w.params).In h)
    (F : ∀ (w : World) (mg : Str → Option Value) (fa : Addr) (h : Heap), (K w.params).In h → h.Ns mainGlobals mg → mg d.name = some (.ref fa) →
      ∃ fd : FuncData, (∀ (s : Shared) (u : Value), BindsTo s fd ⟨[u], []⟩ [(x, u)]) ∧
        ∀ base : Heap, (K w.params).In base → base.Ns mainGlobals mg → FnOk l.prog w (K w.params) mg base (CX w) k fa fd [x] (sp w))
    (hsp : ∀ (w : World) (H : Hp) (a : Addr) (ns : List Int), ns.length ≤ n → Only H → SqL (K w.params) H a (ns.map V.int) → sp w [.ref a] H (fun v _ => v = .bl true) fun _ _ _ => False)
    (hCX : ∀ (w : World) (H : Hp) (s : Shared) (e : Value) (s' : Shared), CX w [] H s (fun _ _ _ => False) e s' → False) :
    PySem.W.WalkO q loose XP YP l.row.toRowW d [] (fun f vs => PySem.call f vs) := by
  refine Att.attach_call hn hdf fun w s₀ s₁ mg mb fa o pm cd doc a vs ns G Y ho hd hcd hmg hobj hints hlen hg => ?_
  have KX := hY w _ Y
  obtain ⟨fd, hb, hF⟩ := F w mg fa _ KX G.T.g hmg
  exact law_call KX G.T.g G.T.b G.T.builtins G.T.nolimit hg hobj hints (Nat.le_trans hlen hn2) hr hF hb (fun H hO hS => hsp w H a ns hlen hO hS) fun H e s' => hCX w H s₁ e s'
theorem walk_ofK {l : PySem.W.OpenLaw} {n k : Nat} {q : Program} {loose : List Str} {XP : (Str → Option Value) → Heap → Prop} {YP : World → Heap → Prop} {d : DefRec} {K : Params → PySem.W.Frag} {CX : CXT} {sp : PySem.W.Frag → Sp} {x : Str}
    (hn : l.most = some n) (hn2 : n ≤ sizeLine) (hdf : d.params.defaults = []) (hr : Room k callerA)
    (hY : ∀ (w : World) (h : Heap), YP w h → (K w.params).In h)
    (F : ∀ (w : World) (mg : Str → Option Value) (fa : Addr) (h : Heap), (K w.params).In h → h.Ns mainGlobals mg → mg d.name = some (.ref fa) →
      ∃ fd : FuncData, (∀ (s : Shared) (u : Value), BindsTo s fd ⟨[u], []⟩ [(x, u)]) ∧
        ∀ base : Heap, (K w.params).In base → base.Ns mainGlobals mg → FnOk l.prog w (K w.params) mg base CX k fa fd [x] (sp (K w.params)))
    (hsp : ∀ (K : PySem.W.Frag) (H : Hp) (a : Addr) (ns : List Int), ns.length ≤ n → Only H → SqL K H a (ns.map V.int) → sp K [.ref a] H (fun v _ => v = .bl true) fun _ _ _ => False)
    (hCX : ∀ (H : Hp) (s : Shared) (e : Value) (s' : Shared), CX [] H s (fun _ _ _ => False) e s' → False) :
    PySem.W.WalkO q loose XP YP l.row.toRowW d [] (fun f vs => PySem.call f vs) :=
  walk_of (K := K) (CX := fun _ => CX) (sp := fun w => sp (K w.params)) hn hn2 hdf hr hY F (fun w H a ns h1 h2 h3 => hsp (K w.params) H a ns h1 h2 h3) fun _ H s e s' => hCX H s e s'
end L2


namespace L2
open PySem PySem.Spec PyProof.Rows

def inClass (s : Stmt) (j : Nat) : Stmt := match s with
  | .ClassDef _ _ _ body _ _ _ _ _ _ _ => body.getD j (.Pass ⟨0, 0, 0, 0⟩)
  | _ => .Pass ⟨0, 0, 0, 0⟩
def defArgs (s : Stmt) : Arguments := match s with
  | .FunctionDef _ a _ _ _ _ _ _ _ _ => a
  | _ => { posonlyargs := [], args := [], vararg := none, kwonlyargs := [], kw_defaults := [], kwarg := none, defaults := [] }
def defBody (s : Stmt) : List Stmt := match s with
  | .FunctionDef _ _ b _ _ _ _ _ _ _ => b
  | _ => []
def defScope (s : Stmt) : Scope := match s with
  | .FunctionDef _ _ _ _ _ _ sc _ _ _ => sc
  | _ => { kind := .function, names := [], isGenerator := false, isCoroutine := false }

abbrev CX0 : CXT := fun _ _ _ _ _ _ => False
abbrev E0 : XK := fun _ _ _ => False
theorem pass0 {X : Cx} : Passes CX0 X E0 := fun _ _ _ _ _ _ _ h => h.elim

structure Fun (K : PySem.W.Frag) (x qual : Str) (st : Stmt) (f : Addr) (fd : FuncData) : Prop where
  ex : ∃ (oc : Value) (od : Option Addr) (kV doc pm : Value) (an : Option Addr) (cdv ct : Value) (osl : Array (Option Value)),
    fd = PySem.W.fnOf x qual (defArgs st) (defBody st) (defScope st) .none kV doc pm an cdv ct ∧ K.lookup f = some ⟨oc, od, .func fd, osl⟩ ∧ PySem.W.codeIn K cdv qual = true
  kp : PySem.W.keepIn K (.ref f) = true
section
variable {P : Program} {w : World} {K : PySem.W.Frag} {mg : Str → Option Value} {base : Heap}
theorem Fun.ok {x qual : Str} {st : Stmt} {f : Addr} {fd : FuncData} {N ps : List Str} {k : Nat} {sp : Sp} (F : Fun K x qual st f fd) (S : FnScope N ps (defScope st)) (len : ∀ vs H Q E, sp vs H Q E → vs.length = ps.length)
    (hbody : ∀ (cdv : Value) (A : Around) (outer : List Env) (s : Shared) (H : Hp) (vs : List V) (Q : VK) (E : XK), Room k (A.deeper (envOfC qual (defScope st) s.heap.objs.size f cdv)) → sp vs H Q E →
      ∃ t, PSs (cxOf CX0 P w K mg base N qual (defScope st) f cdv A outer s H E).nox (defBody st) t ∧ t { nx := fun _ H' => Q .non H', rt := Q } (start N vs) H) : FnOk P w K mg base CX0 (k + 1) f fd ps sp := by
  obtain ⟨oc, od, kV, doc, pm, an, cdv, ct, osl, rfl, lk, hcd⟩ := F.ex
  refine fn_of lk hcd S len fun A outer s H vs Q E hr hsp => ?_
  obtain ⟨t, h, q⟩ := hbody cdv A outer s H vs Q E hr hsp
  exact ⟨t, h.nox, q⟩
theorem Fun.binds {x qual : Str} {st : Stmt} {f : Addr} {fd : FuncData} {ps : List Str} (F : Fun K x qual st f fd)
    (h : ∀ (kV doc pm : Value) (an : Option Addr) (cdv ct : Value) (us : List Value), us.length = ps.length → bindArgs (PySem.W.fnOf x qual (defArgs st) (defBody st) (defScope st) .none kV doc pm an cdv ct) ⟨us, []⟩ = pure (ps.zip us)) : Binds K fd ps [] := by
  obtain ⟨oc, od, kV, doc, pm, an, cdv, ct, osl, rfl, lk, hcd⟩ := F.ex
  exact .all (h kV doc pm an cdv ct)
theorem fun_mk {x qual : Str} {st : Stmt} {f : Addr} {oc : Value} {od an : Option Addr} {osl : Array (Option Value)} {kV doc pm cdv ct : Value} (l : K.lookup f = some ⟨oc, od, .func (PySem.W.fnOf x qual (defArgs st) (defBody st) (defScope st) .none kV doc pm an cdv ct), osl⟩)
    (c : PySem.W.codeIn K cdv qual = true) (k : PySem.W.keepIn K (.ref f) = true) : Fun K x qual st f (PySem.W.fnOf x qual (defArgs st) (defBody st) (defScope st) .none kV doc pm an cdv ct) := ⟨⟨oc, od, kV, doc, pm, an, cdv, ct, osl, rfl, l, c⟩, k⟩
end
theorem hu_of {A : Around} {k : Nat} (hr : Room k A) : A.units + 1 < cLine := Nat.lt_of_le_of_lt (Nat.add_le_add_left (by decide : 1 ≤ 64) _) hr.units
section
variable {X : Cx}
theorem pv (i : Nat) {x : Str} {pos : Pos} (hN : X.N[i]? = some x := by rfl) (hv : Vis X.env.scope x := by first | exact Or.inl rfl | exact Or.inr (Or.inl rfl) | exact Or.inr (Or.inr rfl)) (hd : (x == ("__debug__" : Str)) = false := by decide)
    (hcd : (x == ("__classdict__" : Str)) = false := by decide) : PE X (.Name x pos) (tVar i) := pe_var hN hv hd hcd
end

theorem iteF {A B : Prop} (h : B) : if false = true then A else B := by
  rw [if_neg Bool.false_ne_true]
  exact h
theorem iteT {A B : Prop} (h : A) : if true = true then A else B := by
  rw [if_pos rfl]
  exact h
theorem ite2 {c A B : Prop} [Decidable c] (h1 : c → A) (h2 : ¬ c → B) : if c then A else B := by
  by_cases h : c
  · rw [if_pos h]
    exact h1 h
  · rw [if_neg h]
    exact h2 h
def Same (H H' : Hp) : Prop := ∀ b o, H b = some o → H' b = some o
theorem Same.refl (H : Hp) : Same H H := fun _ _ h => h
theorem Same.trans {H H1 H2 : Hp} (a : Same H H1) (b : Same H1 H2) : Same H H2 := fun c o h => b c o (a c o h)
theorem Same.free {H H' : Hp} (e : Same H H') {l : Addr} (h : H' l = Option.none) : H l = Option.none := by
  cases q : H l with
  | none => rfl
  | some o =>
    rw [e l o q] at h
    cases h
theorem Same.seq {K : PySem.W.Frag} {H H' : Hp} {a : Addr} {xs : List V} (e : Same H H') (h : SqL K H a xs) : SqL K H' a xs := by
  rcases h with (h | ⟨o, h⟩) | h
  · exact .inl (.inl (e _ _ h))
  · exact .inl (.inr ⟨o, e _ _ h⟩)
  · exact .inr h

section
variable {κ : Type} [DecidableEq κ]
end
end L2

set_option Elab.async false
set_option linter.all false
set_option maxRecDepth 100000
namespace L2
open PySem PySem.Spec PyProof.Rows

def clGo (env : Env) : List (Str × NameKind) → List (Str × Addr) → List (Str × Addr)
  | [], cs => cs
  | (n, k) :: r, cs => clGo env r (if (k == NameKind.free) = true then (n, (env.cells.lookup n).getD 0) :: cs else cs)
theorem clGo_pure {env : Env} : ∀ (ns : List (Str × NameKind)) (cs : List (Str × Addr)), (∀ y ∈ ns, y.2 = .free → ∃ c, env.cells.lookup y.1 = some c) →
    (forIn (m := Sem) ns cs fun y cs => if (y.2 == NameKind.free) = true then (do let a ← cellOf env y.1; pure (ForInStep.yield ((y.1, a) :: cs))) else pure (ForInStep.yield cs)) = pure (clGo env ns cs)
  | [], cs, _ => rfl
  | (n, k) :: r, cs, h => by
    rw [List.forIn_cons]
    have hr : ∀ y ∈ r, y.2 = .free → ∃ c, env.cells.lookup y.1 = some c := fun y hy => h y (List.mem_cons_of_mem _ hy)
    by_cases hk : (k == NameKind.free) = true
    · obtain ⟨c, hc⟩ := h (n, k) List.mem_cons_self (beq_iff_eq.mp hk)
      have e1 : cellOf env n = pure c := by unfold cellOf; rw [show env.cells.lookup n = some c from hc]
      simp only [hk, if_true, e1, pure_bind]
      rw [clGo_pure r _ hr]
      show _ = pure (clGo env r (if (k == NameKind.free) = true then (n, (env.cells.lookup n).getD 0) :: cs else cs))
      rw [if_pos hk, show env.cells.lookup n = some c from hc]
      rfl
    · simp only [hk, Bool.false_eq_true, if_false, pure_bind]
      rw [clGo_pure r _ hr]
      show _ = pure (clGo env r (if (k == NameKind.free) = true then (n, (env.cells.lookup n).getD 0) :: cs else cs))
      rw [if_neg hk]
theorem closure_of {scope : Scope} {env : Env} (h : ∀ y ∈ scope.names, y.2 = .free → ∃ c, env.cells.lookup y.1 = some c) : closureFor scope env = pure (clGo env scope.names []) := by
  have e := clGo_pure scope.names [] h
  unfold closureFor
  refine Eq.trans ?_ (e.trans rfl)
  first
    | rfl
    | (simp only [bind_pure]; rfl)
    | simp

theorem clGo_look {env : Env} {x : Str} {c : Addr} : ∀ (ns : List (Str × NameKind)) (cs : List (Str × Addr)), (∀ y ∈ ns, y.2 = .free → ∃ c, env.cells.lookup y.1 = some c) →
    (∀ c, cs.lookup x = some c → env.cells.lookup x = some c) → (clGo env ns cs).lookup x = some c → env.cells.lookup x = some c
  | [], cs, _, hc, e => hc c e
  | (n, k) :: r, cs, h, hc, e => by
    refine clGo_look r _ (fun y hy => h y (List.mem_cons_of_mem _ hy)) (fun c' e' => ?_) e
    by_cases hk : (k == NameKind.free) = true
    · rw [if_pos hk] at e'
      rw [List.lookup_cons] at e'
      cases hx : x == n with
      | true =>
        rw [hx] at e'
        obtain ⟨c2, h2⟩ := h (n, k) List.mem_cons_self (beq_iff_eq.mp hk)
        have h2' : env.cells.lookup n = some c2 := h2
        rw [h2'] at e'
        rw [beq_iff_eq.mp hx, h2']
        exact e'
      | false =>
        rw [hx] at e'
        exact hc c' e'
    · rw [if_neg hk] at e'
      exact hc c' e'
theorem clGo_has {env : Env} {x : Str} : ∀ (ns : List (Str × NameKind)) (cs : List (Str × Addr)), ((x, NameKind.free) ∈ ns ∨ (∃ c, cs.lookup x = some c)) → ∃ c, (clGo env ns cs).lookup x = some c
  | [], cs, h => by
    rcases h with h | h
    · cases h
    · exact h
  | (n, k) :: r, cs, h => by
    refine clGo_has r _ ?_
    rcases h with h | ⟨c, h⟩
    · rcases List.mem_cons.mp h with e | e
      · cases e
        refine .inr ⟨(env.cells.lookup x).getD 0, ?_⟩
        rw [if_pos (by rfl), List.lookup_cons]
        simp
      · exact .inl e
    · right
      by_cases hk : (k == NameKind.free) = true
      · rw [if_pos hk, List.lookup_cons]
        cases hx : x == n with
        | true => exact ⟨_, rfl⟩
        | false => exact ⟨c, h⟩
      · rw [if_neg hk]
        exact ⟨c, h⟩

def blk (X : Cx) (scope : Scope) (Nc : List Str) (C : Addr) (s₂ : Shared) (H₂ : Hp) (ex : List Addr) (pins : List (Addr × Obj)) : Cx :=
  { prog := X.prog, w := X.w, K := X.K, mg := X.mg, base := X.base, A := X.A, N := Nc, s₀ := s₂, H₀ := H₂, env := compEnvC scope (clGo X.env scope.names []) C X.env, outer := X.stack, stack := X.stack, ex := ex,
    fn := fun _ => false, calm := X.calm, pn := X.pn ++ pins, xe := fun _ _ => False }

structure BlkScope (X : Cx) (scope : Scope) (x : Str) (Nf : List Str) (js : List Nat) : Prop where
  kind : scope.kind = .function
  nocell : ∀ y ∈ scope.names, y.2 ≠ .cell
  loc : ∀ y ∈ scope.names, y.2 = .local → scope.names.lookup y.1 = some .local
  own : scope.names.lookup x = some .local
  nd : (x :: Nf).Nodup
  free : ∀ y ∈ scope.names, y.2 = .free → X.env.kindOf y.1 = some .cell
  slots : Nf.length = js.length
  at_ : ∀ (i : Nat) (z : Str), Nf[i]? = some z → ∃ j : Nat, js[i]? = some j ∧ X.N[j]? = some z ∧ scope.names.lookup z = some .free ∧ X.env.scope.names.lookup z = some .cell
section
variable {X : Cx} {scope : Scope} {x : Str} {Nf : List Str} {js : List Nat} {C : Addr} {s₂ : Shared} {H₂ : Hp} {ex : List Addr} {pins : List (Addr × Obj)} {σ : St}
theorem BlkScope.hasCell (B : BlkScope X scope x Nf js) (ok : X.Ok) : ∀ y ∈ scope.names, y.2 = .free → ∃ c, X.env.cells.lookup y.1 = some c := fun y hy hf => ok.has y.1 (.inl (B.free y hy hf))
theorem BlkScope.look (B : BlkScope X scope x Nf js) (ok : X.Ok) {z : Str} {c : Addr} (e : (clGo X.env scope.names []).lookup z = some c) : X.env.cells.lookup z = some c :=
  clGo_look scope.names [] (B.hasCell ok) (fun c h => by simp at h) e
theorem relabel_free {sc : Scope} {env : Env} {z : Str} : ∀ {ns : List (Str × NameKind)}, (∀ y ∈ ns, y.2 ≠ .cell) →
    ((ns.map fun (n, k) => if (k == NameKind.free && env.scope.kind == .function && env.kindOf n == some .cell) then (n, NameKind.cell) else (n, k)).lookup z = some .cell ∨
     (ns.map fun (n, k) => if (k == NameKind.free && env.scope.kind == .function && env.kindOf n == some .cell) then (n, NameKind.cell) else (n, k)).lookup z = some .free) → (z, NameKind.free) ∈ ns
  | [], _, h => by simp at h
  | (n, k) :: r, hc, h => by
    have ih := @relabel_free sc env z r fun y hy => hc y (List.mem_cons_of_mem _ hy)
    rw [List.map_cons, List.lookup_cons] at h
    by_cases hk : (k == NameKind.free && env.scope.kind == .function && env.kindOf n == some .cell) = true
    · have kf : k = .free := by
        rw [Bool.and_eq_true, Bool.and_eq_true] at hk
        exact beq_iff_eq.mp hk.1.1
      subst kf
      simp only [hk, if_true] at h
      cases hz : z == n with
      | true => rw [beq_iff_eq.mp hz]; exact List.mem_cons_self
      | false => rw [hz] at h; exact List.mem_cons_of_mem _ (ih h)
    · simp only [hk, Bool.false_eq_true, if_false] at h
      cases hz : z == n with
      | true =>
        rw [hz] at h
        have h' : k = .cell ∨ k = .free := by
          rcases h with h | h
          · exact .inl (Option.some.inj h)
          · exact .inr (Option.some.inj h)
        rcases h' with e | e
        · exact absurd e (hc (n, k) List.mem_cons_self)
        · rw [beq_iff_eq.mp hz, e]; exact List.mem_cons_self
      | false => rw [hz] at h; exact List.mem_cons_of_mem _ (ih h)
theorem relabel_cell {env : Env} {z : Str} (hk : env.scope.kind = .function) (hz : env.kindOf z = some .cell) : ∀ {ns : List (Str × NameKind)}, (∀ y ∈ ns, y.2 = .local → ns.lookup y.1 = some .local) → (∀ y ∈ ns, y.2 ≠ .cell) → ns.lookup z = some .free →
    (ns.map fun (n, k) => if (k == NameKind.free && env.scope.kind == .function && env.kindOf n == some .cell) then (n, NameKind.cell) else (n, k)).lookup z = some .cell
  | [], _, _, h => by simp at h
  | (n, k) :: r, _, _, h => by
    have ih : ∀ {ns : List (Str × NameKind)}, ns.lookup z = some .free → (ns.map fun (n, k) => if (k == NameKind.free && env.scope.kind == .function && env.kindOf n == some .cell) then (n, NameKind.cell) else (n, k)).lookup z = some .cell := by
      intro ns
      induction ns with
      | nil => intro h; simp at h
      | cons p ps ihp =>
        intro h
        obtain ⟨n', k'⟩ := p
        rw [List.lookup_cons] at h
        rw [List.map_cons, List.lookup_cons]
        cases hx : z == n' with
        | true =>
          rw [hx] at h
          have e : k' = .free := Option.some.inj h
          subst e
          rw [← beq_iff_eq.mp hx]
          simp [hk, hz]
        | false =>
          rw [hx] at h
          by_cases hc : (k' == NameKind.free && env.scope.kind == .function && env.kindOf n' == some .cell) = true
          · simp only [hc, if_true, hx]; exact ihp h
          · simp only [hc, Bool.false_eq_true, if_false, hx]; exact ihp h
    exact ih h

theorem BlkScope.ok (B : BlkScope X scope x Nf js) {H : Hp} {s : Shared} (I : Inv X pins σ H s) (hC : s.heap.objs.size ≤ C) {fp : List Addr} (hf : ∀ b ∈ fp, FpOk X pins H b) (ho : ∀ b ∈ fp, ∃ o, s.heap.get? b = some o ∧ ∀ v, o.data ≠ .cell v) :
    (blk X scope (x :: Nf) C s H fp pins).Ok where
  mod := I.ok.mod
  kind := B.kind
  glob := I.ok.glob
  blt := I.ok.blt
  above := hC
  inj := fun y z c h1 h2 => I.ok.inj y z c (B.look I.ok h1) (B.look I.ok h2)
  has := fun z hz => clGo_has scope.names [] (.inl (relabel_free (sc := scope) B.nocell hz))
  cab := fun y c h _ => Bool.noConfusion h
  hd := fun h => I.ok.hd h
  frames := I.ok.frames
  stk := .inl rfl
  exf := fun b hb => by
    obtain ⟨o, e, d⟩ := ho b hb
    refine ⟨Nat.ne_of_lt (Nat.lt_of_lt_of_le (Heap.lt_size e) hC), fun z c h => (hf b hb).2.2.2.2.1 z c (B.look I.ok h)⟩
  bs := I.bs
  bsz := Nat.le_trans I.ok.bsz I.sz
  noex := fun b o e hb => by
    rcases (hf b hb).2.2.2.1 with z | z
    · exact I.ok.noex b o e z
    · exact absurd (Nat.lt_of_lt_of_le (Heap.lt_size e) (Nat.le_trans I.ok.bsz z)) (Nat.lt_irrefl _)
  exfs := fun b hb hs => by
    rcases List.mem_cons.mp (I.stkSub b hs) with e | e
    · exact (hf b hb).2.1 e
    · exact (hf b hb).2.2.1 e
  funs := I.stack
  frf := I.stkFree
end
end L2

set_option Elab.async false
set_option linter.all false
set_option maxRecDepth 100000
namespace L2
open PySem PySem.Spec PyProof.Rows
section
variable {X : Cx} {scope : Scope} {x : Str} {Nf : List Str} {js : List Nat} {pins : List (Addr × Obj)} {σ : St}

def blkSt (js : List Nat) (σ : St) (v : Option V) : St := v :: js.map fun j => (σ[j]?).getD none

theorem BlkScope.inv (B : BlkScope X scope x Nf js) {H : Hp} {s : Shared} (I : Inv X pins σ H s) {fp : List Addr} (hf : ∀ b ∈ fp, FpOk X pins H b) (ho : ∀ b ∈ fp, ∃ o, s.heap.get? b = some o ∧ ∀ v, o.data ≠ .cell v)
    {h₁ : Heap} {tk : Nat} (hn : h₁.Ns (s.heap.objs.size + 1) (fun _ => none)) (hs : Heap.SameBut (s.heap.objs.size + 1) ((s.heap.push { cls := .type "list", data := .seq #[] }).push { cls := .type "dict", data := .dict #[] }) h₁) :
    Inv (blk X scope (x :: Nf) (s.heap.objs.size + 1) s H fp pins) [] (blkSt js σ none) (upd H s.heap.objs.size (.lst [])) { s with heap := h₁, toks := tk } := by
  have old : ∀ b o, s.heap.get? b = some o → h₁.get? b = some o := fun b o e =>
    hs.extBut b o (Nat.ne_of_lt (Nat.lt_succ_of_lt (Heap.lt_size e))) (Heap.get?_push_of_some _ (Heap.get?_push_of_some _ e))
  have hD : h₁.get? s.heap.objs.size = some { cls := .type "list", data := .seq #[] } := hs.extBut _ _ (Nat.ne_of_lt (Nat.lt_succ_self _)) (Heap.get?_push_of_some _ (Heap.get?_push_size _ rfl))
  have fD : H s.heap.objs.size = none := I.hok.fresh (Nat.le_refl _)
  have fC : H (s.heap.objs.size + 1) = none := I.hok.fresh (Nat.le_succ _)
  have cellAt : ∀ z c, (clGo X.env scope.names []).lookup z = some c → c < s.heap.objs.size := fun z c e => by
    obtain ⟨v, q⟩ := I.cell z c (B.look I.ok e)
    exact q.lt
  have J := I.laid (a := s.heap.objs.size) (o := .lst []) (h' := h₁) (t' := tk) old (Nat.le_refl _) ⟨Nat.zero_le _, [], 0, .nil, hD⟩
  refine ⟨B.ok I (Nat.le_succ _) hf ho, rfl, I.bare, Un.laid old (Nat.le_refl _) fD, ⟨_, hn, fun i z v h1 h2 h3 => ?_⟩, fun z c e => ?_, ?_, fun z c e => ?_, fun p hp => ?_, J.hok, ?_⟩
  · -- a name of the block that has a value: one of the def's
    cases i with
    | zero =>
      have h2' : some (none : Option V) = some (some v) := h2
      cases h2'
    | succ i =>
      have h1' : Nf[i]? = some z := h1
      have h2' : (js.map fun j => (σ[j]?).getD none)[i]? = some (some v) := h2
      obtain ⟨j, e1, e2, e3, e4⟩ := B.at_ i z h1'
      rw [List.getElem?_map, e1] at h2'
      have h2'' : (σ[j]?).getD none = some v := Option.some.inj h2'
      have e5 : σ[j]? = some (some v) := by
        cases q : σ[j]? with
        | none => rw [q] at h2''; cases h2''
        | some y => rw [q] at h2''; exact congrArg some h2''
      obtain ⟨m, hm, hl⟩ := I.loc
      obtain ⟨u, r, l⟩ := hl j z v e2 e5 (.inr (.inl e4))
      refine ⟨u, r, .inr ⟨.inl ?_, ?_⟩⟩
      · exact relabel_cell I.ok.kind e4 B.loc B.nocell e3
      · rcases l with ⟨k, _⟩ | ⟨_, c, hc, q⟩
        · rw [show X.env.kindOf z = X.env.scope.names.lookup z from rfl, e4] at k; cases k
        · obtain ⟨c', hc'⟩ := clGo_has (env := X.env) (x := z) scope.names [] (.inl (PySem.mem_of_lookup e3))
          have e6 := B.look I.ok hc'
          rw [hc] at e6
          cases e6
          exact ⟨c, hc', q.keeps old⟩
  · obtain ⟨v, q⟩ := I.cell z c (B.look I.ok e)
    exact ⟨v, q.keeps old⟩
  · show upd H s.heap.objs.size (.lst []) (s.heap.objs.size + 1) = none
    rw [upd_ne (Nat.ne_of_gt (Nat.lt_succ_self _))]
    exact fC
  · rw [upd_ne (Nat.ne_of_lt (cellAt z c e))]
    exact I.freeC z c (B.look I.ok e)
  · have hp' : p ∈ X.pn ++ pins := by
      have : p ∈ (X.pn ++ pins) ++ [] := hp
      rwa [List.append_nil] at this
    obtain ⟨e, n, ne, nf, d⟩ := I.pin p hp'
    refine ⟨old _ _ e, ?_, Nat.ne_of_lt (Nat.lt_succ_of_lt (Heap.lt_size e)), fun z => ?_, d⟩
    · rw [upd_ne (Nat.ne_of_lt (Heap.lt_size e))]; exact n
    · rcases List.mem_cons.mp (I.stkSub p.1 z) with q | q
      · exact ne q
      · exact nf q
  · show (none :: js.map _).length = (x :: Nf).length
    rw [List.length_cons, List.length_map, List.length_cons, B.slots]

theorem BlkScope.back (B : BlkScope X scope x Nf js) {H H' : Hp} {s s' : Shared} {fp : List Addr} {C : Addr} {pl : List (Addr × Obj)} {τ : St} (I : Inv X pins σ H s) (hf : ∀ b ∈ fp, FpOk X pins H b) (hC : s.heap.objs.size ≤ C)
    (J : Inv (blk X scope (x :: Nf) C s H fp pins) pl τ H' s') {h' : Heap} (hs : Heap.SameBut C s'.heap h') : Inv X pins σ H' { s' with heap := h' } := by
  have nC : H' C = none := J.free
  refine I.call' (s' := { s' with heap := h' }) (ch := fp) J.os ⟨fun b o e n hb hx => ?_, fun b o e n hb hx => ?_, J.base.free, fun b o e hx => ?_, J.base.tups, J.base.frzs, J.base.tbls⟩ ?_ J.bare (fun b hb => ?_)
  · exact hs.extBut b o (Nat.ne_of_lt (Nat.lt_of_lt_of_le (Heap.lt_size e) hC)) (J.base.keep b o e n hb hx)
  · obtain ⟨sl, e1⟩ := J.base.slot b o e n hb hx
    exact ⟨sl, hs.extBut b _ (Nat.ne_of_lt (Nat.lt_of_lt_of_le (Heap.lt_size e) hC)) e1⟩
  · obtain ⟨o', e1⟩ := J.base.there b o e hx
    exact ⟨o', hs.extBut b _ (Nat.ne_of_lt (Nat.lt_of_lt_of_le (Heap.lt_size e) hC)) e1⟩
  · intro a o e
    refine (J.hok a o e).stay (fun b u hb q => hs.extBut b u ?_ q) (fun _ q => q) fun _ _ q => q
    rcases hb with rfl | hb
    · exact fun z => by rw [z, nC] at e; cases e
    · exact fun z => by rw [z, nC] at hb; cases hb
  · obtain ⟨_, f1, f2, f3, f4, f5⟩ := hf b hb
    exact ⟨f3, f1, f4, f5⟩
end
end L2

set_option Elab.async false
set_option linter.all false
set_option maxRecDepth 100000
namespace L2
open PySem PySem.Spec PyProof.Rows

inductive PTs (X : Cx) : List Expr → TT → Prop where
  | nil : PTs X [] (fun _ H Q => Q true H)
  | one {c : Expr} {t : TT} (h : PT X c t) : PTs X [c] t
theorem PTs.run {X : Cx} {ifs : List Expr} {t : TT} (h : PTs X ifs t) {pins : List (Addr × Obj)} {s : Shared} {σ : St} {H : Hp} {Q : Bool → Hp → Prop} (I : Inv X pins σ H s) (q : t σ H Q) :
    wpAny (model X.prog X.w) X.A (forIn ifs true fun c r => if r = true then do let ok ← isTrue c X.env (eval c X.env); pure (ForInStep.yield ok) else pure (ForInStep.yield r)) (TP X pins σ Q) X.xe s := by
  cases h with
  | nil => exact wpAny_pure ⟨H, I, q⟩
  | @one c t h =>
    rw [List.forIn_cons]
    refine wpAny_bind ?_
    rw [if_pos rfl]
    refine wpAny_bind (thn (h pins s σ H Q I q) fun b s1 q1 => wpAny_pure ?_)
    exact wpAny_pure q1

def tComp (js : List Nat) (wi : TI) (tc : TT) (te : TE) : TE := fun σ H Q => wi σ H fun J H1 => ∀ D, H1 D = none → ∃ W : Nat → Nat → Hp → Prop, (∃ m, W 0 m (upd H1 D (.lst []))) ∧ ∀ i m H2, W i m H2 →
  (J.stop i H2 ∧ Q (.ref D) H2) ∨ (J.go i H2 ∧ ∀ v H3, J.yld i H2 v H3 → tc (blkSt js σ (some v)) H3 fun b H4 =>
    if b = true then te (blkSt js σ (some v)) H4 fun y H5 => ∃ ys, H5 D = some (.lst ys) ∧ ys.length < sizeLine ∧ ∃ m', m' < m ∧ W (i + 1) m' (upd H5 D (.lst (ys ++ [y])))
    else ∃ m', m' < m ∧ W (i + 1) m' H4)
section
variable {X : Cx} {scope : Scope} {x : Str} {Nf : List Str} {js : List Nat} {wi : TI} {tc : TT} {te : TE} {elt iter : Expr} {ifs : List Expr} {px pos : Pos}

theorem comp_core (use : Option (Value → Sem Unit)) {pins : List (Addr × Obj)} {s₂ : Shared} {σ : St} {H₂ : Hp} {it : Addr} {fp : List Addr} {tn : Nat → Heap → Prop} {J : It} {E : Value → Shared → Prop} {QQ : Value → Addr → Result → Shared → Prop} {Q : VK} {tg0 : Expr} (htg : tg0 = .Name x px)
    (B : BlkScope X scope x Nf js) (hc : X.calm = true)
    (ht : ∀ C s₂ H₂ ex pins, PTs (blk X scope (x :: Nf) C s₂ H₂ ex pins) ifs tc) (he : ∀ C s₂ H₂ ex pins, PE (blk X scope (x :: Nf) C s₂ H₂ ex pins) elt te)
    (I : Inv X pins σ H₂ s₂) (T : Turn X.prog X.w X.K tg0 J fp it tn) (st : tn 0 s₂.heap) (hf : ∀ b ∈ fp, FpOk X pins H₂ b)
    (hW : ∀ D, H₂ D = none → ∃ W : Nat → Nat → Hp → Prop, (∃ m, W 0 m (upd H₂ D (.lst []))) ∧ ∀ i m H2, W i m H2 →
      (J.stop i H2 ∧ Q (.ref D) H2) ∨ (J.go i H2 ∧ ∀ v H3, J.yld i H2 v H3 → tc (blkSt js σ (some v)) H3 fun b H4 =>
        if b = true then te (blkSt js σ (some v)) H4 fun y H5 => ∃ ys, H5 D = some (.lst ys) ∧ ys.length < sizeLine ∧ ∃ m', m' < m ∧ W (i + 1) m' (upd H5 D (.lst (ys ++ [y])))
        else ∃ m', m' < m ∧ W (i + 1) m' H4))
    (hQ : ∀ s' H', (∀ h', Heap.SameBut (s₂.heap.objs.size + 1) s'.heap h' → Inv X pins σ H' { s' with heap := h' }) → (∃ m, s'.heap.Ns (s₂.heap.objs.size + 1) m) → H' (s₂.heap.objs.size + 1) = none → Q (.ref s₂.heap.objs.size) H' → QQ (.ref s₂.heap.objs.size) (s₂.heap.objs.size + 1) (.ok .next) s') :
    wpAny (model X.prog X.w) X.A (newList []) (fun acc s₃ => wpAny (model X.prog X.w) X.A (newFunctionEnv scope X.env.globals (clGo X.env scope.names []) [] X.env.qual none .none (some X.env)) (fun cenv s₄ =>
      codeAny (model X.prog X.w) X.A (.compStart (.ListComp elt [⟨.Name x px, iter, ifs, 0⟩] scope pos) 0 (.ref it) acc { cenv with scope := relabel scope X.env }) (QQ acc cenv.locals) s₄) E s₃) E s₂ := by
  subst htg
  refine wpAny_newObj_type (wpAny_newFunctionEnv B.nocell (by intro y hy; simp at hy) (fun h₁ hns₁ hsb₁ => ?_) B.kind)
  dsimp only at hns₁ hsb₁ ⊢
  have hsz : (s₂.heap.push { cls := .type "list", dict := none, data := .seq ([] : List Value).toArray }).objs.size = s₂.heap.objs.size + 1 := Heap.size_push _ _
  rw [hsz] at hns₁ hsb₁ ⊢
  have ho : ∀ b ∈ fp, ∃ o, s₂.heap.get? b = some o ∧ ∀ v, o.data ≠ .cell v := T.obj 0 _ st
  have hD0 : H₂ s₂.heap.objs.size = none := I.hok.fresh (Nat.le_refl _)
  obtain ⟨W, ⟨m0, w0⟩, turn⟩ := hW _ hD0
  have old : ∀ b o, s₂.heap.get? b = some o → h₁.get? b = some o := fun b o e =>
    hsb₁.extBut b o (Nat.ne_of_lt (Nat.lt_succ_of_lt (Heap.lt_size e))) (Heap.get?_push_of_some _ (Heap.get?_push_of_some _ e))
  have st1 : tn 0 h₁ := T.keep _ _ _ st fun b _ o e => old b o e
  have I1 : ∀ tk, Inv (blk X scope (x :: Nf) (s₂.heap.objs.size + 1) s₂ H₂ fp pins) [] (blkSt js σ none) (upd H₂ s₂.heap.objs.size (.lst [])) { s₂ with heap := h₁, toks := tk } := fun tk => B.inv I hf ho hns₁ hsb₁
  have fpD : ∀ b ∈ fp, b ≠ s₂.heap.objs.size := fun b hb => by
    obtain ⟨o, e, _⟩ := ho b hb
    exact Nat.ne_of_lt (Heap.lt_size e)
  have fp0 : ∀ b ∈ fp, upd H₂ s₂.heap.objs.size (.lst []) b = none := fun b hb => by rw [upd_ne (fpD b hb)]; exact (hf b hb).1
  -- what the block's context says of the iterator's objects
  have stat : ∀ {H' : Hp}, (∀ b ∈ fp, H' b = none) → ∀ b ∈ fp, FpOk (blk X scope (x :: Nf) (s₂.heap.objs.size + 1) s₂ H₂ fp pins) [] H' b := fun {H'} hn b hb => by
    obtain ⟨_, f1, f2, f3, f4, f5⟩ := hf b hb
    obtain ⟨o, e, _⟩ := ho b hb
    refine ⟨hn b hb, Nat.ne_of_lt (Nat.lt_succ_of_lt (Heap.lt_size e)), fun z => ?_, .inl hb, fun z c h => f4 z c (B.look I.ok h), fun p hp => ?_⟩
    · rcases List.mem_cons.mp (I.stkSub b z) with q | q
      · exact f1 q
      · exact f2 q
    · have hp' : p ∈ (X.pn ++ pins) ++ [] := hp
      rw [List.append_nil] at hp'
      exact f5 p hp'
  have loop : ∀ sL : Shared, sL = { s₂ with heap := h₁, toks := s₂.toks + ([] : List (Str × Value)).length } →
      codeAny (model X.prog X.w) X.A (.compLoop (.ListComp elt [⟨.Name x px, iter, ifs, 0⟩] scope pos) 0 (.ref it) (.ref s₂.heap.objs.size) (compEnvC scope (clGo X.env scope.names []) (s₂.heap.objs.size + 1) X.env))
        (QQ (.ref s₂.heap.objs.size) (s₂.heap.objs.size + 1)) sL := by
    rintro sL rfl
    refine codeAny_compLoop_tests (fun n s' => ∃ i v H', Inv (blk X scope (x :: Nf) (s₂.heap.objs.size + 1) s₂ H₂ fp pins) [] (blkSt js σ v) H' s' ∧ tn i s'.heap ∧ (∀ b ∈ fp, H' b = none) ∧ W i n H') ?_ m0 ⟨0, none, _, I1 _, st1, fp0, w0⟩
    rintro n s3 ⟨i, v3, H3, I3, st3, fr3, w3⟩
    rcases turn i n H3 w3 with ⟨stop, qn⟩ | ⟨go, step⟩
    · refine thn (T.done (blk X scope (x :: Nf) (s₂.heap.objs.size + 1) s₂ H₂ fp pins) rfl rfl rfl hc i [] s3 _ H3 _ I3 (stat fr3) st3 stop) fun r s4 ⟨hr, I4⟩ => ?_
      subst hr
      obtain ⟨m4, hm4, _⟩ := I4.loc
      exact hQ s4 H3 (fun h' hs => B.back I hf (Nat.le_succ _) I4 hs) ⟨m4, hm4⟩ I4.free qn
    · refine thn (T.item (blk X scope (x :: Nf) (s₂.heap.objs.size + 1) s₂ H₂ fp pins) rfl rfl rfl hc i [] s3 _ H3 _ I3 (stat fr3) st3 go) fun r s4 ⟨u, hr, h4⟩ => ?_
      subst hr
      refine (show wpAny (model X.prog X.w) X.A (letOwnedTupleGo (Expr.Name x px) (.ref it) u >>= fun _ => assign (.Name x px) (compEnvC scope (clGo X.env scope.names []) (s₂.heap.objs.size + 1) X.env) u) _ _ s4 from wpAny_bind (thn h4 fun _ s5 ⟨y5, H5, I5, r5, yl5, st5, fr5⟩ => ?_))
      have I5' := I5.pinned (stat fr5) (T.obj _ _ st5)
      have hnm : (blk X scope (x :: Nf) (s₂.heap.objs.size + 1) s₂ H₂ fp pins).env.scope.names.lookup x = some .local := lookup_relabel_local B.own
      have hg : PG (blk X scope (x :: Nf) (s₂.heap.objs.size + 1) s₂ H₂ fp pins) (.Name x px) (gName 0) := pg_name B.nd rfl (.inl hnm) (.inr hnm)
      refine wpAny_mono (hg _ s5 _ H5 y5 u (fun σ' H' => σ' = blkSt js σ (some y5) ∧ H' = H5) I5' r5 ⟨rfl, rfl⟩) (fun _ s6 ⟨σ6, H6, I6, q6⟩ => ?_) fun _ _ z => False.elim z
      obtain ⟨e6, e6'⟩ := q6
      subst e6 e6'
      refine wpAny_mono ((ht _ _ _ _ _).run I6 (step y5 _ yl5)) (fun b s7 ⟨H7, I7, q7⟩ => ?_) fun _ _ z => False.elim z
      have again : ∀ {s8 : Shared} {σ8 : St} {H8 : Hp}, Inv (blk X scope (x :: Nf) (s₂.heap.objs.size + 1) s₂ H₂ fp pins) ([] ++ pinsAt fp s5.heap) σ8 H8 s8 → tn (i + 1) s8.heap ∧ ∀ b ∈ fp, H8 b = none := fun {s8 σ8 H8} I8 => by
        refine ⟨T.keep _ _ _ st5 fun b hb o e => (I8.pin (b, o) (List.mem_append_right _ (List.mem_append_right _ (mem_pinsAt hb e)))).1, fun b hb => ?_⟩
        obtain ⟨o, e, d⟩ := T.obj _ _ st5 b hb
        exact (I8.pin (b, o) (List.mem_append_right _ (List.mem_append_right _ (mem_pinsAt hb e)))).2.1
      cases b with
      | false =>
        simp only [Bool.false_eq_true, if_false] at q7 ⊢
        obtain ⟨m', hm, w7⟩ := q7
        exact ⟨m', hm, i + 1, _, H7, I7.unpinned, (again I7).1, (again I7).2, w7⟩
      | true =>
        simp only [if_true] at q7 ⊢
        refine wpAny_mono (he _ _ _ _ _ _ s7 _ H7 _ I7 q7) (fun yv s8 ⟨y8, H8, I8, r8, ys, hD8, hl8, m', hm, w8⟩ => ?_) fun _ _ z => False.elim z
        obtain ⟨a1, a2⟩ := again I8
        refine wpAny_mono (mt_append (X := blk X scope (x :: Nf) (s₂.heap.objs.size + 1) s₂ H₂ fp pins) _ s8 _ H8 (.ref s₂.heap.objs.size) [y8] (.ref s₂.heap.objs.size) [yv] (fun _ H' => H' = upd H8 s₂.heap.objs.size (.lst (ys ++ [y8]))) I8 rfl (.cons r8 .nil)
          ⟨_, _, _, rfl, rfl, hD8, hl8, rfl⟩) (fun _ s9 ⟨_, H9, I9, _, q9⟩ => ?_) fun _ _ z => False.elim z
        subst q9
        obtain ⟨b1, b2⟩ := again I9
        exact ⟨m', hm, i + 1, _, _, I9.unpinned, b1, b2, w8⟩
  exact codeAny_compStart_list (loop _ rfl) (T.self _ 0 _ _ _ st1 (loop _ rfl))

theorem pe_comp (B : BlkScope X scope x Nf js) (hc : X.calm = true) (hi : PI X (.Name x px) iter wi)
    (ht : ∀ C s₂ H₂ ex pins, PTs (blk X scope (x :: Nf) C s₂ H₂ ex pins) ifs tc) (he : ∀ C s₂ H₂ ex pins, PE (blk X scope (x :: Nf) C s₂ H₂ ex pins) elt te)
    (hs : ∀ v, foldedSetIterable iter X.env v = pure v := by intro _; rfl) : PE X (.ListComp elt [⟨.Name x px, iter, ifs, 0⟩] scope pos) (tComp js wi tc te) := by
  intro pins s σ H Q I h
  rw [eval_ListComp]
  refine wpAny_comprehension_free (use := none) rfl hs (closure_of (B.hasCell I.ok)) B.kind B.loc (thn (hi pins s σ H _ I h) fun v s1 h1 => thn h1 fun itv s2 h2 => ?_)
  obtain ⟨it, fp, tn, J, H2, e, I2, T, st2, f2, hW⟩ := h2
  subst e
  refine comp_core (QQ := fun acc C => compPost (model X.prog X.w) X.A X.xe none (EP X pins σ Q) acc C) none rfl B hc ht he I2 T st2 f2 hW fun s' H' hI hn _ hq => ?_
  obtain ⟨m, hm⟩ := hn
  exact ⟨m, hm, fun h' hs' => ⟨.ref s2.heap.objs.size, H', hI h' hs', rfl, hq⟩⟩
theorem ps_setComp {i : Nat} {y : Str} {py spos : Pos} (B : BlkScope X scope x Nf js) (hc : X.calm = true) (hi : PI X (.Name x px) iter wi)
    (ht : ∀ C s₂ H₂ ex pins, PTs (blk X scope (x :: Nf) C s₂ H₂ ex pins) ifs tc) (he : ∀ C s₂ H₂ ex pins, PE (blk X scope (x :: Nf) C s₂ H₂ ex pins) elt te)
    (hN : X.N.Nodup) (hy : X.N[i]? = some y) (hl : X.env.scope.names.lookup y = some .local)
    (hsw : swapsWith (.ListComp elt [⟨.Name x px, iter, ifs, 0⟩] scope pos) (some (.Name y py)) spos.line X.env = pure true := by rfl)
    (hs : ∀ v, foldedSetIterable iter X.env v = pure v := by intro _; rfl) : PS X (.Assign [.Name y py] (.ListComp elt [⟨.Name x px, iter, ifs, 0⟩] scope pos) spos) (tAsg (tComp js wi tc te) (gName i)) := by
  intro pins s σ H D I h
  have asg := exec_Assign_Name_used _ _ _ _ hsw
  rw [asg]
  refine wpAny_bind (wpAny_standAt ?_)
  refine wpAny_bind ?_
  show wpAny _ _ (do let _ ← comprehension (.ListComp elt [⟨.Name x px, iter, ifs, 0⟩] scope pos) scope X.env _ (newList []) false (eval iter X.env) (some (assign (.Name y py) X.env))) _ _ s
  refine wpAny_bind (wpAny_mono (wpAny_comprehension_free (use := some (assign (.Name y py) X.env)) (Q := fun _ s' => SP X pins D .next s') rfl hs (closure_of (B.hasCell I.ok)) B.kind B.loc
    (thn (hi pins s σ H _ I h) fun v s1 h1 => thn h1 fun itv s2 h2 => ?_)) (fun _ s' hq => wpAny_pure (wpAny_pure hq)) fun _ _ e => e)
  obtain ⟨it, fp, tn, J, H2, e, I2, T, st2, f2, hW⟩ := h2
  subst e
  refine comp_core (Q := fun x H1 => gName i x σ H1 D.nx) (QQ := fun acc C => compPost (model X.prog X.w) X.A X.xe (some (assign (.Name y py) X.env)) (fun _ s' => SP X pins D .next s') acc C) none rfl B hc ht he I2 T st2 f2 hW fun s' H' hI hn hC hq => ?_
  obtain ⟨m, hm⟩ := hn
  have I3 : Inv X pins σ H' s' := hI s'.heap (Heap.SameBut.refl ..)
  have nC := I2.fpOk (b := s2.heap.objs.size + 1) (Nat.le_succ _) hC
  show wpAny _ _ (assign (.Name y py) X.env (.ref s2.heap.objs.size)) _ _ _
  refine wpAny_assign_Name (store_ok2 I3 hN hy (.inl hl) (v := .ref s2.heap.objs.size) rfl (fun s4 I4 ⟨b, hb, hbc⟩ => ?_) (.inr hl))
  have bne : s2.heap.objs.size + 1 ≠ b := by
    rcases hbc with z | z
    · rw [z]; exact nC.2.1
    · exact fun q => nC.2.2.2.2.1 y b z q.symm
  refine ⟨m, hm.sameBut hb bne, fun h' hs' => ⟨_, H', ?_, hq⟩⟩
  exact I4.turned (t' := s4.toks) (fun c o hc q => (hs'.2 c hc).trans q) nC.1 nC.2.1 nC.2.2.2.1 nC.2.2.2.2.1 nC.2.2.2.2.2
end
end L2

set_option Elab.async false
set_option linter.all false
set_option maxRecDepth 100000
namespace L2
open PySem PySem.Spec PyProof.Rows

section
variable {X : Cx} {pins : List (Addr × Obj)} {σ : St} {H : Hp} {s : Shared}
theorem rel_isb {x : V} {v : Value} {c : Bool} (r : RelV x v) : decide (x = .bl c) = (v == .bool c) := by
  cases x with
  | bl b => cases r; cases b <;> cases c <;> decide
  | non => cases r; rfl
  | int i => obtain ⟨t, rfl⟩ := r; rfl
  | str i => obtain ⟨t, rfl⟩ := r; rfl
  | byt i => obtain ⟨t, rfl⟩ := r; rfl
  | flt i => obtain ⟨t, rfl⟩ := r; rfl
  | ref a => cases r; rfl
  | ty n => cases r; rfl
theorem op_isnotB : OpR X (compareOp .IsNot) (fun x y H Q => ∃ c, y = .bl c ∧ Q (.bl (!decide (x = .bl c))) H) := by
  intro pins s σ H x y v u Q I rx ry h
  obtain ⟨c, rfl, q⟩ := h
  cases ry
  have q' : EP X pins σ Q (.bool (!(v == .bool c))) s := fin_bl I q (congrArg not (rel_isb rx))
  cases x <;> first
    | (cases rx; exact wpAny_pure q')
    | (obtain ⟨t, rfl⟩ := rx; exact wpAny_pure q')

theorem op_fdivL : OpR X (binaryOp .FloorDiv) (rI (fun _ j => 0 < j ∧ j.natAbs.log2 < 9000) fun i j => .int (i / j)) := opI fun i j _ _ _ _ _ hc q => by
  have e : i.fdiv j = i / j := Int.fdiv_eq_ediv_of_nonneg i (Int.le_of_lt hc.1)
  exact floordiv_int (by omega) (by rw [e]; exact q) (.inl (PyProof.noPylong_of_log2 hc.2))

def plainV : V → Bool
  | .non => true | .bl _ => true | .int _ => true | .str _ => true | .ref _ => true
  | _ => false
def okP (x y : V) : Prop := (x = y ∧ plainV x = true) ∨ (flatV x = true ∧ flatV y = true)
def eqP (x y : V) : Bool := decide (x = y) || eqV x y
theorem eqV_self : ∀ {x : V}, flatV x = true → eqV x x = true
  | .non, _ => rfl
  | .bl b, _ => by cases b <;> rfl
  | .int i, _ => by simp [eqV]
  | .str z, _ => by simp [eqV]
theorem eqAt_P {A : Around} {s : Shared} {x y : V} {u v : Value} (ru : RelV x u) (rv : RelV y v) (h : okP x y) : SeqAt.EqAt A s u v (eqP x y) := by
  rcases h with ⟨e, p⟩ | ⟨f, g⟩
  · subst e
    have e1 : eqP x x = true := by unfold eqP; simp
    rw [e1]
    cases x with
    | non => cases ru; cases rv; exact SeqAt.EqAt.same _
    | bl b => cases ru; cases rv; exact SeqAt.EqAt.same _
    | int i => have := eqAt_V (A := A) (s := s) ru rv rfl rfl; rwa [eqV_self rfl] at this
    | str z => have := eqAt_V (A := A) (s := s) ru rv rfl rfl; rwa [eqV_self rfl] at this
    | ref a => cases ru; cases rv; exact SeqAt.EqAt.same _
    | _ => exact absurd (show false = true from p) Bool.false_ne_true
  · have e1 : eqP x y = eqV x y := by
      unfold eqP
      by_cases e : x = y
      · subst e; rw [eqV_self f]; simp
      · simp [e]
    rw [e1]
    exact eqAt_V ru rv f g
def eqPs (xs ys : List V) : Bool := decide (xs.length = ys.length) && (List.zipWith eqP xs ys).all id
def okPs (xs ys : List V) : Prop := xs.length = ys.length → ∀ (j : Nat) (x y : V), xs[j]? = some x → ys[j]? = some y → okP x y
theorem eqPs_nil {xs : List V} : eqPs xs [] = decide (xs = []) := by cases xs <;> simp [eqPs]
theorem okPs_nil {xs : List V} : okPs xs [] := fun _ j x y _ h => by simp at h
theorem eqPs_self {xs : List V} : eqPs xs xs = true := by
  unfold eqPs
  rw [Bool.and_eq_true]
  refine ⟨by simp, ?_⟩
  induction xs with
  | nil => rfl
  | cons x r ih => rw [List.zipWith_cons_cons, List.all_cons, ih]; simp [eqP]
theorem okPs_self {xs : List V} (h : xs.all plainV = true) : okPs xs xs := fun _ j x y e e' => by
  rw [e] at e'
  cases e'
  exact .inl ⟨rfl, List.all_eq_true.mp h x (List.mem_of_getElem? e)⟩
def ans (xs ys : List V) (j : Nat) : Bool := match xs[j]?, ys[j]? with
  | some x, some y => eqP x y
  | _, _ => true
theorem zip_ans : ∀ (xs ys : List V), xs.length = ys.length → (List.range xs.length).all (ans xs ys) = (List.zipWith eqP xs ys).all id
  | [], [], _ => rfl
  | [], _ :: _, h => by simp at h
  | _ :: _, [], h => by simp at h
  | x :: xs, y :: ys, h => by
    have ih := zip_ans xs ys (by simpa using h)
    rw [List.length_cons, List.range_succ_eq_map, List.all_cons, List.zipWith_cons_cons, List.all_cons, ← ih, List.all_map]
    rfl
theorem ans_at {xs ys : List V} {us ws : List Value} (r : Vals xs us) (r' : Vals ys ws) (ok : okPs xs ys) (hl : xs.length = ys.length) {A : Around} {s : Shared} (j : Nat) (h1 : j < us.toArray.size) (h2 : j < ws.toArray.size) :
    SeqAt.EqAt A s us.toArray[j] ws.toArray[j] (ans xs ys j) := by
  have l1 := r.length
  have l2 := r'.length
  have j1 : j < xs.length := by simp at h1; omega
  have j2 : j < ys.length := by omega
  have e1 : xs[j]? = some xs[j] := by simp [j1]
  have e2 : ys[j]? = some ys[j] := by simp [j2]
  obtain ⟨u, eu, ru⟩ := r.get e1
  obtain ⟨w, ew, rw'⟩ := r'.get e2
  have a1 : us.toArray[j] = u := by
    have : us[j]? = some u := eu
    simp at h1
    simpa [h1] using this
  have a2 : ws.toArray[j] = w := by
    have : ws[j]? = some w := ew
    simp at h2
    simpa [h2] using this
  have a3 : ans xs ys j = eqP xs[j] ys[j] := by unfold ans; rw [e1, e2]
  rw [a1, a2, a3]
  exact eqAt_P ru rw' (ok hl j _ _ e1 e2)
def rEqL (K : PySem.W.Frag) (neg : Bool) : R2 := fun x y H Q => ∃ p q xs ys, x = .ref p ∧ y = .ref q ∧ SqL K H p xs ∧ SqL K H q ys ∧ okPs xs ys ∧ Q (.bl (if neg then !eqPs xs ys else eqPs xs ys)) H
theorem op_eqL (hu : X.A.units < cLine) : OpR X (compareOp .Eq) (rEqL X.K false) := by
  intro pins s σ H x y v u Q I rx ry h
  obtain ⟨p, q, xs, ys, rfl, rfl, hp, hq, ok, hQ⟩ := h
  cases rx
  cases ry
  obtain ⟨us, r, pl, hz⟩ := I.list hp
  obtain ⟨ws, r', pl', hz'⟩ := I.list hq
  have l1 := r.length
  have l2 := r'.length
  by_cases hl : xs.length = ys.length
  · refine SeqAt.RcAt.lists (e := ans xs ys) pl.isList pl'.isList (by simp; omega) hu (fun j h1 h2 => ans_at r r' ok hl j h1 h2) _ _ _ _ ⟨.bl _, H, I, rfl, ?_⟩
    rw [show us.toArray.size = xs.length by simp; omega, zip_ans xs ys hl]
    unfold eqPs at hQ
    rw [decide_eq_true hl, Bool.true_and] at hQ
    exact hQ
  · refine SeqAt.RcAt.lists_lengths pl.isList pl'.isList (by simp; omega) hu _ _ _ _ ⟨.bl _, H, I, rfl, ?_⟩
    unfold eqPs at hQ
    rw [decide_eq_false hl, Bool.false_and] at hQ
    exact hQ
theorem op_neL (hu : X.A.units < cLine) : OpR X (compareOp .NotEq) (rEqL X.K true) := by
  intro pins s σ H x y v u Q I rx ry h
  obtain ⟨p, q, xs, ys, rfl, rfl, hp, hq, ok, hQ⟩ := h
  cases rx
  cases ry
  obtain ⟨us, r, pl, hz⟩ := I.list hp
  obtain ⟨ws, r', pl', hz'⟩ := I.list hq
  have l1 := r.length
  have l2 := r'.length
  by_cases hl : xs.length = ys.length
  · refine SeqAt.RcNeAt.lists (e := ans xs ys) pl.isList pl'.isList (by simp; omega) hu (fun j h1 h2 => ans_at r r' ok hl j h1 h2) _ _ _ _ ⟨.bl _, H, I, rfl, ?_⟩
    rw [show us.toArray.size = xs.length by simp; omega, zip_ans xs ys hl]
    unfold eqPs at hQ
    rw [decide_eq_true hl, Bool.true_and] at hQ
    exact hQ
  · refine SeqAt.RcNeAt.lists_lengths pl.isList pl'.isList (by simp; omega) hu _ _ _ _ ⟨.bl _, H, I, rfl, ?_⟩
    unfold eqPs at hQ
    rw [decide_eq_false hl, Bool.false_and] at hQ
    exact hQ

def tRev (K : PySem.W.Frag) (te : TE) : TE := fun σ H Q => te σ H fun x H1 => ∃ a xs, x = .ref a ∧ SqL K H1 a xs ∧ ∀ p, H1 p = none → Q (.ref p) (upd H1 p (.lst xs.reverse))
theorem pe_rev {e k : Expr} {te : TE} {p2 pos : Pos} (he : PE X e te) (hk : PE X k (tUn (fun x H Q => x = .int 1 ∧ Q (.int (-1)) H) (tC (.int 1)))) : PE X (.Subscript e (.Slice none none (some k) p2) pos) (tRev X.K te) := by
  intro pins s σ H Q I h
  refine Subscript_ (thn (he pins s σ H _ I h) fun v s1 ⟨x, H1, I1, r1, q1⟩ => ?_)
  obtain ⟨a, xs, rfl, hx, q⟩ := q1
  cases r1
  refine wpAny_Slice ?_
  rw [evalPart_none, evalPart_some]
  refine wpAny_pure (wpAny_pure (thn (hk pins s1 σ H1 (fun v H2 => v = .int (-1) ∧ H2 = H1) I1 ⟨rfl, rfl, rfl⟩) fun kv s2 ⟨y, H2, I2, r2, e1, e2⟩ => ?_))
  subst e1 e2
  obtain ⟨t, rfl⟩ := r2
  have I3 := I2.kept (h' := s2.heap.push { cls := .type "slice", data := .fields #[.none, .none, .int (-1) t] }) (t' := s2.toks) fun b ob q => Heap.get?_push_of_some _ q
  obtain ⟨its, r, pl, hz⟩ := I3.list hx
  have hlen := r.length
  refine tail_any (ops := [.ref a, .ref s2.heap.objs.size]) pl.isList.typeIs slot_list_getitem.lookup (wpAny_getItem_list_slice pl.isList (Heap.IsSliceOf.new ..) .none .none (.int (-1) t) (by decide) ?_ (by rw [List.size_toArray] <;> omega)) (by with_unfolding_all rfl)
  rw [PySem.W.krv_pick]
  refine ⟨.ref _, _, I3.laid (t' := s2.toks) (o := .lst xs.reverse) (fun b ob q => Heap.get?_push_of_some _ q) (Nat.le_refl _) ?_, rfl, q _ (I3.hok.fresh (Nat.le_refl _))⟩
  refine ⟨by rw [List.length_reverse]; exact hz, its.reverse, 0, r.reverse, ?_⟩
  have := Heap.get?_push_size (s2.heap.push { cls := .type "slice", data := .fields #[.none, .none, .int (-1) t] }) (o := { cls := .type "list", data := .seq its.reverse.toArray }) rfl
  simpa using this
end
end L2

set_option Elab.async false
set_option linter.all false
set_option maxRecDepth 100000
namespace L2
open PySem PySem.Spec PyProof.Rows

abbrev bmV : List Value := [.type "ValueError", .type "Exception", .type "BaseException", .type "object"]
def strK (es : Array DictEntry) : Bool := es.all fun e => match e.key with | .str _ _ => true | _ => false
theorem strK_ok {es : Array DictEntry} (x : strK es = true) : StrKeys es := fun e he => by
  have hx := Array.all_eq_true_iff_forall_mem.mp x e he
  cases hk : e.key with
  | str a b => exact ⟨a, b, rfl⟩
  | _ => rw [hk] at hx; cases hx

structure ExC (K : PySem.W.Frag) (C T fI : Addr) : Prop where
  cls : ∃ (nm q : Str) (N : Addr) (bs : List Value) (hdct : Bool) (sn : List Str) (sub : List Value) (ab : Bool) (col : Option Bool) (dd : Option Addr) (k0 k1 k2 k3 k5 : Option Value),
    K.lookup C = some (excClassObj nm q C N bs (.ref T :: bmV) hdct sn sub ab col dd k0 k1 k2 k3 k5 "ValueError.__new__")
  top : ∃ (c0 : Value) (dd : Option Addr) (cd : ClassData) (sl : Array (Option Value)), K.lookup T = some ⟨c0, dd, .cls cd, sl⟩ ∧
    ∃ (d0 : Value) (d1 : Option Addr) (es : Array DictEntry) (n : Nat) (sl' : Array (Option Value)), K.lookup cd.ns = some ⟨d0, d1, .dict es n, sl'⟩ ∧ strK es = true ∧ nsFind es "__init__" = none
  init : PySem.W.findIn K (.ref C) "__init__" = some (some (.ref fI))
  fn : PySem.W.isFn K (.ref fI) = true
  kp : PySem.W.keepIn K (.ref C) = true
theorem ExC.tail {K : PySem.W.Frag} {C T fI : Addr} (x : ExC K C T fI) {h : Heap} (X : K.In h) : OwnTail h bmV (.ref T :: bmV) := by
  obtain ⟨c0, dd, cd, sl, h1, d0, d1, es, n, sl', h2, h3, h4⟩ := x.top
  exact .own (X _ _ h1) ⟨_, es, n, X _ _ h2, rfl, strK_ok h3, fun _ => rfl⟩ h4 .base

section
variable {prog : Program} {w : World} {A : Around} {E : Value → Shared → Prop} {K : PySem.W.Frag} {C T fI : Addr} {h : Heap} {g : Array GenState} {d : Drawn} {t : Nat} {os : OsState}
theorem exc_tc (x : ExC K C T fI) (X : K.In h) {us : List Value} {Q : Fin → Shared → Prop}
    (hq : ∀ h' e, Heap.MadeExcOf h h' e (.ref C) us → h.objs.size ≤ e → wpAny (model prog w) A (call (.ref fI) (.ref e :: us)) (fun r s' => r = .none ∧ Q (.done (.ret (.ref e))) s') E ⟨h', g, d, t, os⟩) (hz : us.length ≤ sizeLine) :
    wpAny (model prog w) A (Builtin.«type.__call__» ⟨.ref C :: us, []⟩) Q E ⟨h, g, d, t, os⟩ := by
  have F := PySem.F.excBase_ValueError
  have OT := x.tail X
  obtain ⟨nm, q, N, bs, hdct, sn, sub, ab, col, dd, k0, k1, k2, k3, k5, lk⟩ := x.cls
  have hC := X _ _ lk
  repeat (first
    | with_reducible exact wpAny_loadPart_at hC ‹_›
    | with_reducible refine wpAny_loadPart_at hC ?_
    | with_reducible refine wpAny_madeBy_exc hC ?_
    | wp_step)
  refine codeAny_call_builtin_code (Code.quiet_builtin _ F.quiet) (wpAny_check_new_subU F F.hasB OT hC ?_)
  refine codeAny_exc_new_subU F F.hasB F OT hC ?_ hz
  show wpAny _ _ _ _ _ _
  generalize hg1 : h.push { cls := .type "tuple", data := .seq us.toArray } = h1
  have z1 : h1.objs.size = h.objs.size + 1 := by rw [← hg1]; exact Heap.size_push _ _
  have k1' : ∀ b o, h.get? b = some o → h1.get? b = some o := fun b o e => by rw [← hg1]; exact Heap.get?_push_of_some _ e
  generalize hg2 : h1.push { cls := .ref C, data := .fields #[.ref h.objs.size, .none, .none, .none, .bool false, .none] } = h2
  have k2' : ∀ b o, h1.get? b = some o → h2.get? b = some o := fun b o e => by rw [← hg2]; exact Heap.get?_push_of_some _ e
  have X2 : K.In h2 := X.keeps fun b o e => k2' b o (k1' b o e)
  have hC2 := X2 _ _ lk
  have he : h2.get? (h.objs.size + 1) = some { cls := .ref C, data := .fields #[.ref h.objs.size, .none, .none, .none, .bool false, .none] } := by
    rw [← hg2, ← z1]; exact Heap.get?_push_size _ rfl
  have ht : h2.get? h.objs.size = some { cls := .type "tuple", data := .seq us.toArray } := k2' _ _ (by rw [← hg1]; exact Heap.get?_push_size _ rfl)
  have hcC : (Value.ref C :: Value.ref T :: bmV).contains (.ref C) = true := by simp
  unfold isInstance
  repeat (first | with_reducible refine wpAny_loadPart_at he ?_ | (with_reducible refine wpAny_isSubtype_exc hC2 ?_; rw [hcC]) | wp_step)
  refine (PySem.W.looks_findIn X2 x.init).at (wpAny_holding ?_)
  refine wpAny_bind ?_
  unfold bindSpecial
  refine wpAny_bind ((PySem.W.looks_typeIn X2 (beq_iff_eq.mp x.fn)).at ?_)
  rw [if_pos (by decide)]
  refine wpAny_pure (wpAny_bind (wpAny_mono (hq h2 (h.objs.size + 1) ⟨fun b o e => k2' b o (k1' b o e), Heap.get?_none_of_le (Nat.le_succ _), h.objs.size, he, Heap.get?_none_of_le (Nat.le_refl _), ht⟩ (Nat.le_succ _)) (fun r s' hr => ?_) fun _ _ z => z))
  obtain ⟨rfl, hQ⟩ := hr
  wp_walk
  exact hQ
theorem exc_call (x : ExC K C T fI) (X : K.In h) {us : List Value} {Q : Value → Shared → Prop}
    (hq : ∀ h' e, Heap.MadeExcOf h h' e (.ref C) us → h.objs.size ≤ e → wpAny (model prog w) (A.under (.builtin "type.__call__" ⟨.ref C :: us, []⟩)) (call (.ref fI) (.ref e :: us)) (fun r s' => r = .none ∧ Q (.ref e) s') E ⟨h', g, d, t, os⟩) (hz : us.length ≤ sizeLine) :
    wpAny (model prog w) A (call (.ref C) us) Q E ⟨h, g, d, t, os⟩ := by
  obtain ⟨nm, q, N, bs, hdct, sn, sub, ab, col, dd, k0, k1, k2, k3, k5, lk⟩ := x.cls
  have hC := X _ _ lk
  have f1 := tc_lookup
  have f2 := tc_bind (.ref C)
  have ty : Shared.TypeIs ⟨h, g, d, t, os⟩ (.ref C) "type" := ⟨_, hC, rfl⟩
  refine wpAny_call ?_
  refine codeAny_of_tree ?_
  show wpAny (model prog w) _ (callAny (.ref C) _) _ _ _
  repeat (any_goals (first
    | assumption
    | with_reducible refine wpAny_loadPart_at hC ?_
    | wp_step))
  refine ⟨rfl, ?_⟩
  exact codeAny_call_builtin_at (Code.quiet_builtin _ (by decide +kernel)) entry_typeCall (wpAny_check_type_call_sub hC (exc_tc x X hq hz))
end
end L2

set_option Elab.async false
set_option linter.all false
set_option maxRecDepth 100000
namespace L2
open PySem PySem.Spec PyProof.Rows PySem.Builtin.ObjectAttr

def tbV (tb : Option Addr) : Value := match tb with | none => .none | some b => .ref b
def ExAt (C e : Addr) (dx ar tb : Option Addr) (h : Heap) : Prop := ∃ (o : Obj) (vs : Array Value), h.get? e = some o ∧ o.cls = .ref C ∧ o.dict = dx ∧ o.data = .fields vs ∧ 0 < vs.size ∧ (∀ t, ar = some t → vs[0]? = some (.ref t)) ∧ vs[1]? = some (tbV tb)
def ExO (C e : Addr) (dx ar tb : Option Addr) : HO := .ext (ExAt C e dx ar tb)
def XdAt (a : Addr) (fs : List (Str × V)) (h : Heap) : Prop := fs.length ≤ 1000 ∧ ∃ mA, h.Ns1 a mA ∧ (∀ f, RelO (fs.lookup f) (mA f)) ∧ PySem.Within mA (fs.map (·.1))
def XdO (a : Addr) (fs : List (Str × V)) : HO := .ext (XdAt a fs)
theorem ExAt.stay {C e : Addr} {dx ar tb : Option Addr} {h h' : Heap} (x : ExAt C e dx ar tb h) (k : ∀ o, h.get? e = some o → h'.get? e = some o) : ExAt C e dx ar tb h' :=
  let ⟨o, vs, e1, r⟩ := x; ⟨o, vs, k o e1, r⟩
theorem XdAt.stay {a : Addr} {fs : List (Str × V)} {h h' : Heap} (x : XdAt a fs h) (k : ∀ o, h.get? a = some o → h'.get? a = some o) : XdAt a fs h' :=
  let ⟨z, mA, hn, r⟩ := x; ⟨z, mA, hn.at k, r⟩
section
variable {P : Program} {w : World} {H : Hp} {h : Heap}
theorem exO_ok {C e : Addr} {dx ar tb : Option Addr} (x : ExAt C e dx ar tb h) : ObjOk P w H h e (ExO C e dx ar tb) := by
  refine ⟨x, ?_, fun h1 h2 q k => q.stay k⟩
  obtain ⟨o, _, e1, _⟩ := x
  exact ⟨o, e1⟩
theorem xdO_ok {a : Addr} {fs : List (Str × V)} (x : XdAt a fs h) : ObjOk P w H h a (XdO a fs) := by
  refine ⟨x, ?_, fun h1 h2 q k => q.stay k⟩
  obtain ⟨_, _, ⟨o, _, _, e, _⟩, _⟩ := x
  exact ⟨o, e⟩
end
structure ExF (K : PySem.W.Frag) (C T fI : Addr) : Prop extends ExC K C T fI where
  hd : PySem.W.hasDictIn K C = true
  sa : PySem.W.findIn K (.ref C) "__setattr__" = some (some (.builtin "object.__setattr__"))

section
variable {X : Cx} {pins : List (Addr × Obj)} {σ : St} {H : Hp} {s : Shared} {C T fI e : Addr} {A : Around} {E : Value → Shared → Prop}
theorem ex_get {dx ar tb : Option Addr} (I : Inv X pins σ H s) (he : H e = some (ExO C e dx ar tb)) : ExAt C e dx ar tb s.heap := (I.hok e _ he).1

structure BaseInit (K : PySem.W.Frag) (T : Addr) : Prop where
  ga : PySem.W.specialIn K (.ref T) "__getattribute__" = some (some (.builtin "type.__getattribute__"))
  rd : PySem.W.readsIn K T (.type "type") = true
  at_ : PySem.W.findCls K (.ref T) (.type "type") "__init__" = some (.val (.builtin "ValueError.__init__"))
theorem init_text {dx ar tb : Option Addr} {us : List Value} {rest : List V} {Q : Value → Shared → Prop} (x : ExF X.K C T fI) (I : Inv X pins σ H s) (he : H e = some (ExO C e dx ar tb)) (rv : Vals rest us) (hz : us.length ≤ sizeLine)
    (hq : ∀ t s', H t = none → t ≠ e → Inv X pins σ (upd (upd H t (.tup rest)) e (ExO C e dx (some t) tb)) s' → Q .none s') : wpAny (model X.prog X.w) A (call (.builtin "ValueError.__init__") (.ref e :: us)) Q E s := by
  have F := PySem.F.excBase_ValueError
  have OT := x.tail I.kIn
  obtain ⟨nm, q, N, bs, hdct, sn, sub, ab, col, dd, k0, k1, k2, k3, k5, lk⟩ := x.cls
  have hC := I.kIn _ _ lk
  obtain ⟨o, vs, e1, e2, e3, e4, e5, e6, eT⟩ := ex_get I he
  rcases s with ⟨hp, g, d, tk, os⟩
  refine wpAny_call (codeAny_call_builtin F.init.plain F.initEntry (wpAny_check_init_subU F OT hC e1 e2 ?_))
  show wpAny _ _ (Builtin.«BaseException.__init__» ⟨.ref e :: us, []⟩) _ _ _
  delta Builtin.«BaseException.__init__»
  dsimp only
  rw [if_neg (by simp)]
  unfold Builtin.BaseException.bexcPut newTuple
  have h0 : vs[0]? = some vs[0] := by simp [e5]
  have e1' := Heap.get?_push_of_some (h := hp) { cls := .type "tuple", data := .seq us.toArray } e1
  refine wpAny_bind (wpAny_newObj_type (wpAny_bind (wpAny_bind (wpAny_field e1' e4 h0 (wpAny_bind (wpAny_setField e1' e4 e5 ?_))))) hz)
  have nt : hp.objs.size ≠ e := Nat.ne_of_gt (Heap.lt_size e1)
  have ft : H hp.objs.size = none := I.hok.fresh (Nat.le_refl _)
  have key : Inv X pins σ (upd (upd H hp.objs.size (.tup rest)) e (ExO C e dx (some hp.objs.size) tb)) ⟨(hp.push { cls := .type "tuple", data := .seq us.toArray }).update e (Obj.mapFields (·.setIfInBounds 0 (.ref hp.objs.size))), g, d, tk, os⟩ := by
    have I1 := I.laid (a := hp.objs.size) (o := .tup rest) (h' := hp.push { cls := .type "tuple", data := .seq us.toArray }) (t' := tk) (fun b o q => Heap.get?_push_of_some _ q) (Nat.le_refl _) ⟨by rw [rv.length]; exact hz, _, rv, (by first | exact ⟨IsTup.new _ _, tup_nodict⟩ | exact IsTup.new _ _)⟩
    have e7 : ((hp.push { cls := .type "tuple", data := .seq us.toArray }).update e (Obj.mapFields (·.setIfInBounds 0 (.ref hp.objs.size)))).get? e = some (Obj.mapFields (·.setIfInBounds 0 (.ref hp.objs.size)) o) :=
      Heap.get?_update_self _ e1' (Obj.isFreed_of_fields (Obj.data_mapFields e4 _))
    refine I1.write (x := e) (e := e) (t' := tk) (by rw [upd_ne (Ne.symm nt), he]; trivial) (.inl rfl) (fun b u hb q => (Heap.get?_update_other _ _ (Ne.symm hb)).trans q) ⟨_, e7⟩ (exO_ok ⟨_, _, e7, (Obj.cls_mapFields ..).trans e2, ?_, Obj.data_mapFields e4 _, by simpa using e5, fun t ht => ?_, by rw [Array.getElem?_setIfInBounds_ne (by decide)]; exact eT⟩)
    · have : (Obj.mapFields (·.setIfInBounds 0 (.ref hp.objs.size)) o).dict = o.dict := by
        rcases o with ⟨oc, od, odt, osl⟩
        cases (show odt = _ from e4)
        rfl
      rw [this, e3]
    · cases ht
      simp [e5]
  have fin : wpAny (model X.prog X.w) A.in1 (ret Value.none) (fun fin s' => match fin with
      | Fin.done f => match (Except.ok f : Result) with
        | Except.ok (Flow.ret v) => Q v s'
        | Except.ok a => False
        | Except.error e => E e s'
      | Fin.again c' => c'.quiet = true ∧ codeAny (model X.prog X.w) A c' (fun r s' => match r with
        | Except.ok (Flow.ret v) => Q v s'
        | Except.ok a => False
        | Except.error e => E e s') s') (fun e s' => E e s') _ := wpAny_pure (hq _ _ ft nt key)
  cases vs[0] <;> first
    | exact wpAny_letGo fin
    | exact wpAny_pure fin

theorem exc_refuse (self : Value) : refuseLoop self "__setattr__" (.ref C :: .ref T :: bmV) = pure () := by
  rw [refuseLoop_ref, refuseLoop_ref]
  first
    | kernel_rfl
    | rfl
theorem exset_ok {ar tb : Option Addr} {f : Str} {y : V} {u : Value} {Q : Unit → Shared → Prop} (x : ExF X.K C T fI) (I : Inv X pins σ H s) (he : H e = some (ExO C e none ar tb)) (n : NoAttr X.K C f) (ry : RelV y u)
    (hq : ∀ dx s', H dx = none → dx ≠ e → Inv X pins σ (upd (upd H dx (XdO dx [(f, y)])) e (ExO C e (some dx) ar tb)) s' → Q () s') : wpAny (model X.prog X.w) A (setAttr (.ref e) f u) Q E s := by
  obtain ⟨o, vs, e1, e2, e3, e4, e5, e6, eT⟩ := ex_get I he
  have J : PySem.W.InstAt s.heap e o C none := ⟨e1, e2, by unfold PySem.W.notCls; rw [e4], by rw [e3]; trivial⟩
  refine PySem.W.set_plain I.kIn J x.sa ?_
  have SF : _ := PySem.F.store_object
  obtain ⟨cd, hc, hd'⟩ := PySem.W.any_some x.hd
  obtain ⟨nm, q, N, bs, hdct, sn, sub, ab, col, dd, k0, k1, k2, k3, k5, lk⟩ := x.cls
  have hcd : cd.mro = .ref C :: .ref T :: bmV := by
    unfold PySem.W.clsIn at hc
    rw [lk] at hc
    cases hc
    rfl
  have hm : PySem.W.Looks (model X.prog X.w) s.heap (mroOf (.ref C)) cd.mro := (PySem.W.looks_clsIn I.kIn hc).andThen .now
  have sub : PySem.W.Looks (model X.prog X.w) s.heap (isInstance (.ref e) (.type "object")) true :=
    J.type.andThen (PySem.W.looks_mroIn I.kIn (by unfold PySem.W.mroIn; rw [hc, Option.bind_some, hcd]; rfl))
  have hat := PySem.W.looks_findIn (M := model X.prog X.w) I.kIn (show PySem.W.findIn X.K (.ref C) f = some none from n)
  refine codeAny_call_builtin SF.slot.plain SF.entry (@PySem.W.check_slot (model X.prog X.w) _ _ { s with toks := s.toks + 1 } "object.__setattr__" "object" "__setattr__" (.ref e) [.str f s.toks, u] [] _ SF.kind SF.split sub (SF.args (.ref e) (.str f s.toks) u) ?_)
  rw [PySem.W.osa_eq, refuse_eq]
  refine wpAny_bind (wpAny_bind (PySem.W.Looks.here (s := { s with toks := s.toks + 1 }) J.type (wpAny_bind (PySem.W.Looks.here (s := { s with toks := s.toks + 1 }) hm ?_))))
  rw [hcd, exc_refuse]
  refine wpAny_pure (wpAny_bind (PySem.W.Looks.here (s := { s with toks := s.toks + 1 }) J.type (wpAny_bind (PySem.W.Looks.here (s := { s with toks := s.toks + 1 }) hat (wpAny_bind (wpAny_pure ?_))))))
  show wpAny _ _ (storeInOwnDict (.ref e) (.ref C) (.str f s.toks) f u false) _ _ _
  have e1b : s.heap.get? e = some ⟨.ref C, none, .fields vs, o.slots⟩ := by
    rcases o with ⟨oc, od, odt, osl⟩
    cases (show oc = _ from e2)
    cases (show od = _ from e3)
    cases (show odt = _ from e4)
    exact e1
  unfold storeInOwnDict
  refine wpAny_bind (wpAny_pure ?_)
  dsimp only
  rw [if_neg (by intro z; cases z)]
  refine wpAny_bind ?_
  unfold ownDictForStores instanceDict
  refine wpAny_bind (wpAny_loadPart (s := { s with toks := s.toks + 1 }) e1b ?_)
  dsimp only
  refine wpAny_bind (PySem.W.Looks.here (s := { s with toks := s.toks + 1 }) (PySem.W.looks_clsIn I.kIn hc) ?_)
  rw [hd', if_neg (by decide), if_neg (show ¬ (!true || !typeHasDict (.ref C)) = true from Bool.false_ne_true)]
  have nd : s.heap.objs.size ≠ e := Nat.ne_of_gt (Heap.lt_size e1)
  refine wpAny_bind (wpAny_alloc (wpAny_bind (wpAny_update (Heap.get?_push_of_some _ e1b) (wpAny_pure ?_))))
  show wpAny _ _ (storeInDict s.heap.objs.size (.str f s.toks) f u) _ _ _
  generalize hg1 : s.heap.push { cls := .type "dict", data := .dict #[] } = g1
  have p1 : ∀ b o, s.heap.get? b = some o → g1.get? b = some o := fun b o q => by rw [← hg1]; exact Heap.get?_push_of_some _ q
  have q1 : g1.get? s.heap.objs.size = some { cls := .type "dict", data := .dict #[] } := by rw [← hg1]; exact Heap.get?_push_size _ rfl
  have z1 : g1.objs.size = s.heap.objs.size + 1 := by rw [← hg1]; exact Heap.size_push _ _
  generalize hg2 : g1.update e (fun o => { cls := o.cls, dict := some s.heap.objs.size, data := o.data, slots := o.slots }) = g2
  have q2 : g2.get? s.heap.objs.size = some { cls := .type "dict", data := .dict #[] } := by rw [← hg2, Heap.get?_update_other _ _ (Ne.symm nd)]; exact q1
  have q2e : g2.get? e = some ⟨.ref C, some s.heap.objs.size, .fields vs, o.slots⟩ := by rw [← hg2, Heap.get?_update_self _ (p1 _ _ e1b) rfl]
  have q2o : ∀ b, b ≠ e → g2.get? b = g1.get? b := fun b hb => by rw [← hg2]; exact Heap.get?_update_other _ _ (Ne.symm hb)
  have n2 : g2.Ns s.heap.objs.size (fun _ => none) := ⟨_, #[], _, q2, rfl, (fun e he => absurd he (by simp)), fun _ => rfl⟩
  unfold storeInDict
  refine wpAny_bind (wpAny_pure (wpAny_bind (wpAny_nsSet1 (s := ⟨g2, s.gens, s.drawn, s.toks + 1, s.os⟩) (Heap.Ns1.of_empty n2) fun h3 hn3 hs3 => ?_)))
  have wi : PySem.Within (fun z => if z = f then some u else none) [f] := fun z hz => by
    by_cases q : z = f
    · simp [q]
    · exact absurd (if_neg q) hz
  obtain ⟨oD, esD, epD, hoD, hdD, hcD⟩ := hn3.count wi
  refine wpAny_bind (wpAny_lookBehind hoD (by rw [hdD]; exact pastItsLine_dict (Nat.le_trans hcD (by rw [sizeLine_eq, List.length_singleton]; decide))) ?_)
  refine wpAny_pure (hq s.heap.objs.size _ (I.hok.fresh (Nat.le_refl _)) nd ?_)
  -- the dict first, with what it holds; then the error that has it
  have kA : (s.heap.push oD).get? s.heap.objs.size = some oD := Heap.get?_push_size _ (Obj.isFreed_of_dict hdD)
  have I1 := I.laid (a := s.heap.objs.size) (o := XdO s.heap.objs.size [(f, y)]) (h' := s.heap.push oD) (t' := s.toks + 1 + 1) (fun b u q => Heap.get?_push_of_some _ q) (Nat.le_refl _)
    (xdO_ok ⟨Nat.le_of_ble_eq_true rfl, _, hn3.at fun o q => by rw [hoD] at q; cases q; exact kA, fun z => ?_, wi⟩)
  · refine I1.write (x := e) (e := e) (t' := s.toks + 1 + 1) (by rw [upd_ne (Ne.symm nd), he]; trivial) (.inl rfl) (fun b v hb q => ?_) ⟨_, hs3.extBut _ _ (Ne.symm nd) q2e⟩ (exO_ok ⟨_, vs, hs3.extBut _ _ (Ne.symm nd) q2e, rfl, rfl, rfl, e5, e6, eT⟩)
    by_cases hbd : b = s.heap.objs.size
    · subst hbd
      rw [kA] at q
      cases q
      exact hoD
    · have hlt : b < s.heap.objs.size := by
        have z := Heap.lt_size q
        have z2 : (s.heap.push oD).objs.size = s.heap.objs.size + 1 := Heap.size_push _ _
        have z3 : b < s.heap.objs.size + 1 := by rw [← z2]; exact z
        exact Nat.lt_of_le_of_ne (Nat.le_of_lt_succ z3) hbd
      have q' : s.heap.get? b = some v := by
        obtain ⟨a1, a2⟩ := Heap.get?_some_iff.mp q
        refine Heap.get?_some_iff.mpr ⟨?_, a2⟩
        have : (s.heap.objs.push oD)[b]? = some v := a1
        rw [Array.getElem?_push_lt hlt] at this
        simpa [hlt] using this
      exact hs3.extBut _ _ hbd (by rw [q2o b hb]; exact p1 _ _ q')
  · show RelO ([(f, y)].lookup z) (if z = f then some u else none)
    by_cases q : z = f
    · subst q
      rw [if_pos rfl, List.lookup_cons]
      simp
      exact ry
    · rw [if_neg q, List.lookup_cons]
      have : (z == f) = false := beq_eq_false_iff_ne.mpr q
      rw [this]
      trivial
theorem exget_ok {dx : Addr} {ar tb : Option Addr} {fs : List (Str × V)} {f : Str} {y : V} {b : Bool} {Q : Value → Shared → Prop} (g : PySem.W.hasDictIn X.K C = true) (I : Inv X pins σ H s) (he : H e = some (ExO C e (some dx) ar tb)) (hx : H dx = some (XdO dx fs)) (n : NoAttr X.K C f)
    (l : fs.lookup f = some y) (ga : ∀ {o : Obj} {od : Option Obj} {v : Value}, PySem.W.InstAt s.heap e o C od → PySem.W.findObj X.K C od f = some (.value v) → PySem.W.handedIn v = true → Q v { s with toks := s.toks + 1 } → wpAny (model X.prog X.w) A (getAttr (.ref e) f b) Q E s)
    (hq : ∀ u s', Inv X pins σ H s' → RelV y u → Q u s') : wpAny (model X.prog X.w) A (getAttr (.ref e) f b) Q E s := by
  obtain ⟨o, vs, e1, e2, e3, e4, e5, e6, eT⟩ := ex_get I he
  obtain ⟨hzl, mA, hn, rA, wA⟩ := (show XdAt dx fs s.heap from (I.hok dx _ hx).1)
  obtain ⟨oD, q, hl⟩ := lookIn_ns hn
  obtain ⟨u, hu, ru⟩ := RelO.some_of (v := y) (o := mA f) (by rw [← l]; exact rA f)
  exact ga ⟨e1, e2, by unfold PySem.W.notCls; rw [e4], by rw [e3]; exact q⟩ (PySem.W.findObj_own g n rfl (by rw [hl, hu])) (handed_of ru) (hq u _ (I.tok _) ru)
end
end L2

set_option Elab.async false
set_option linter.all false
set_option maxRecDepth 100000
namespace L2
open PySem PySem.Spec PyProof.Rows PySem.Builtin.ObjectAttr

structure ExG (K : PySem.W.Frag) (C : Addr) : Prop where
  ga : PySem.W.findIn K (.ref C) "__getattribute__" = some (some (.builtin "BaseException.__getattribute__"))
  no : PySem.W.findIn K (.ref C) "__getattr__" = some none
  be : PySem.W.mroIn K C (.type "BaseException") = some true
  hd : PySem.W.hasDictIn K C = true
  ca : PySem.W.findIn K (.ref C) "__class__" = some (some (.builtin "object.__class__"))
  cn : PySem.W.specialIn K (.builtin "object.__class__") "__get__" = some (some (.builtin "getset_descriptor.__get__"))
  ct : PySem.W.takesIn K (.builtin "object.__class__") = some true
  ob : PySem.W.mroIn K C (.type "object") = some true
  ki : PySem.W.subIn K (.ref C) (.type "int") = some false
  kb : PySem.W.subIn K (.ref C) (.type "bool") = some false
  kl : PySem.W.subIn K (.ref C) (.type "list") = some false
  kt : PySem.W.subIn K (.ref C) (.type "tuple") = some false
def foundRun (r : Found) (e C : Addr) (name : Str) : Sem PySem.Fin := match r with
  | .value v => ret v
  | .bind g a => bindTo g a (.ref e) (.ref C)
  | .missing => noSuchAttribute (.ref e) name
section
variable {prog : Program} {w : World} {A : Around} {E : Value → Shared → Prop} {s : Shared} {K : PySem.W.Frag} {e C : Addr} {o : Obj} {od : Option Obj} {name : Str}
theorem exga_by {fill expr : Bool} {tk : Tok} {r : Found} {Q : Value → Shared → Prop} (x : ExG K C) (X : K.In s.heap) (I : PySem.W.InstAt s.heap e o C od) (hf : PySem.W.findObj K C od name = some r) (hr : r ≠ .missing)
    (h : wpAny (model prog w) A.in1 (foundRun r e C name) (fun fin s' => match fin with | .done (.ret v) => wpAny (model prog w) A (handedOut v) Q E s' | _ => False) (fun _ _ => False) s) :
    wpAny (model prog w) A (getAttrBy (.ref e) (.str name tk) fill expr) Q E s := by
  have SL := PySem.F.attr_ValueError.ga
  unfold getAttrBy
  refine wpAny_holding (wpAny_bind (I.type.here (wpAny_bind ((PySem.W.looks_findIn X x.ga).here ?_))))
  dsimp only
  rw [if_neg (by rw [show (Value.builtin "BaseException.__getattribute__" == Value.builtin "object.__getattribute__") = false from by decide +kernel, Bool.and_false]; decide)]
  unfold getAttrByItsOwn
  refine wpAny_bind ((PySem.W.looks_hook (mc := .ref C) X (r := none) (by rw [if_pos (by rfl)]; exact x.no)).here (wpAny_bind (wpAny_attempt (wpAny_holding ?_))))
  unfold callGetattribute
  rw [if_neg (by rw [show onTheHeap (Value.builtin "BaseException.__getattribute__") = false from rfl, Bool.and_false]; decide)]
  unfold boundAndCalled
  rw [SL.bind]
  refine wpAny_bind (wpAny_pure ?_)
  show wpAny _ _ (call (.builtin "BaseException.__getattribute__") [.ref e, .str name tk]) _ _ _
  refine wpAny_call (codeAny_call_builtin SL.plain PySem.F.entry_bexc_ga ?_)
  refine @PySem.W.check_slot (model prog w) _ _ s "BaseException.__getattribute__" "BaseException" "__getattribute__" (.ref e) [.str name tk] [] _ (by decide +kernel) (by decide +kernel) (I.type.andThen (PySem.W.looks_mroIn X x.be)) (PySem.F.args_bexc_ga (.ref e) (.str name tk)) ?_
  delta Builtin.«object.__getattribute__»
  refine wpAny_bind (wpAny_pure (wpAny_bind (wpAny_pure (wpAny_bind (I.type.here (wpAny_bind ((PySem.W.looks_find X I hf).here ?_)))))))
  refine wpAny_mono (show wpAny (model prog w) A.in1 _ (fun fin s' => match fin with | .done (.ret v) => wpAny (model prog w) A (handedOut v) Q E s' | _ => False) (fun _ _ => False) s from ?_) (fun fin s' z => ?_) fun _ _ z => z.elim
  · cases r with
    | value v => exact h
    | bind g a => exact h
    | missing => exact absurd rfl hr
  · rcases fin with (_ | _ | _ | _) | _ <;> first | exact z | exact z.elim
theorem exga_value {v : Value} {expr : Bool} {Q : Value → Shared → Prop} (x : ExG K C) (X : K.In s.heap) (I : PySem.W.InstAt s.heap e o C od) (hf : PySem.W.findObj K C od name = some (.value v)) (hh : PySem.W.handedIn v = true)
    (h : Q v { s with toks := s.toks + 1 }) : wpAny (model prog w) A (getAttr (.ref e) name expr) Q E s := by
  unfold getAttr
  refine wpAny_bind (wpAny_mkText (exga_by (s := { s with toks := s.toks + 1 }) x X I hf (fun z => nomatch z) (wpAny_pure ?_)))
  show wpAny (model prog w) _ (handedOut v) _ _ _
  rw [PySem.W.handedOut_of hh]
  exact wpAny_pure h
theorem exga_class {Q : Option Value → Shared → Prop} (x : ExG K C) (X : K.In s.heap) (I : PySem.W.InstAt s.heap e o C od) (h : Q (some (.ref C)) { s with toks := s.toks + 1 }) : wpAny (model prog w) A (getAttr? (.ref e) "__class__") Q E s := by
  have hf : PySem.W.findObj K C od "__class__" = some (.bind (.builtin "getset_descriptor.__get__") (.builtin "object.__class__")) := by
    obtain ⟨cd, hc, _⟩ := PySem.W.any_some x.hd
    unfold PySem.W.findObj
    rw [hc, Option.bind_some, x.ca, Option.bind_some]
    simp [x.cn, x.ct]
  unfold getAttr? getAttrBy?
  refine wpAny_bind (wpAny_mkText (wpAny_bind (wpAny_attempt (exga_by (s := { s with toks := s.toks + 1 }) x X I hf (fun z => nomatch z) ?_))))
  show wpAny _ _ (holding [.builtin "object.__class__"] (call (.builtin "getset_descriptor.__get__") [.builtin "object.__class__", .ref e, .ref C]) >>= ret) _ _ _
  refine wpAny_bind (wpAny_holding (wpAny_call (PySem.W.class_get (s := { s with toks := s.toks + 1 }) X I x.ob ?_)))
  refine wpAny_pure ?_
  show wpAny _ _ (handedOut (.ref C)) _ _ _
  rw [PySem.W.handedOut_of rfl]
  refine wpAny_pure ?_
  exact wpAny_pure h
theorem kitx_exc {dx ar tb : Option Addr} (x : ExG K C) : PySem.W.KitX K (.ref e) (.ref C) (fun h => ExAt C e dx ar tb h ∧ ∀ d, dx = some d → ∃ oD, h.get? d = some oD) where
  ty := fun _ h X p => by
    obtain ⟨⟨o, vs, e1, e2, _⟩, _⟩ := p
    exact e2 ▸ (PySem.W.Looks.ld e1).andThen .now
  it := fun _ _ X _ => by
    obtain ⟨cdD, hcD, _⟩ := PySem.W.any_some x.hd
    unfold PySem.W.clsIn at hcD
    split at hcD
    · rename_i c' d' cd' sl' ho
      intro A' Q' E' s' k q
      have hk := k _ _ (X _ _ ho)
      unfold isType loadHead
      exact wpAny_bind (wpAny_loadPart hk (wpAny_pure q))
    · cases hcD
  ne := fun _ tp _ _ _ _ X htp => by
    obtain ⟨cdD, hcD, _⟩ := PySem.W.any_some x.hd
    by_cases z : C = tp
    case neg => exact Bool.eq_false_iff.mpr (fun q => z (Value.ref.inj (beq_iff_eq.mp q)))
    subst z
    unfold PySem.W.clsIn at hcD
    split at hcD
    · rename_i c' d' cd' sl' ho
      exact nomatch (X _ _ ho).symm.trans htp
    · cases hcD
  ca := fun X p k => by
    obtain ⟨⟨o, vs, e1, e2, e3, e4, _⟩, hD⟩ := p
    cases dx with
    | none => exact exga_class (od := none) x X ⟨e1, e2, by unfold PySem.W.notCls; rw [e4], by rw [e3]; trivial⟩ k
    | some d =>
      obtain ⟨oD, q⟩ := hD d rfl
      exact exga_class (od := some oD) x X ⟨e1, e2, by unfold PySem.W.notCls; rw [e4], by rw [e3]; exact q⟩ k
end
end L2

set_option Elab.async false
set_option linter.all false
set_option maxRecDepth 100000
namespace L2
open PySem PySem.Spec PyProof.Rows

inductive Thg (K : PySem.W.Frag) (H : Hp) : V → Value → Prop where
  | non : Thg K H .non (.type "NoneType")
  | bl (x : Bool) : Thg K H (.bl x) (.type "bool")
  | int (i : Int) : Thg K H (.int i) (.type "int")
  | str (x : Str) : Thg K H (.str x) (.type "str")
  | lst {a : Addr} {xs : List V} (e : H a = some (.lst xs)) : Thg K H (.ref a) (.type "list")
  | frz {a : Addr} {o : Obj} {xs : List V} (e : H a = some (.frz o (.lst xs))) : Thg K H (.ref a) (.type "list")
  | tup {a : Addr} {xs : List V} (e : H a = some (.tup xs)) : Thg K H (.ref a) (.type "tuple")
  | dK {a : Addr} {kvs : List (Key × V)} (e : H a = some (.dK kvs)) : Thg K H (.ref a) (.type "dict")
  | exc {a C : Addr} {dx : Addr} {ar tb : Option Addr} {u : HO} (e : H a = some (ExO C a (some dx) ar tb)) (d : H dx = some u) (x : ExG K C) : Thg K H (.ref a) (.ref C)
  | exn {a C : Addr} {ar tb : Option Addr} (e : H a = some (ExO C a none ar tb)) (x : ExG K C) : Thg K H (.ref a) (.ref C)
theorem Thg.keep {K : PySem.W.Frag} {H H' : Hp} {v : V} {t : Value} (x : Thg K H v t) (k : ∀ a o, H a = some o → H' a = some o) : Thg K H' v t := by
  cases x with
  | non => exact .non
  | bl x => exact .bl x
  | int i => exact .int i
  | str x => exact .str x
  | lst e => exact .lst (k _ _ e)
  | frz e => exact .frz (k _ _ e)
  | tup e => exact .tup (k _ _ e)
  | dK e => exact .dK (k _ _ e)
  | exc e d x => exact .exc (k _ _ e) (k _ _ d) x
  | exn e x => exact .exn (k _ _ e) x
section
variable {X : Cx} {pins : List (Addr × Obj)} {σ : St} {H : Hp} {s : Shared}
theorem ObjOk.there {P : Program} {w : World} {H : Hp} {h : Heap} {a : Addr} {o : HO} (x : ObjOk P w H h a o) : ∃ ob, h.get? a = some ob := by
  cases o with
  | lst xs => obtain ⟨_, _, _, _, e⟩ := x; exact ⟨_, e⟩
  | tup xs => obtain ⟨_, _, _, ⟨ob, e, _⟩, _⟩ := x; exact ⟨ob, e⟩
  | dK kvs => obtain ⟨_, _, _, _, o, _, _, e, _⟩ := x; exact ⟨o, e⟩
  | dT kvs => obtain ⟨_, _, _, _, o, _, _, e, _⟩ := x; exact ⟨o, e⟩
  | set S n => obtain ⟨o, _, _, _, e, _⟩ := x; exact ⟨o, e⟩
  | ins C dx fs => obtain ⟨_, _, _, e, _⟩ := x; exact ⟨_, e⟩
  | own y => exact x
  | xd fs => obtain ⟨_, ⟨o, _, _, e, _⟩, _⟩ := x; exact ⟨o, e⟩
  | rng lo hi => obtain ⟨_, _, _, e⟩ := x; exact ⟨_, e⟩
  | frz ob u => obtain ⟨e, _⟩ := x; exact ⟨ob, e⟩
  | tbl ps => exact ⟨_, x⟩
  | met f y => exact ⟨_, x⟩
  | ext φ => exact x.2.1
theorem Thg.kit {v : V} {u t : Value} (I : Inv X pins σ H s) (r : RelV v u) (x : Thg X.K H v t) : u ≠ .builtin "__main__.__loader__#opaque" ∧ ∃ φ, PySem.W.KitX X.K u t φ ∧ φ s.heap := by
  cases x with
  | non => cases (show u = Value.none from r); exact ⟨(fun z => nomatch z), _, PySem.W.kitx_none, True.intro⟩
  | bl y => cases (show u = Value.bool y from r); exact ⟨(fun z => nomatch z), _, PySem.W.kitx_bool, True.intro⟩
  | int i => obtain ⟨t, q⟩ := (show ∃ t, u = Value.int i t from r); cases q; exact ⟨(fun z => nomatch z), _, PySem.W.kitx_int, True.intro⟩
  | str y => obtain ⟨t, q⟩ := (show ∃ t, u = Value.str y t from r); cases q; exact ⟨(fun z => nomatch z), _, PySem.W.kitx_str, True.intro⟩
  | @lst a xs ea =>
    cases (show u = Value.ref a from r)
    obtain ⟨_, _, n, _, h1⟩ := (show ObjOk X.prog X.w H s.heap a (.lst xs) from I.hok a _ ea)
    exact ⟨(fun z => nomatch z), _, PySem.W.kitx_list, ⟨_, h1, rfl⟩⟩
  | @frz a ob xs ea =>
    cases (show u = Value.ref a from r)
    obtain ⟨_, _, _, n, _, h1⟩ := (show ObjOk X.prog X.w H s.heap a (.frz ob (.lst xs)) from I.hok a _ ea)
    exact ⟨(fun z => nomatch z), _, PySem.W.kitx_list, ⟨_, h1, rfl⟩⟩
  | @tup a xs ea =>
    cases (show u = Value.ref a from r)
    obtain ⟨_, _, _, p, _⟩ := (show ObjOk X.prog X.w H s.heap a (.tup xs) from I.hok a _ ea)
    obtain ⟨o, h1, h2, _⟩ := p
    exact ⟨(fun z => nomatch z), _, PySem.W.kitx_tuple, ⟨o, h1, h2⟩⟩
  | @dK a kvs ea =>
    cases (show u = Value.ref a from r)
    obtain ⟨_, _, vs, _, p⟩ := (show ObjOk X.prog X.w H s.heap a (.dK kvs) from I.hok a _ ea)
    obtain ⟨o, es, ep, h1, h2, _⟩ := p
    exact ⟨(fun z => nomatch z), _, PySem.W.kitx_dict, ⟨o, h1, h2.1⟩⟩
  | @exc a C dx ar tb w ea ed x =>
    cases (show u = Value.ref a from r)
    refine ⟨(fun z => nomatch z), _, kitx_exc (dx := some dx) x, (I.hok a _ ea).1, fun d hd => ?_⟩
    cases hd
    exact (I.hok dx _ ed).there
  | @exn a C ar tb ea x =>
    cases (show u = Value.ref a from r)
    exact ⟨(fun z => nomatch z), _, kitx_exc (dx := none) x, (I.hok a _ ea).1, fun d hd => nomatch hd⟩
def vOf : V → Value
  | .ty n => .type n
  | .ref a => .ref a
  | _ => .none
theorem vals_vOf : ∀ {cs : List V} {us : List Value}, Vals cs us → (∀ c ∈ cs, (∃ n, c = .ty n) ∨ ∃ a, c = .ref a) → us = cs.map vOf
  | _, _, .nil, _ => rfl
  | c :: cs, u :: us, .cons r t, h => by
    rw [List.map_cons, vals_vOf t fun c hc => h c (List.mem_cons_of_mem _ hc)]
    rcases h c List.mem_cons_self with ⟨n, rfl⟩ | ⟨a, rfl⟩
    · cases (show u = Value.type n from r); rfl
    · cases (show u = Value.ref a from r); rfl
def rInst (K : PySem.W.Frag) : List V → Hp → VK → Prop := fun xs H Q => ∃ v c t b, xs = [v, c] ∧ Thg K H v t ∧
  ((∃ T, c = .ty T ∧ PySem.W.kitOne K t (.type T) = some b) ∨ (∃ C, c = .ref C ∧ PySem.W.kitOne K t (.ref C) = some b) ∨
    ∃ tp cs, c = .ref tp ∧ H tp = some (.tup cs) ∧ (∀ c ∈ cs, (∃ n, c = .ty n) ∨ ∃ a, c = .ref a) ∧ PySem.W.kitAny K t (cs.map vOf) = some b) ∧ Q (.bl b) H
theorem call_inst : CallR X (.builtin "isinstance") (rInst X.K) := by
  intro pins s σ H xs us Q I r h
  obtain ⟨v, c, t, b, rfl, x, hc, q⟩ := h
  obtain ⟨u, u', rfl, ru, ru'⟩ := vals2 r
  obtain ⟨hx, φ, Z, p⟩ := x.kit I ru
  have fin : ∀ tk, EP X pins σ Q (.bool b) { s with toks := tk } := fun tk => ⟨.bl b, H, I.tok tk, rfl, q⟩
  rcases hc with ⟨T, rfl, e⟩ | ⟨C, rfl, e⟩ | ⟨tp, cs, rfl, ht, hcs, e⟩
  · cases (show u' = Value.type T from ru')
    exact PySem.W.kia_one Z I.kIn p e hx fin
  · cases (show u' = Value.ref C from ru')
    exact PySem.W.kia_one Z I.kIn p e hx fin
  · cases (show u' = Value.ref tp from ru')
    obtain ⟨_, its, rv, ⟨o, h1, h2, n, h3⟩, _⟩ := (show ObjOk X.prog X.w H s.heap tp (.tup cs) from I.hok tp _ ht)
    rcases o with ⟨oc, od, odt, osl⟩
    cases (show oc = _ from h2)
    cases (show odt = _ from h3)
    rw [← vals_vOf rv hcs] at e
    exact PySem.W.kia_tup Z I.kIn p h1 e hx fin
end

section
variable {X : Cx} {C T fI : Addr}
def tEx (C : Addr) (sp : Sp) (t : TA) : TE := fun σ H Q => t σ H fun vs H1 => vs.length ≤ sizeLine ∧ ∀ e, H1 e = none → sp (.ref e :: vs) (upd H1 e (ExO C e none none none)) (fun v H2 => v = .non ∧ Q (.ref e) H2) E0
theorem pe_exc {k : Nat} {fd : FuncData} {ps : List Str} {sp : Sp} {x : Str} {p pos : Pos} {e : Expr} {es : List Expr} {t : TA} (M : ExF X.K C T fI) (F : FnOk X.prog X.w X.K X.mg X.base CX0 k fI fd ps sp) (hr : Room (k + 1) X.A) (hg : Gl X x) (hm : X.mg x = some (.ref C))
    (hb : Binds X.K fd ps []) (ha : PA X (e :: es) t) (hdb : (x == ("__debug__" : Str)) = false := by decide) (he : starEach (e :: es) X.env = (false, eval e X.env) :: starEach es X.env := by rfl) (hpl : (backTo pos (starEach es X.env)).any (·.1) = false := by rfl) :
    PE X (.Call (.Name x p) (e :: es) [] pos) (tEx C sp t) := by
  intro pins s σ H Q I h
  refine wpAny_Call_Name_kw (ld_glob I hg hm ?_ hdb)
  refine PySem.W.callWith_K (h₀ := X.base) I.ok.mod.kin M.kp (thn (ha pos pins s σ H _ I h) fun us s1 ⟨vs, H1, I1, r, hz, q⟩ => ⟨I1.kIn, ?_⟩) he hpl
  obtain ⟨hp, g, d, tk, os⟩ := s1
  refine exc_call M.toExC I1.kIn (fun h' e hm hle => ?_) (by rw [List.nil_append, ← r.length]; exact hz)
  obtain ⟨hk, hn, tt, h1, _, h2⟩ := hm
  have I2 : Inv X pins σ (upd H1 e (ExO C e none none none)) ⟨h', g, d, tk, os⟩ := I1.laid (a := e) (o := ExO C e none none none) (h' := h') (t' := tk) hk hle (exO_ok ⟨_, _, h1, rfl, rfl, rfl, by show 0 < 6; decide, (fun t z => nomatch z), rfl⟩)
  have hq := q e (I1.hok.fresh hle)
  have r2 : Vals (V.ref e :: vs) (Value.ref e :: us) := .cons rfl r
  have hl : (Value.ref e :: us ++ []).length = ps.length := by
    have e1 := r2.length
    rw [F.len _ _ _ _ hq] at e1
    rw [List.append_nil]
    exact e1.symm
  have hbb := hb ⟨h', g, d, tk, os⟩ (Value.ref e :: us) I2.kIn hl
  rw [List.append_nil] at hbb
  refine wpAny_call (codeAny_mono (F.run _ X.stack _ _ ⟨Value.ref e :: us, []⟩ (Value.ref e :: us) _ _ E0 (hr.make C us []) (I2.env0.make C us []) hbb r2 hq) fun rr s' hq' => ?_)
  cases rr with
  | error e => exact False.elim hq'
  | ok fl =>
    cases fl with
    | ret u =>
      obtain ⟨v, H', I3, rv, ev, q3⟩ := I2.after hq'
      subst ev
      exact ⟨rv, ⟨V.ref e, H', I3, rfl, q3⟩⟩
    | next => exact False.elim hq'
    | brk => exact False.elim hq'
    | cont => exact False.elim hq'
def tBI (C : Addr) (t : TA) : TE := fun σ H Q => t σ H fun vs H1 => ∃ e dx ar tb rest, vs = .ref e :: rest ∧ rest.length ≤ sizeLine ∧ H1 e = some (ExO C e dx ar tb) ∧ ∀ t, H1 t = none → t ≠ e → Q .non (upd (upd H1 t (.tup rest)) e (ExO C e dx (some t) tb))
theorem pe_baseInit {pl : Sem Bool} {x : Str} {p apos pos : Pos} {e : Expr} {es : List Expr} {t : TA} (M : ExF X.K C T fI) (B : BaseInit X.K T) (hg : Gl X x) (hm : X.mg x = some (.ref T)) (ha : PA X (e :: es) t)
    (hdb : (x == ("__debug__" : Str)) = false := by decide) (he : starEach (e :: es) X.env = (false, eval e X.env) :: starEach es X.env := by rfl) (hpl : (backTo pos (starEach es X.env)).any (·.1) = false := by rfl)
    (ht : eval (.Call (.Attribute (.Name x p) "__init__" apos) (e :: es) [] pos) X.env = (do
      let ov ← eval (.Name x p) X.env
      standAt apos.atName
      let (f, first) ← holding [ov] (getMethod ov "__init__" pl)
      callWith pos f first (backTo pos (starEach (e :: es) X.env)) (backToKw pos (keywordEach [] X.env))) := by rfl) :
    PE X (.Call (.Attribute (.Name x p) "__init__" apos) (e :: es) [] pos) (tBI C t) := by
  intro pins s σ H Q I h
  refine PySem.W.methodCall_KW (pl := pl) (ld_glob I hg hm ?_ hdb) ht
  refine PySem.W.method_cls I.kIn B.ga (PySem.W.cls_value I.kIn B.rd B.at_ (by decide +kernel) ?_)
  refine PyProof.Rows.callWith_builtin1 (thn (ha pos pins { s with toks := s.toks + 1 } σ H _ (I.tok _) h) fun us s1 ⟨vs, H1, I1, r, q⟩ => ?_) he hpl
  obtain ⟨e', dx, ar, tb, rest, rfl, hz, hE, q⟩ := q
  cases r with
  | cons r1 r2 =>
    cases r1
    exact init_text M I1 hE r2 (by rw [← r2.length]; exact hz) fun t s' f1 f2 I' => ⟨.non, _, I', rfl, q t f1 f2⟩
def sExF (K : PySem.W.Frag) (C : Addr) (ta tv : TE) (f : Str) : TS := fun D σ H => tv σ H fun y H1 => ta σ H1 fun x H2 => ∃ e ar tb, x = .ref e ∧ H2 e = some (ExO C e none ar tb) ∧ NoAttr K C f ∧
  ∀ dx, H2 dx = none → dx ≠ e → D.nx σ (upd (upd H2 dx (XdO dx [(f, y)])) e (ExO C e (some dx) ar tb))
theorem ps_exf {o value : Expr} {f : Str} {pos pos' : Pos} {ta tv : TE} (M : ExF X.K C T fI) (ha : PE X o ta) (hv : PE X value tv) (hs : swapsWith value (some (.Attribute o f pos')) pos.line X.env = pure false) : PS X (.Assign [.Attribute o f pos'] value pos) (sExF X.K C ta tv f) := by
  intro pins s σ H D I h
  refine plainObj_wpAny_Assign_Attribute (thn (hv pins s σ H _ I h) fun u s1 ⟨y, H1, I1, ry, q⟩ => thn (ha pins s1 σ H1 _ I1 q) fun ov s2 ⟨x, H2, I2, rx, e, ar, tb, ex, ea, n, q2⟩ => ?_) hs
  subst ex
  obtain rfl : ov = Value.ref e := rx
  exact exset_ok M I2 ea n ry fun dx s3 h1 h2 I3 => ⟨σ, _, I3, q2 dx h1 h2⟩
def tExFld (K : PySem.W.Frag) (ta : TE) (f : Str) : TE := fun σ H Q => ta σ H fun x H1 => ∃ e C dx ar tb fs y, x = .ref e ∧ H1 e = some (ExO C e (some dx) ar tb) ∧ H1 dx = some (XdO dx fs) ∧ ExG K C ∧ NoAttr K C f ∧ fs.lookup f = some y ∧ Q y H1
theorem pe_exfld {e : Expr} {f : Str} {pos : Pos} {ta : TE} (he : PE X e ta) (hb : attributeBase e f X.env (eval e X.env) = eval e X.env) : PE X (.Attribute e f pos) (tExFld X.K ta f) := by
  intro pins s σ H Q I h
  refine attr_of hb (thn (he pins s σ H _ I h) fun u s1 ⟨x, H1, I1, rx, a, C, dx, ar, tb, fs, y, ex, ea, ed, g, n, l, q⟩ => ?_)
  subst ex
  obtain rfl : u = Value.ref a := rx
  exact exget_ok g.hd I1 ea ed n l (fun J hf hh hq => exga_value g I1.kIn J hf hh hq) fun u' s2 I2 ru => ⟨y, H1, I2, ru, q⟩
end
end L2

set_option Elab.async false
set_option linter.all false
set_option maxRecDepth 100000
namespace L2
open PySem PySem.Spec PyProof.Rows
structure ExS (K : PySem.W.Frag) (C : Addr) (nm : String) : Prop where
  rp : PySem.W.findIn K (.ref C) "__repr__" = some (some (.builtin "BaseException.__repr__"))
  be : PySem.W.mroIn K C (.type "BaseException") = some true
  nm : ∃ cd, PySem.W.clsIn K C = some cd ∧ cd.name.toString = nm
section
variable {prog : Program} {w : World} {A : Around} {E : Value → Shared → Prop} {s : Shared} {K : PySem.W.Frag} {e C t : Addr} {o : Obj} {od : Option Obj} {vs : Array Value} {m : Str} {tk : Tok} {nm : String}
def KBp (p : Addr) (H H' : Hp) : Prop := ∀ b o, H b = some o → b ≠ p → H' b = some o
def Shw (P : Program) (w : World) (K : PySem.W.Frag) (p : Addr) (H : Hp) (as : List Addr) (d : Nat) (v : V) (t : Str) : Prop :=
  ∀ (X : Cx) (pins : List (Addr × Obj)) (σ : St) (H' : Hp) (s : Shared) (u : Value), X.prog = P → X.w = w → X.K = K → Inv X pins σ H' s → KBp p H H' → RelV v u → ReprK P w as s.heap d u t
variable {P : Program} {p : Addr} {H H' : Hp} {as as' : List Addr} {d d' : Nat} {v : V} {tx : Str}
theorem Shw.keep (h : Shw P w K p H as d v tx) (k : KBp p H H') : Shw P w K p H' as d v tx := fun X pins σ H2 s u e1 e2 e3 I k2 r => h X pins σ H2 s u e1 e2 e3 I (fun b o q n => k2 b o (k b o q n) n) r
theorem Shw.more (h : Shw P w K p H as d v tx) (hs : ∀ b ∈ as, b ∈ as') (hd : d ≤ d') : Shw P w K p H as' d' v tx := fun X pins σ H2 s u e1 e2 e3 I k r => ((h X pins σ H2 s u e1 e2 e3 I k r).more hs).level_le hd
inductive ShwAll (P : Program) (w : World) (K : PySem.W.Frag) (p : Addr) (H : Hp) (as : List Addr) (d : Nat) : List V → List Str → Prop
  | nil : ShwAll P w K p H as d [] []
  | cons {v : V} {t : Str} {vs : List V} {ts : List Str} : Shw P w K p H as d v t → ShwAll P w K p H as d vs ts → ShwAll P w K p H as d (v :: vs) (t :: ts)
end
end L2

set_option Elab.async false
set_option linter.all false
set_option maxRecDepth 100000
namespace L2
open PySem PySem.Spec PyProof.Rows
section
variable {w : World} {K : PySem.W.Frag} {P : Program} {p : Addr} {H H' : Hp} {as as' : List Addr} {d d' : Nat} {v : V} {tx : Str}
end
end L2

set_option Elab.async false
set_option linter.all false
set_option maxRecDepth 100000
namespace L2
open PySem PySem.Spec PyProof.Rows
structure ExT (K : PySem.W.Frag) (T : Addr) : Prop where
  cls : ∃ (nm q : Str) (N : Addr) (bs : List Value) (hdct : Bool) (sn : List Str) (sub : List Value) (ab : Bool) (col : Option Bool) (dd : Option Addr) (k0 k1 k2 k3 k5 : Option Value),
    K.lookup T = some (excClassObj nm q T N bs bmV hdct sn sub ab col dd k0 k1 k2 k3 k5 "ValueError.__new__")
  init : PySem.W.findIn K (.ref T) "__init__" = some (some (.builtin "ValueError.__init__"))
  kp : PySem.W.keepIn K (.ref T) = true
section
variable {prog : Program} {w : World} {A : Around} {E : Value → Shared → Prop} {K : PySem.W.Frag} {T : Addr} {h : Heap} {g : Array GenState} {d : Drawn} {t : Nat} {os : OsState}
end
section
variable {X : Cx} {pins : List (Addr × Obj)} {σ : St} {H : Hp} {s : Shared} {T e : Addr} {A : Around} {E : Value → Shared → Prop}
end
end L2

set_option Elab.async false
set_option linter.all false
set_option maxRecDepth 100000
namespace L2
open PySem PySem.Spec PyProof.Rows
section
variable {X : Cx} {pins : List (Addr × Obj)} {σ : St} {H : Hp} {s : Shared} {h' : Heap} {C e : Addr} {A : Around} {E : Value → Shared → Prop}
theorem Inv.slots (I : Inv X pins σ H s) (x : Heap.SlotsOnly (frs X.stack) s.heap h') : Inv X pins σ H { s with heap := h' } := by
  have nf : ∀ b o, H b = some o → b ∉ frs X.stack := fun b o q m => by rw [I.stkFree b m] at q; cases q
  refine I.call (g' := s.gens) (t' := s.toks) (d' := s.drawn) (ch := []) ⟨fun b o q n hb _ => (x.2.1 b hb).trans q, fun b o q _ _ _ => x.2.2 b o q, fun _ _ _ n _ => n, fun b o q _ => let ⟨_, z⟩ := x.2.2 b o q; ⟨_, z⟩, fun _ _ q => q, fun _ _ _ q => q, fun b ps q => ⟨#[], by rw [q]; simp⟩⟩ (fun a o q => ?_) I.bare (fun _ z => nomatch z)
  refine (I.hok a o q).stay (fun b u hb z => ?_) (fun _ z => z) fun _ _ z => z
  rcases hb with rfl | hb
  · exact (x.2.1 _ (nf _ _ q)).trans z
  · exact (x.2.1 _ (nf _ _ hb)).trans z
def TbAt (b : Addr) (h : Heap) : Prop := ∃ (o : Obj) (ts : Array Value), h.get? b = some o ∧ o.data = .fields ts ∧ ts[3]? = some .none
def TbO (b : Addr) : HO := .ext (TbAt b)
theorem tbO_ok {P : Program} {w : World} {H : Hp} {h : Heap} {b : Addr} (x : TbAt b h) : ObjOk P w H h b (TbO b) := by
  refine ⟨x, ?_, fun h1 h2 q k => ?_⟩
  · obtain ⟨o, _, e1, _⟩ := x
    exact ⟨o, e1⟩
  · obtain ⟨o, ts, e1, r⟩ := q
    exact ⟨o, ts, k o e1, r⟩
theorem note_ok {dx ar tb : Option Addr} {Q : Unit → Shared → Prop} (hst : X.stack = X.env :: X.outer) (hfr : X.env.frame = some X.env.locals) (I : Inv X pins σ H s) (he : H e = some (ExO C e dx ar tb)) (ht : ∀ b, tb = some b → H b = some (TbO b) ∧ b ≠ e)
    (hA : A.frames = some X.stack) (hq : ∀ b' s', H b' = none → b' ≠ e → Inv X pins σ (upd (upd H b' (TbO b')) e (ExO C e dx ar (some b'))) s' → Q () s') : wpAny (model X.prog X.w) A (noteFrame (.ref e) X.env) (fun _ s' => wpAny (model X.prog X.w) A (setFlight (.ref e) none) Q E s') E s := by
  obtain ⟨o, vs, e1, e2, e3, e4, e5, e6, eT⟩ := ex_get I he
  have h1 : 1 < vs.size := (Array.getElem?_eq_some_iff.mp eT).1
  -- the entry is made, stored, and its flight is ended
  have tail : ∀ {s1 : Shared} {hd : Value} {nx : Bool}, Inv X pins σ H s1 → s1.heap.get? e = some o → wpAny (model X.prog X.w) A (do let a ← frameOf X.env; let pl ← entryPlaceOf X.env.locals nx; let b ← EntryCells.newEntry hd a .none (rawInt X.env.locals) .none pl; setField (.ref e) 1 b)
      (fun _ s2 => wpAny (model X.prog X.w) A (setFlight (.ref e) none) Q E s2) E s1 := fun {s1 hd nx} I1 q1 => by
    rw [hst] at hA
    have fr : s1.heap.FunFrames X.base (X.env :: X.outer) := by have := I1.stack; rw [hst] at this; exact this
    refine wpAny_bind (wpAny_frameOf_fun hA fr hfr fun h2 hs2 => ?_)
    have I2 : Inv X pins σ H { s1 with heap := h2 } := I1.slots (by rw [hst]; exact hs2)
    have ne : e ∉ (X.env :: X.outer).filterMap (·.frame) := fun m => by
      have := I1.stkFree e (by rw [hst]; exact m)
      rw [he] at this
      cases this
    have q2 : h2.get? e = some o := (hs2.2.1 e ne).trans q1
    refine wpAny_bind (wpAny_entryPlaceOf fun pl hpl => ?_)
    unfold EntryCells.newEntry newFields
    refine wpAny_bind (wpAny_newObj_type ?_ (hpl.sizeOk5 _ _ _ _ _))
    generalize hob : ({ cls := .type "traceback", data := .fields ([hd, .ref X.env.locals, .none, rawInt X.env.locals, .none] ++ (if pl.isEmpty then List.replicate 6 Value.none else pl)).toArray } : Obj) = ob
    have obd : ∃ ts, ob.data = .fields ts ∧ 3 < ts.size := by
      rw [← hob]
      exact ⟨_, rfl, by simp⟩
    obtain ⟨ts, d1, d2⟩ := obd
    have nb : h2.objs.size ≠ e := Nat.ne_of_gt (Heap.lt_size q2)
    have q3 := Heap.get?_push_of_some (h := h2) ob q2
    refine wpAny_setField q3 e4 h1 ?_
    have d3 := Obj.data_mapFields e4 (·.setIfInBounds 1 (Value.ref h2.objs.size))
    have q4 := Heap.get?_update_self (Obj.mapFields (·.setIfInBounds 1 (Value.ref h2.objs.size))) q3 (Obj.isFreed_of_fields d3)
    have q5 : ((h2.push ob).update e (Obj.mapFields (·.setIfInBounds 1 (Value.ref h2.objs.size)))).get? h2.objs.size = some ob := (Heap.get?_update_other _ _ (Ne.symm nb)).trans (Heap.get?_push_size h2 (Obj.isFreed_of_fields d1))
    unfold setFlight
    refine wpAny_bind (wpAny_field q4 d3 (x := .ref h2.objs.size) (by simp [h1]) ?_)
    rw [if_pos (show (Value.ref h2.objs.size != Value.none) = true from by simp)]
    refine wpAny_setField q5 d1 d2 ?_
    generalize hh3 : (h2.push ob).update e (Obj.mapFields (·.setIfInBounds 1 (Value.ref h2.objs.size))) = h3 at q4 q5
    have d5 := Obj.data_mapFields d1 (·.setIfInBounds 3 Value.none)
    have q6 := Heap.get?_update_self (Obj.mapFields (·.setIfInBounds 3 Value.none)) q5 (Obj.isFreed_of_fields d5)
    have q7 : (h3.update h2.objs.size (Obj.mapFields (·.setIfInBounds 3 Value.none))).get? e = some (Obj.mapFields (·.setIfInBounds 1 (Value.ref h2.objs.size)) o) := (Heap.get?_update_other _ _ nb).trans q4
    have fb : H h2.objs.size = none := I2.hok.fresh (Nat.le_refl _)
    refine hq h2.objs.size _ fb nb ?_
    -- first the entry, as it stands at last; then the error
    have obf : (Obj.mapFields (·.setIfInBounds 3 Value.none) ob).isFreed = false := Obj.isFreed_of_fields d5
    have I3 := I2.laid (a := h2.objs.size) (o := TbO h2.objs.size) (h' := h2.push (Obj.mapFields (·.setIfInBounds 3 Value.none) ob)) (t' := s1.toks) (fun b u q => Heap.get?_push_of_some _ q) (Nat.le_refl _)
      (tbO_ok ⟨_, _, Heap.get?_push_size h2 obf, d5, by simp [d2]⟩)
    refine I3.write (x := e) (e := e) (t' := s1.toks) (by rw [upd_ne (Ne.symm nb), he]; trivial) (.inl rfl) (fun b u hb q => ?_) ⟨_, q7⟩ (exO_ok ⟨_, _, q7, (Obj.cls_mapFields ..).trans e2, ?_, d3, by simpa using e5, fun t z => ?_, by simp [h1, tbV]⟩)
    · by_cases hbd : b = h2.objs.size
      · subst hbd
        rw [Heap.get?_push_size h2 obf] at q
        cases q
        exact q6
      · rw [Heap.get?_update_other _ _ (Ne.symm hbd), ← hh3, Heap.get?_update_other _ _ (Ne.symm hb)]
        have hlt : b < h2.objs.size := by
          have z := Heap.lt_size q
          have z2 : (h2.push (Obj.mapFields (·.setIfInBounds 3 Value.none) ob)).objs.size = h2.objs.size + 1 := Heap.size_push _ _
          have z3 : b < h2.objs.size + 1 := by rw [← z2]; exact z
          exact Nat.lt_of_le_of_ne (Nat.le_of_lt_succ z3) hbd
        have q' : h2.get? b = some u := by
          obtain ⟨a1, a2⟩ := Heap.get?_some_iff.mp q
          refine Heap.get?_some_iff.mpr ⟨?_, a2⟩
          have : (h2.objs.push (Obj.mapFields (·.setIfInBounds 3 Value.none) ob))[b]? = some u := a1
          rw [Array.getElem?_push_lt hlt] at this
          simpa [hlt] using this
        exact Heap.get?_push_of_some _ q'
    · have : (Obj.mapFields (·.setIfInBounds 1 (Value.ref h2.objs.size)) o).dict = o.dict := by
        rcases o with ⟨oc, od, odt, osl⟩
        cases (show odt = _ from e4)
        rfl
      rw [this, e3]
    · rw [Array.getElem?_setIfInBounds_ne (by decide)]
      exact e6 t z
  unfold noteFrame
  simp only [hfr]
  refine wpAny_bind (wpAny_field e1 e4 eT ?_)
  cases tb with
  | none =>
    rw [if_neg (show ¬ ((tbV none != Value.none) = true) from by simp [tbV])]
    exact tail I e1
  | some b =>
    obtain ⟨hb, nb⟩ := ht b rfl
    obtain ⟨ob, ts, b1, b2, b3⟩ := (show TbAt b s.heap from (I.hok b _ hb).1)
    have b4 : 3 < ts.size := (Array.getElem?_eq_some_iff.mp b3).1
    rw [if_pos (show (tbV (some b) != Value.none) = true from by simp [tbV])]
    refine wpAny_bind (wpAny_field b1 b2 b3 ?_)
    rw [if_neg (show ¬ ((Value.none == rawInt X.env.locals) = true) from by simp [rawInt])]
    refine wpAny_bind (wpAny_setField b1 b2 b4 ?_)
    have d5 := Obj.data_mapFields b2 (·.setIfInBounds 3 Value.none)
    have q6 := Heap.get?_update_self (Obj.mapFields (·.setIfInBounds 3 Value.none)) b1 (Obj.isFreed_of_fields d5)
    have I1 := I.write (x := b) (e := b) (o := TbO b) (t' := s.toks) (h' := s.heap.update b (Obj.mapFields (·.setIfInBounds 3 Value.none))) (by rw [hb]; trivial) (.inl rfl) (fun c u hc q => (Heap.get?_update_other _ _ (Ne.symm hc)).trans q) ⟨_, q6⟩ (tbO_ok ⟨_, _, q6, d5, by simp [b4]⟩)
    have eH : upd H b (TbO b) = H := by
      funext c
      by_cases hc : c = b
      · rw [hc, upd_same, hb]
      · rw [upd_ne hc]
    rw [eH] at I1
    exact tail I1 ((Heap.get?_update_other _ _ nb).trans e1)
theorem leave_ok {dx ar tb : Option Addr} {Q : Unit → Shared → Prop} (hst : X.stack = X.env :: X.outer) (hfr : X.env.frame = some X.env.locals) (I : Inv X pins σ H s) (he : H e = some (ExO C e dx ar tb)) (ht : ∀ b, tb = some b → H b = some (TbO b) ∧ b ≠ e)
    (hA : A.frames = some X.stack) (hq : ∀ b' s', H b' = none → b' ≠ e → Inv X pins σ (upd (upd H b' (TbO b')) e (ExO C e dx ar (some b'))) s' → Q () s') : wpAny (model X.prog X.w) A (leaving X.env (.ref e)) Q E s := by
  unfold leaving
  exact wpAny_bind (note_ok hst hfr I he ht hA hq)
end
end L2

set_option Elab.async false
set_option linter.all false
set_option maxRecDepth 100000
namespace L2
open PySem PySem.Spec PyProof.Rows
def CXo (P : Program) (w : World) : CXT := fun outer H s E e s' => CE outer P w H s (fun v H' => (∃ a, v = .ref a) ∧ E e none H') e s'
def Fly (C e : Addr) (dx ar tb : Option Addr) (H : Hp) : Prop := H e = some (ExO C e dx ar tb) ∧ ∀ b, tb = some b → H b = some (TbO b) ∧ b ≠ e
def past (H : Hp) (C e : Addr) (dx ar : Option Addr) (b : Addr) : Hp := upd (upd H b (TbO b)) e (ExO C e dx ar (some b))
def Outs (X : Cx) (E : XK) : Prop := ∀ (pins : List (Addr × Obj)) (σ : St) (H : Hp) (s : Shared) (C e : Addr) (dx ar tb : Option Addr), Inv X pins σ H s → Fly C e dx ar tb H → (∀ b, H b = none → b ≠ e → E (.ref e) none (past H C e dx ar b)) → X.xe (.ref e) s
theorem outs_def {P : Program} {w : World} {K : PySem.W.Frag} {mg : Str → Option Value} {base : Heap} {N : List Str} {qual : Str} {scope : Scope} {f : Addr} {cd : Value} {A : Around} {outer : List Env} {s₀ : Shared} {H₀ : Hp} {E : XK} :
    Outs (cxOf (CXo P w) P w K mg base N qual scope f cd A outer s₀ H₀ E) E := fun pins σ H s C e dx ar tb I fl h => by
  refine leave_ok (X := cxOf (CXo P w) P w K mg base N qual scope f cd A outer s₀ H₀ E) rfl rfl I fl.1 fl.2 I.ok.frames fun b s' f1 f2 J => ?_
  exact ⟨.ref e, _, J.os, J.bare, J.base, J.hok, rfl, ⟨e, rfl⟩, h b f1 f2⟩
def goOn (E : XK) : XK := fun v _ H => ∃ C e dx ar tb, v = .ref e ∧ Fly C e dx ar tb H ∧ ∀ b, H b = none → b ≠ e → E (.ref e) none (past H C e dx ar b)
theorem Outs.pass {X : Cx} {E : XK} (o : Outs X E) : Passes (CXo X.prog X.w) X (goOn E) := fun pins σ H s e s' I h => by
  obtain ⟨v, H', I', rv, q⟩ := I.after h
  obtain ⟨⟨a, rfl⟩, C, e', dx, ar, tb, ee, fl, k⟩ := q
  cases (show e = Value.ref a from rv)
  cases ee
  exact o pins σ H' s' C _ dx ar tb I' fl k
structure ExR (K : PySem.W.Frag) (C : Addr) : Prop where
  be : PySem.W.mroIn K C (.type "BaseException") = some true
  ty : PySem.W.typeIn K (.ref C) = some (.type "type")
section
variable {X : Cx} {E : XK} {x : Expr} {tx : TE} {pos : Pos}
def tRaise (K : PySem.W.Frag) (E : XK) (tx : TE) : TS := fun D σ H => tx σ H fun v H1 => ∃ C e dx ar, v = .ref e ∧ ExR K C ∧ Fly C e dx ar none H1 ∧ ∀ b, H1 b = none → b ≠ e → E (.ref e) none (past H1 C e dx ar b)
theorem ps_raise (o : Outs X E) (hc : X.calm = true) (h : PE X x tx) : PS X (.Raise (some x) none pos) (tRaise X.K E tx) := by
  intro pins s σ H D I q
  rw [arm_exec_Raise]
  refine wpAny_bind (wpAny_standAt ?_)
  show wpAny _ _ (raiseStmt X.env (some (do let v ← eval x X.env; standAt pos; pure v)) none) _ _ _
  unfold raiseStmt
  refine wpAny_bind (wpAny_bind (thn (h pins s σ H _ I q) fun v s1 ⟨y, H1, I1, ry, C, e, dx, ar, ey, r, fl, k⟩ => wpAny_bind (wpAny_standAt (wpAny_pure ?_))))
  subst ey
  obtain rfl : v = Value.ref e := ry
  obtain ⟨ob, vs, e1, e2, e3, e4, e5, e6, eT⟩ := ex_get I1 fl.1
  have J : PySem.W.Looks (model X.prog X.w) s1.heap (typeOf (.ref e)) (.ref C) := e2 ▸ (PySem.W.Looks.ld e1).andThen .now
  have nt : ∀ {A : Around} {R : Bool → Shared → Prop} {E' : Value → Shared → Prop}, R false s1 → wpAny (model X.prog X.w) A (isType (.ref e)) R E' s1 := fun {A R E'} hr => by
    unfold isType loadHead
    refine wpAny_bind (wpAny_loadPart e1 ?_)
    rw [e4]
    exact wpAny_pure hr
  have inst : PySem.W.Looks (model X.prog X.w) s1.heap (isInstance (.ref e) (.type "BaseException")) true := J.andThen (PySem.W.looks_mroIn I1.kIn r.be)
  dsimp only
  refine wpAny_bind (wpAny_pure (wpAny_bind (wpAny_holding ?_)))
  unfold excFromValue isExcClass
  refine wpAny_bind (wpAny_bind (nt ?_))
  rw [if_neg Bool.false_ne_true]
  refine wpAny_pure ?_
  rw [if_neg Bool.false_ne_true]
  refine wpAny_bind (inst.here ?_)
  rw [if_pos rfl]
  refine wpAny_pure (wpAny_bind (nt ?_))
  rw [if_neg Bool.false_ne_true]
  refine wpAny_bind ?_
  unfold raisedInstance
  refine wpAny_bind (J.here (wpAny_bind ((PySem.W.looks_typeIn I1.kIn r.ty).here ?_)))
  rw [if_pos (by decide)]
  refine wpAny_pure (wpAny_bind ?_)
  unfold setFlight
  refine wpAny_bind (wpAny_field e1 e4 eT ?_)
  rw [if_neg (show ¬ ((tbV none != Value.none) = true) from by simp [tbV])]
  refine wpAny_pure ?_
  unfold raiseNew
  refine wpAny_bind (wpAny_handled ?_)
  rw [I1.ok.hd hc]
  have fin := o pins σ H1 s1 C e dx ar none I1 fl k
  first
    | exact wpAny_throw fin
    | exact wpAny_bind (wpAny_pure (wpAny_throw fin))
end
end L2

set_option Elab.async false
set_option linter.all false
set_option maxRecDepth 100000
namespace L2
open PySem PySem.Spec PyProof.Rows
def Cx.held (X : Cx) (e : Addr) : Cx := { X with A := X.A.mark (some (.ref e)), calm := false, xe := fun _ _ => False }
def Cx.tried (X : Cx) (pins : List (Addr × Obj)) (xe : Value → Shared → Prop) : Cx := { X with pn := X.pn ++ pins, xe := xe }
section
variable {X : Cx} {pins : List (Addr × Obj)} {σ : St} {H : Hp} {s : Shared} {h' : Heap} {e : Addr}
theorem Inv.held (I : Inv X pins σ H s) (e : Addr) : Inv (X.held e) pins σ H s :=
  ⟨{ I.ok with hd := fun z => nomatch (show false = true from z) }, I.os, I.bare, I.base, I.loc, I.cell, I.free, I.freeC, I.pin, I.hok, I.len⟩
theorem Inv.unheld (k : X.Ok) (I : Inv (X.held e) pins σ H s) : Inv X pins σ H s := ⟨k, I.os, I.bare, I.base, I.loc, I.cell, I.free, I.freeC, I.pin, I.hok, I.len⟩
theorem Inv.tried {xe : Value → Shared → Prop} (I : Inv X pins σ H s) : Inv (X.tried pins xe) [] σ H s :=
  ⟨{ I.ok with }, I.os, I.bare, I.base, I.loc, I.cell, I.free, I.freeC, fun p hp => I.pin p (by have : p ∈ (X.pn ++ pins) ++ [] := hp; rwa [List.append_nil] at this), I.hok, I.len⟩
theorem Inv.untried {xe : Value → Shared → Prop} {pins' : List (Addr × Obj)} (I : Inv (X.tried pins xe) pins' σ H s) : Inv X pins σ H s :=
  ⟨{ I.ok with }, I.os, I.bare, I.base, I.loc, I.cell, I.free, I.freeC, fun p hp => I.pin p (List.mem_append_left _ hp), I.hok, I.len⟩
theorem Inv.bare_frame {m' : Str → Option Value} {t' : Nat} (I : Inv X pins σ H s) (hn : h'.Ns X.env.locals m') (hs : Heap.SameBut X.env.locals s.heap h') : Inv X pins (List.replicate X.N.length none) H { s with heap := h', toks := t' } := by
  obtain ⟨m, ⟨oL, _, _, hoL, _⟩, _⟩ := id I.loc
  have lt : ∀ {b : Addr} {o : Obj}, X.s₀.heap.get? b = some o → b ≠ X.env.locals := fun e => Nat.ne_of_lt (Nat.lt_of_lt_of_le (Heap.lt_size e) I.ok.above)
  refine ⟨I.ok, I.os, I.bare, ⟨fun b o e n hb hx => (hs.2 b (lt e)).trans (I.base.keep b o e n hb hx), fun b o e n hb hx => ?_, I.base.free, fun b o e hx => ?_, I.base.tups, I.base.frzs, I.base.tbls⟩, ⟨m', hn, fun j y v e1 e2 _ => ?_⟩, fun y c q => ?_, I.free, I.freeC, fun p hp => ?_, fun b ob q => ?_, by simp⟩
  · obtain ⟨sl, e1⟩ := I.base.slot b o e n hb hx
    exact ⟨sl, (hs.2 b (lt e)).trans e1⟩
  · obtain ⟨o', e1⟩ := I.base.there b o e hx
    exact ⟨o', (hs.2 b (lt e)).trans e1⟩
  · simp [List.getElem?_replicate] at e2
  · obtain ⟨v, o, ho, hd⟩ := I.cell y c q
    exact ⟨v, o, (hs.2 c (I.cne y c q)).trans ho, hd⟩
  · obtain ⟨p1, p2, p3, p4, p5⟩ := I.pin p hp
    exact ⟨(hs.2 _ p3).trans p1, p2, p3, p4, p5⟩
  · refine (I.hok b ob q).stay (fun c w' hc z => (hs.2 c ?_).trans z) (fun _ z => z) fun _ _ z => z
    rintro rfl
    rcases hc with rfl | hc
    · rw [I.free] at q; cases q
    · rw [I.free] at hc; cases hc
structure ExM (K : PySem.W.Frag) (D : Addr) : Prop where
  be : PySem.W.mroIn K D (.type "BaseException") = some true
  ty : PySem.W.typeIn K (.ref D) = some (.type "type")
  cl : (PySem.W.clsIn K D).isSome = true
theorem matches_ok {A : Around} {E : Value → Shared → Prop} {C D : Addr} {dx ar tb : Option Addr} {b : Bool} {Q : Bool → Shared → Prop} (I : Inv X pins σ H s) (he : H e = some (ExO C e dx ar tb)) (m : ExM X.K D) (hb : PySem.W.mroIn X.K C (.ref D) = some b) (q : Q b s) :
    wpAny (model X.prog X.w) A (excMatches (.ref e) (.ref D)) Q E s := by
  obtain ⟨ob, vs, e1, e2, e3, e4, e5, e6, eT⟩ := ex_get I he
  have J : PySem.W.Looks (model X.prog X.w) s.heap (typeOf (.ref e)) (.ref C) := e2 ▸ (PySem.W.Looks.ld e1).andThen .now
  obtain ⟨cd, hc⟩ := Option.isSome_iff_exists.mp m.cl
  have isT : ∀ {A : Around} {R : Bool → Shared → Prop} {E' : Value → Shared → Prop}, R true s → wpAny (model X.prog X.w) A (isType (.ref D)) R E' s := fun {A R E'} hr => by
    unfold PySem.W.clsIn at hc
    split at hc
    · rename_i c' d' cd' sl' ho
      unfold isType loadHead
      exact wpAny_bind (wpAny_loadPart (I.kIn _ _ ho) (wpAny_pure hr))
    · cases hc
  have nt : PySem.W.Looks (model X.prog X.w) s.heap (isInstance (.ref D) (.type "tuple")) false := (PySem.W.looks_typeIn I.kIn m.ty).andThen (PySem.W.looks_subIn I.kIn (K := X.K) (t := .type "type") (base := .type "tuple") (by rfl))
  unfold excMatches
  refine wpAny_bind (nt.here ?_)
  dsimp only
  rw [if_neg Bool.false_ne_true]
  refine wpAny_bind (wpAny_pure ?_)
  refine wpAny_bind ?_
  rw [List.forIn_cons]
  refine wpAny_bind (wpAny_bind ?_)
  unfold isExcClass
  refine wpAny_bind (isT ?_)
  rw [if_pos rfl]
  refine (PySem.W.looks_mroIn I.kIn m.be).here ?_
  rw [if_neg (by decide)]
  refine wpAny_pure ?_
  dsimp only
  rw [List.forIn_nil]
  refine wpAny_pure (wpAny_bind (J.here (wpAny_bind ?_)))
  rw [List.forIn_cons]
  refine wpAny_bind (wpAny_bind ((PySem.W.looks_mroIn I.kIn hb).here ?_))
  cases b with
  | true =>
    rw [if_pos rfl]
    exact wpAny_pure (wpAny_pure (wpAny_pure q))
  | false =>
    rw [if_neg Bool.false_ne_true]
    refine wpAny_pure ?_
    dsimp only
    rw [List.forIn_nil]
    exact wpAny_pure (wpAny_pure q)
abbrev TH := Addr → Addr → Option Addr → Option Addr → Addr → Ends → St → Hp → Prop
def PHs (X : Cx) (hs : List ExceptHandler) (t : TH) : Prop := ∀ (pins : List (Addr × Obj)) (s : Shared) (σ : St) (H : Hp) (D : Ends) (C e : Addr) (dx ar : Option Addr) (b : Addr), Inv X pins σ H s → Fly C e dx ar (some b) H → t C e dx ar b D σ H → wpAny (model X.prog X.w) X.A (handleBy (.ref e) X.env hs) (SP X pins D) X.xe s
def thNil : TH := fun _ _ _ _ _ _ _ _ => False
theorem phs_nil : PHs X [] thNil := fun _ _ _ _ _ _ _ _ _ _ _ _ z => z.elim
def thPlain (K : PySem.W.Frag) (Dc : Addr) (tb : TS) (rest : TH) : TH := fun C e dx ar b D σ H => ∃ hit, PySem.W.mroIn K C (.ref Dc) = some hit ∧ if hit = true then tb D σ H else rest C e dx ar b D σ H
theorem fly_none {A : Around} {E : Value → Shared → Prop} {C : Addr} {dx ar : Option Addr} {b : Addr} {Q : Unit → Shared → Prop} (I : Inv X pins σ H s) (f : Fly C e dx ar (some b) H) (q : ∀ s', Inv X pins σ H s' → Q () s') : wpAny (model X.prog X.w) A (setFlight (.ref e) none) Q E s := by
  obtain ⟨ob, vs, e1, e2, e3, e4, e5, e6, eT⟩ := ex_get I f.1
  obtain ⟨hb, nb⟩ := f.2 b rfl
  obtain ⟨oT, ts, b1, b2, b3⟩ := (show TbAt b s.heap from (I.hok b _ hb).1)
  have b4 : 3 < ts.size := (Array.getElem?_eq_some_iff.mp b3).1
  refine wpAny_setFlight_none e1 e4 eT b1 b2 b4 (q _ ?_)
  have d5 := Obj.data_mapFields b2 (·.setIfInBounds 3 Value.none)
  have q6 := Heap.get?_update_self (Obj.mapFields (·.setIfInBounds 3 Value.none)) b1 (Obj.isFreed_of_fields d5)
  have I1 := I.write (x := b) (e := b) (o := TbO b) (t' := s.toks) (h' := s.heap.update b (Obj.mapFields (·.setIfInBounds 3 Value.none))) (by rw [hb]; trivial) (.inl rfl) (fun c u hc q => (Heap.get?_update_other _ _ (Ne.symm hc)).trans q) ⟨_, q6⟩ (tbO_ok ⟨_, _, q6, d5, by simp [b4]⟩)
  have eH : upd H b (TbO b) = H := by
    funext c
    by_cases hc : c = b
    · rw [hc, upd_same, hb]
    · rw [upd_ne hc]
  rwa [eH] at I1
theorem SP.unheld {D : Ends} {fl : Flow} (k : X.Ok) (q : SP (X.held e) pins D fl s) : SP X pins D fl s := by
  cases fl with
  | ret u =>
    obtain ⟨v, σ', H', I3, rv, q⟩ := q
    exact ⟨v, σ', H', I3.unheld k, rv, q⟩
  | next =>
    obtain ⟨σ', H', I3, q⟩ := q
    exact ⟨σ', H', I3.unheld k, q⟩
  | brk =>
    obtain ⟨σ', H', I3, q⟩ := q
    exact ⟨σ', H', I3.unheld k, q⟩
  | cont =>
    obtain ⟨σ', H', I3, q⟩ := q
    exact ⟨σ', H', I3.unheld k, q⟩
theorem SP.untried {xe : Value → Shared → Prop} {D : Ends} {fl : Flow} (q : SP (X.tried pins xe) [] D fl s) : SP X pins D fl s := by
  cases fl with
  | ret u =>
    obtain ⟨v, σ', H', I3, rv, q⟩ := q
    exact ⟨v, σ', H', I3.untried, rv, q⟩
  | next =>
    obtain ⟨σ', H', I3, q⟩ := q
    exact ⟨σ', H', I3.untried, q⟩
  | brk =>
    obtain ⟨σ', H', I3, q⟩ := q
    exact ⟨σ', H', I3.untried, q⟩
  | cont =>
    obtain ⟨σ', H', I3, q⟩ := q
    exact ⟨σ', H', I3.untried, q⟩
theorem phs_plain {x : Str} {xp pos : Pos} {b₀ : Stmt} {suite : List Stmt} {rest : List ExceptHandler} {Dc : Addr} {tb : TS} {tr : TH} (m : ExM X.K Dc) (hg : Gl X x) (hm : X.mg x = some (.ref Dc))
    (hb : ∀ e, PSs (X.held e) (b₀ :: suite) tb) (hr : PHs X rest tr) (hdb : (x == ("__debug__" : Str)) = false := by decide) : PHs X (.ExceptHandler (some (.Name x xp)) none (b₀ :: suite) pos :: rest) (thPlain X.K Dc tb tr) := by
  intro pins s σ H D C e dx ar b I f h
  obtain ⟨hit, hc, h⟩ := h
  refine wpAny_handleBy_cons (codeAny_handlers_test (ld_glob (X := X.held e) (I.held e) hg hm ?_ hdb)) (by intro z; cases z)
  refine matches_ok I f.1 m hc ?_
  cases hit with
  | false =>
    rw [if_neg Bool.false_ne_true] at h ⊢
    exact hr pins s σ H D C e dx ar b I f h
  | true =>
    rw [if_pos rfl] at h ⊢
    refine codeAny_handlers_suite (fly_none I f fun s1 I1 => ?_)
    exact wpAny_mono (hb e pins s1 _ H D (I1.held e) h) (fun fl s3 q => q.unheld I.ok) fun _ _ z => z.elim
def caught (n : Nat) (th : TH) (D : Ends) : XK := fun v _ H => ∃ C e dx ar tb, v = .ref e ∧ Fly C e dx ar tb H ∧ ∀ σ : St, σ.length = n → ∀ b, H b = none → b ≠ e → th C e dx ar b D σ (past H C e dx ar b)
def tTry (n : Nat) (tb : XK → TS) (th : TH) : TS := fun D σ H => tb (caught n th D) D σ H
theorem fly_past {C : Addr} {dx ar : Option Addr} {b : Addr} (h : b ≠ e) : Fly C e dx ar (some b) (past H C e dx ar b) := by
  refine ⟨upd_same, fun b' z => ?_⟩
  cases z
  exact ⟨by show upd _ _ _ _ = _; rw [upd_ne h, upd_same], h⟩
theorem ps_try {body : List Stmt} {h₀ : ExceptHandler} {hs : List ExceptHandler} {pos : Pos} {tb : XK → TS} {th : TH} (hst : X.stack = X.env :: X.outer) (hfr : X.env.frame = some X.env.locals)
    (hb : ∀ (E : XK) (ps : List (Addr × Obj)) (xe : Value → Shared → Prop), Passes (CXo X.prog X.w) (X.tried ps xe) E → PSs (X.tried ps xe) body (tb E)) (hh : PHs X (h₀ :: hs) th) : PS X (.Try body (h₀ :: hs) [] [] pos) (tTry X.N.length tb th) := by
  intro pins s σ H D I h
  refine wpAny_Try_except ?_
  have run := hb (caught X.N.length th D) pins (fun v s' => ∃ σ' H', Inv X pins σ' H' s' ∧ caught X.N.length th D v none H') (fun pins' σ' H' s' v s'' I' q => ?_) [] s σ H D I.tried h
  · refine wpAny_mono run (fun fl s1 q => ?_) fun v s1 q => ?_
    · have q' := q.untried
      cases fl with
      | next => exact wpAny_pure q'
      | ret u => exact q'
      | brk => exact q'
      | cont => exact q'
    · obtain ⟨σ', H', I', C, e, dx, ar, tb', rfl, fl, k⟩ := q
      exact note_ok hst hfr I' fl.1 fl.2 I'.ok.frames fun b s2 f1 f2 J => hh pins s2 σ' _ D C e dx ar b J (fly_past f2) (k σ' I'.len b f1 f2)
  · obtain ⟨u, H2, I2, rv, ⟨a, ea⟩, q⟩ := I'.after q
    exact ⟨_, H2, I2.untried, q⟩
end
end L2

set_option Elab.async false
set_option linter.all false
set_option maxRecDepth 100000
namespace L2
open PySem PySem.Spec PyProof.Rows
section
variable {prog : Program} {w : World} {A : Around} {E : Value → Shared → Prop} {s : Shared}
def TNext (it t : Addr) (i : Nat) (s : Shared) (Q : Value → Shared → Prop) (E : Value → Shared → Prop) : Option Value → Prop
  | some x => ∀ h', h'.IsTupleIter it t (i + 1) → Heap.SameBut it s.heap h' → Q x { s with heap := h' }
  | none => ∀ h' e, Heap.ExtBut it s.heap h' → (∃ o, h'.get? e = some o ∧ o.cls = .type "StopIteration") → E (.ref e) { s with heap := h' }
theorem tnext {it t : Addr} {i : Nat} {its : Array Value} {o : Option Value} {Q : Value → Shared → Prop} (hh : A.handled = none) (ti : s.heap.IsTupleIter it t i) (tt : s.heap.IsTuple t its) (hx : its[i]? = o) (hk : TNext it t i s Q E o) : wpAny (model prog w) A (Builtin.SmallTypes.nextOf (.ref it)) Q E s := by
  have h0 : A.in1.handled = none := hh
  have nn : ¬ (Value.ref t == Value.none) = true := fun z => Bool.false_ne_true z
  have me := PySem.F.entry_tuple_iterator_next
  rcases id ti with ⟨ob, e1, e2, e3⟩
  rcases tt with ⟨ol, f1, _, nl, f2⟩
  delta Builtin.SmallTypes.nextOf
  refine wpAny_bind (wpAny_callSpecial?_slot (name := Str.ofString "__next__") ti.typeIs PySem.F.slot_tuple_iterator_next (wpAny_call_entry PySem.F.slot_tuple_iterator_next ti.typeIs me ?_ (PySem.F.args_tuple_iterator_next_1 _)))
  refine wpAny_bind (m := field (.ref it) 0) (wpAny_field e1 e3 (x := .ref t) rfl ?_)
  rw [if_neg nn]
  refine wpAny_bind (m := field (.ref it) 1) (wpAny_field e1 e3 (x := .int i 0) rfl (wpAny_bind (m := seqItems? (.ref t)) (wpAny_seqItems f1 f2 ?_)))
  simp only [hx, Int.toNat_natCast]
  cases o with
  | some x =>
    refine wpAny_bind (wpAny_setField e1 e3 (by simp) (wpAny_pure ⟨x, rfl, wpAny_pure (hk _ ⟨_, Heap.get?_update_self _ e1 (Obj.isFreed_of_fields (Obj.data_mapFields e3 _)), (Obj.cls_mapFields ..).trans e2, ?_⟩ (Heap.SameBut.update ..))⟩))
    simp [rawInt, Obj.data_mapFields e3]
  | none =>
    refine wpAny_bind (wpAny_rule (wpAny_bind (wpAny_setField e1 e3 (by simp) (wpAny_bind (m := newExc (.type "StopIteration") []) ?_))))
    simp only [newExc, newTuple]
    refine wpAny_bind (wpAny_newObj_type (wpAny_bind (m := firstArgMember _ _) (wpAny_of_eq (a := Value.none) (by first | rfl | (simp only [firstArgMember]; rfl)) (wpAny_newObj_type ?_ (by size_fits)))) (by size_fits))
    simp only [raiseNew]
    have last : ∀ {h1 : Heap} (x : Heap.ExtBut it s.heap h1) {e : Addr} {o : Obj} (_ : h1.get? e = some o) (_ : o.cls = .type "StopIteration"), E (.ref e) { s with heap := h1 } := fun {_} x {_ _} q1 q2 => hk _ _ x ⟨_, q1, q2⟩
    refine wpAny_bind ?_
    refine wpAny_handled ?_
    rw [h0]
    refine wpAny_bind (wpAny_pure (wpAny_throw (last (((Heap.SameBut.update ..).extBut.push _).push _) (Heap.get?_push_size _ rfl) rfl)))
theorem drawsT (hh : A.handled = none) (it l : Addr) (hne : l ≠ it) (its : Array Value) : Draws prog w A it [it, l] its.size (fun i v => its[i]? = some v) (fun i h => h.IsTupleIter it l i ∧ h.IsTuple l its) where
  live := fun _ _ ⟨⟨o, ho, _⟩, _⟩ => ⟨o, ho⟩
  frame := fun _ _ _ ⟨p, q⟩ hk => ⟨p.at (hk it (by simp)), q.at (hk l (by simp))⟩
  item := fun i s Q E hi st hQ => tnext hh st.1 st.2 (o := some its[i]) (by simp [hi]) fun h' hit' hs' => hQ _ h' s.toks (by simp [hi]) ⟨hit', st.2.extBut hs'.extBut hne⟩ hs'
  done := fun s Q E st hE => tnext hh st.1 st.2 (o := none) (by simp) hE
theorem enum_newT (l : Addr) (its : Array Value) (n : Nat) (dct : Option Addr) (sl : Array (Option Value)) :
    Meets (Builtin.«enumerate.__new__» ⟨[.type "enumerate", .ref l], []⟩) (fun _ R s => s.heap.get? l = some { cls := .type "tuple", dict := dct, data := .seq its n, slots := sl } ∧
      R (.ok (.ret (.ref (s.heap.push { cls := .type "tuple_iterator", data := .fields #[.ref l, .int 0 0] }).objs.size)))
        { s with heap := (s.heap.push { cls := .type "tuple_iterator", data := .fields #[.ref l, .int 0 0] }).push { cls := .type "enumerate", data := .fields #[.none, .bool false, .ref s.heap.objs.size, rawInt 0, .none, .none] } }) :=
  .of_wp fun prog w A R s h => by
    rcases s with ⟨hp, g, d, tk, os⟩
    rcases h with ⟨hl, h⟩
    have sb := sub_enumerate
    have hL : Heap.IsTuple (Shared.heap ⟨hp, g, d, tk, os⟩) l its := ⟨_, hl, rfl, n, rfl⟩
    wp_walk using AutoSeq1.wpAny_loadPart' hl
    refine wpAny_stack_any ?_
    intro st
    refine wpAny_pure ?_
    split
    · rename_i c _ _ _ _ _
      cases (c == Value.type "enumerate") <;> (wp_walk using AutoSeq1.wpAny_loadPart' hl, wpAny_pyIter_tuple hL; exact ⟨_, rfl, h⟩)
    · wp_walk using AutoSeq1.wpAny_loadPart' hl, wpAny_pyIter_tuple hL
      exact ⟨_, rfl, h⟩
theorem call_enumT {l : Addr} {its : Array Value} {Q : Value → Shared → Prop} (hL : s.heap.IsTuple l its)
    (h : ∀ h', IsEnum h' (s.heap.objs.size + 1) s.heap.objs.size 0 .none → h'.IsTupleIter s.heap.objs.size l 0 → h'.objs.size = s.heap.objs.size + 2 → (∀ b o, s.heap.get? b = some o → h'.get? b = some o) → Q (.ref (s.heap.objs.size + 1)) { s with heap := h' }) : wpAny (model prog w) A (call (.type "enumerate") [.ref l]) Q E s := by
  rcases hL with ⟨⟨c, dct, dt, sl⟩, hl, hc, n, hd⟩
  replace hc : c = .type "tuple" := hc
  replace hd : dt = .seq its n := hd
  subst hc hd
  refine callType_new PySem.F.called_enumerate (by decide) (PySem.F.typeCall_enumerate_1 _) (PySem.F.newCall_enumerate_1 _) (fun obj => PySem.F.args_object_init_2 obj _) PySem.F.entry_enumerate_new (enum_newT l its n dct sl) ⟨hl, ?_⟩
  have hz : (s.heap.push { cls := .type "tuple_iterator", data := .fields #[.ref l, .int 0 0] }).objs.size = s.heap.objs.size + 1 := Heap.size_push ..
  show _ ∧ _
  rw [hz]
  have he : IsEnum ((s.heap.push { cls := .type "tuple_iterator", data := .fields #[.ref l, .int 0 0] }).push { cls := .type "enumerate", data := .fields #[.none, .bool false, .ref s.heap.objs.size, rawInt 0, .none, .none] }) (s.heap.objs.size + 1) s.heap.objs.size 0 .none := by
    have z := Heap.get?_push_size (s.heap.push { cls := .type "tuple_iterator", data := .fields #[.ref l, .int 0 0] }) (o := { cls := .type "enumerate", data := .fields #[.none, .bool false, .ref s.heap.objs.size, rawInt 0, .none, .none] }) rfl
    rw [hz] at z
    exact z
  exact ⟨⟨_, he, rfl⟩, h _ he ⟨_, Heap.get?_push_of_some _ (Heap.get?_push_size _ rfl), rfl, rfl⟩ (by rw [Heap.size_push, hz]) fun b o x => Heap.get?_push_of_some _ (Heap.get?_push_of_some _ x)⟩
end
def SqB (K : PySem.W.Frag) (tp : Bool) (H : Hp) (a : Addr) (xs : List V) : Prop := if tp then SqT K H a xs else SqL K H a xs
def Ite (K : PySem.W.Frag) (tp : Bool) (a : Addr) : It :=
  ⟨fun i H => ∃ xs x, SqB K tp H a xs ∧ xs[i]? = some x, fun i H v H' => ∃ t x, v = .ref t ∧ H t = none ∧ (∀ xs, SqB K tp H a xs → xs[i]? = some x) ∧ H' = upd H t (.tup [.int i, x]), fun i H => ∃ xs, SqB K tp H a xs ∧ xs.length = i⟩
def ItS (tp : Bool) (h : Heap) (it a : Addr) (i : Nat) : Prop := if tp then h.IsTupleIter it a i else h.IsListIter it a i
theorem seqB_lt {X : Cx} {pins : List (Addr × Obj)} {σ : St} {H : Hp} {s : Shared} {tp : Bool} {a : Addr} {xs : List V} (I : Inv X pins σ H s) (h : SqB X.K tp H a xs) :
    ∃ its : List Value, Vals xs its ∧ (if tp then s.heap.IsTuple a its.toArray else s.heap.IsList a its.toArray) ∧ xs.length ≤ sizeLine := by
  cases tp with
  | true => obtain ⟨its, r, p, z⟩ := I.tuple h; exact ⟨its, r, p, z⟩
  | false => obtain ⟨its, r, p, z⟩ := I.list h; exact ⟨its, r, p.isList, z⟩
end L2

set_option Elab.async false
set_option linter.all false
set_option maxRecDepth 100000
namespace L2
open PySem PySem.Spec PyProof.Rows
theorem Inv.turn2 {X : Cx} {pins : List (Addr × Obj)} {σ : St} {H : Hp} {s : Shared} {h' : Heap} {t' : Nat} {e it : Addr} {xs : List V} {us : List Value} (I : Inv X pins σ H s) (f1 : FpOk X pins H e) (f2 : FpOk X pins H it)
    (k : ∀ b o, b ≠ e → b ≠ it → s.heap.get? b = some o → h'.get? b = some o) (there : ∀ b o, s.heap.get? b = some o → ∃ o', h'.get? b = some o')
    (r : Vals xs us) (hz : xs.length ≤ sizeLine) (hT : h'.get? s.heap.objs.size = some { cls := .type "tuple", data := .seq us.toArray }) :
    Inv X pins σ (upd H s.heap.objs.size (.tup xs)) { s with heap := h', toks := t' } := by
  have fT : H s.heap.objs.size = none := I.hok.fresh (Nat.le_refl _)
  have nT : ∀ b o, s.heap.get? b = some o → b ≠ s.heap.objs.size := fun b o q => Nat.ne_of_lt (Heap.lt_size q)
  have nH : ∀ b u, H b = some u → b ≠ e ∧ b ≠ it := fun b u q => ⟨fun z => (by rw [z, f1.1] at q; cases q), fun z => (by rw [z, f2.1] at q; cases q)⟩
  have mem : ∀ b, b ∉ [e, it] → b ≠ e ∧ b ≠ it := fun b hb => ⟨fun z => hb (by simp [z]), fun z => hb (by simp [z])⟩
  refine I.step (g' := s.gens) (d' := s.drawn) (ch := [e, it]) (fun b hb => ?_) (fun b o _ _ hc q _ => k b o (mem b hc).1 (mem b hc).2 q) (fun b o _ _ hc q _ => ⟨o.slots, k b o (mem b hc).1 (mem b hc).2 q⟩)
    (fun b o _ q n => by rw [upd_ne (nT b o q)]; exact n) (fun b o _ q => there b o q) (fun b ys q => by rw [upd_ne (ne_of_none q fT)]; exact q) (fun b o u q => by rw [upd_ne (ne_of_none q fT)]; exact q)
    (fun b ps q => ⟨#[], by rw [upd_ne (ne_of_none q fT), q]; simp⟩) (fun m hm => ?_) (fun b u q => ?_) I.bare
  · have hb' : b = e ∨ b = it := by simpa using hb
    rcases hb' with rfl | rfl
    · exact ⟨f1.2.2.2.1, f1.2.1, f1.2.2.2.2.1, f1.2.2.2.2.2⟩
    · exact ⟨f2.2.2.2.1, f2.2.1, f2.2.2.2.2.1, f2.2.2.2.2.2⟩
  · obtain ⟨o, es, ep, ho, r⟩ := hm
    exact ⟨o, es, ep, k _ o (Ne.symm f1.2.1) (Ne.symm f2.2.1) ho, r⟩
  · by_cases hb : b = s.heap.objs.size
    · subst hb
      rw [upd_same] at q
      cases q
      exact ⟨hz, us, r, ⟨_, hT, rfl, _, rfl⟩, fun o z => by rw [hT] at z; cases z; rfl⟩
    · rw [upd_ne hb] at q
      refine (I.hok b u q).stay (fun c v hc z => ?_) (fun c z => by rw [upd_ne (ne_of_none z fT)]; exact z) fun c ys z => by rw [upd_ne (ne_of_none z fT)]; exact z
      rcases hc with rfl | hc
      · exact k _ v (nH _ _ q).1 (nH _ _ q).2 z
      · exact k _ v (nH _ _ hc).1 (nH _ _ hc).2 z

theorem turn_enum {P : Program} {w : World} {K : PySem.W.Frag} {elts : List Expr} {kk : Nat} {tpos : Pos} (tp : Bool) (a e it : Addr) (h1 : e ≠ it) (h2 : a ≠ e) (h3 : a ≠ it) :
    Turn P w K (.Tuple elts kk tpos) (Ite K tp a) [e, it] e (fun i h => (∃ old, IsEnum h e it i old) ∧ ItS tp h it a i) where
  mem := by simp
  obj := fun i h st b hb => by
    obtain ⟨⟨old, he⟩, hi⟩ := st
    have hb' : b = e ∨ b = it := by simpa using hb
    rcases hb' with rfl | rfl
    · exact ⟨_, he, fun v z => by have z' : Data.fields _ = Data.cell v := z; cases z'⟩
    · cases tp with
      | true => obtain ⟨o, q, c, d⟩ := (show h.IsTupleIter b a i from hi); exact ⟨o, q, fun v z => by rw [d] at z; cases z⟩
      | false => obtain ⟨o, q, c, d⟩ := (show h.IsListIter b a i from hi); exact ⟨o, q, fun v z => by rw [d] at z; cases z⟩
  keep := fun i h h' st k => by
    obtain ⟨⟨old, he⟩, hi⟩ := st
    refine ⟨⟨old, k e (by simp) _ he⟩, ?_⟩
    cases tp with
    | true => exact (show h.IsTupleIter it a i from hi).at fun o q => k it (by simp) o q
    | false => exact (show h.IsListIter it a i from hi).at fun o q => k it (by simp) o q
  item := by
    intro X hP hw hK hc i pins s σ H E I hf st hg
    subst hP hw hK
    obtain ⟨⟨old, he⟩, hi⟩ := st
    obtain ⟨xs, x, hq, hx⟩ := hg
    obtain ⟨its, rv, p, hz⟩ := seqB_lt I hq
    obtain ⟨u, hu, ru⟩ := rv.get hx
    have hlt : i < its.toArray.size := by
      have := (List.getElem?_eq_some_iff.mp hx).1
      rw [List.size_toArray, ← rv.length]
      exact this
    have hh : X.A.in1.handled = none := I.ok.hd hc
    have fin : ∀ (x' : Value) (h' : Heap) (tk : Nat), its.toArray[i]? = some x' → IsEnumOut h' e it ((i : Int) + 1) x' s.heap.objs.size → ItS tp h' it a (i + 1) → h'.get? s.heap.objs.size = some { cls := .type "tuple", data := .seq #[.int i tk, x'] } →
        (∀ b o, b ≠ e → b ≠ it → s.heap.get? b = some o → h'.get? b = some o) → ∃ u, some (Value.ref s.heap.objs.size) = some u ∧
          wpAny (model X.prog X.w) X.A (letOwnedTupleGo (.Tuple elts kk tpos) (.ref e) u) (fun _ s2 => ∃ x H', Inv X pins σ H' s2 ∧ RelV x u ∧ (Ite X.K tp a).yld i H x H' ∧ ((∃ old, IsEnum s2.heap e it ((i + 1 : Nat) : Int) old) ∧ ItS tp s2.heap it a (i + 1)) ∧ ∀ b ∈ [e, it], H' b = none) E { s with heap := h', toks := tk + 1 } := by
      intro x' h' tk hP hout hS hT hk
      have ex : x' = u := by
        have : its[i]? = some x' := by simpa using hP
        rw [hu] at this
        exact Eq.symm (Option.some.inj this)
      subst ex
      refine ⟨_, rfl, wpAny_letOwnedTupleGo_enum (s := { s with heap := h', toks := tk + 1 }) hout fun h2' he2 hs2 => ?_⟩
      have nTe : s.heap.objs.size ≠ e := Nat.ne_of_gt (Heap.lt_size he)
      have itlt : it < s.heap.objs.size := by
        cases tp with
        | true => obtain ⟨o, q, _⟩ := (show s.heap.IsTupleIter it a i from hi); exact Heap.lt_size q
        | false => obtain ⟨o, q, _⟩ := (show s.heap.IsListIter it a i from hi); exact Heap.lt_size q
      have S2 : ItS tp h2' it a (i + 1) := by
        cases tp with
        | true => exact (show h'.IsTupleIter it a (i + 1) from hS).extBut hs2.extBut (Ne.symm h1)
        | false => exact (show h'.IsListIter it a (i + 1) from hS).extBut hs2.extBut (Ne.symm h1)
      have J : Inv X pins σ (upd H s.heap.objs.size (.tup [.int i, x])) { s with heap := h2', toks := tk + 1 } := by
        refine I.turn2 (xs := [.int i, x]) (us := [.int i tk, x']) (hf e (by simp)) (hf it (by simp)) (fun b o q1 q2 q => hs2.extBut b o q1 (hk b o q1 q2 q)) (fun b o q => ?_) (.cons ⟨tk, rfl⟩ (.cons ru .nil)) (by show 2 ≤ sizeLine; decide) (hs2.extBut _ _ nTe hT)
        by_cases q1 : b = e
        · rw [q1]; exact ⟨_, he2⟩
        · by_cases q2 : b = it
          · rw [q2]
            cases tp with
            | true => obtain ⟨o', z, _⟩ := (show h2'.IsTupleIter it a (i + 1) from S2); exact ⟨o', z⟩
            | false => obtain ⟨o', z, _⟩ := (show h2'.IsListIter it a (i + 1) from S2); exact ⟨o', z⟩
          · exact ⟨o, hs2.extBut b o q1 (hk b o q1 q2 q)⟩
      refine ⟨.ref s.heap.objs.size, _, J, rfl, ⟨_, x, rfl, I.hok.fresh (Nat.le_refl _), fun ys hy => ?_, rfl⟩, ⟨⟨_, by simpa using he2⟩, S2⟩, fun b hb => ?_⟩
      · have e2 : ys = xs := by
          cases tp with
          | true => exact I.tuple_inj hy hq
          | false => exact I.list_inj hy hq
        rw [e2]
        exact hx
      have hb' : b = e ∨ b = it := by simpa using hb
      rcases hb' with rfl | rfl
      · rw [upd_ne (Ne.symm nTe)]; exact (hf b (by simp)).1
      · rw [upd_ne (Nat.ne_of_lt itlt)]; exact (hf b (by simp)).1
    have hef : e ∉ [it, a] := fun z => by
      have z' : e = it ∨ e = a := by simpa using z
      rcases z' with z | z
      · exact h1 z
      · exact h2 z.symm
    cases tp with
    | true => exact wpAny_pyNext_enum_itemD (drawsT hh it a h3 its.toArray) he ⟨hi, p⟩ hlt h1 hef fun x' h' tk hP hout hSt hT hsz hk => fin x' h' tk hP hout hSt.1 hT hk
    | false => exact wpAny_pyNext_enum_itemD (Draws.list hh it a h3 its.toArray) he ⟨hi, p⟩ hlt h1 hef fun x' h' tk hP hout hSt hT hsz hk => fin x' h' tk hP hout hSt.1 hT hk
  done := by
    intro X hP hw hK hc i pins s σ H E I hf st hg
    subst hP hw hK
    obtain ⟨⟨old, he⟩, hi⟩ := st
    obtain ⟨xs, hq, hx⟩ := hg
    obtain ⟨its, rv, p, hz⟩ := seqB_lt I hq
    have en : i = its.toArray.size := by rw [List.size_toArray, ← rv.length]; exact hx.symm
    subst en
    have hh : X.A.in1.handled = none := I.ok.hd hc
    obtain ⟨f0, f1, f2, f3, f4, f5⟩ := hf it (by simp)
    cases tp with
    | true => exact wpAny_pyNext_enum_endD (drawsT hh it a h3 its.toArray) he ⟨hi, p⟩ fun h' eb => ⟨rfl, I.turned (t' := s.toks) (fun b o hb q => eb b o hb q) f0 f1 f3 f4 f5⟩
    | false => exact wpAny_pyNext_enum_endD (Draws.list hh it a h3 its.toArray) he ⟨hi, p⟩ fun h' eb => ⟨rfl, I.turned (t' := s.toks) (fun b o hb q => eb b o hb q) f0 f1 f3 f4 f5⟩
  self := fun _ _ _ _ _ st h => by
    obtain ⟨⟨old, he⟩, _⟩ := st
    exact wpAny_pyIter_enum he h
section
variable {X : Cx}
def iEnum (K : PySem.W.Frag) (tp : Bool) (ta : TA) : TI := fun σ H R => ta σ H fun vs H1 => ∃ a, vs = [.ref a] ∧ (∃ xs, SqB K tp H1 a xs) ∧ R (Ite K tp a) H1
theorem pi_enum {elts : List Expr} {kk : Nat} {tpos p pos : Pos} {l : Expr} {ta : TA} (tp : Bool) (hg : Gl X "enumerate") (hm : X.mg "enumerate" = none) (hv : bootBuiltins "enumerate" = some (.type "enumerate")) (ha : PA X [l] ta) (hs : starEach [l] X.env = [(false, eval l X.env)] := by rfl) :
    PI X (.Tuple elts kk tpos) (.Call (.Name "enumerate" p) [l] [] pos) (iEnum X.K tp ta) := by
  intro pins s σ H R I h
  refine Call_ (ld_blt I hg hm hv (PyProof.Rows.callWith_type1 (thn (ha pos pins s σ H _ I h) fun us s1 ⟨vs, H1, I1, r1, q1⟩ => ?_) hs rfl))
  obtain ⟨a, rfl, ⟨xs, hq⟩, q⟩ := q1
  obtain ⟨u, rfl, ru⟩ := vals1 r1
  cases (show u = Value.ref a from ru)
  obtain ⟨its, rv, p, hz⟩ := seqB_lt I1 hq
  have alt : a < s1.heap.objs.size := by
    cases tp with
    | true => obtain ⟨o, z, _⟩ := (show s1.heap.IsTuple a its.toArray from p); exact Heap.lt_size z
    | false => obtain ⟨o, z, _⟩ := (show s1.heap.IsList a its.toArray from p); exact Heap.lt_size z
  have fin : ∀ h', IsEnum h' (s1.heap.objs.size + 1) s1.heap.objs.size 0 .none → ItS tp h' s1.heap.objs.size a 0 → (∀ b o, s1.heap.get? b = some o → h'.get? b = some o) →
      wpAny (model X.prog X.w) X.A (pyIter (.ref (s1.heap.objs.size + 1))) (PIE X pins σ (.Tuple elts kk tpos) R) X.xe { s1 with heap := h' } := fun h' he hS hk => by
    refine wpAny_pyIter_enum (s := { s1 with heap := h' }) he ?_
    refine ⟨s1.heap.objs.size + 1, [s1.heap.objs.size + 1, s1.heap.objs.size], _, _, H1, rfl, I1.kept (t' := s1.toks) hk, turn_enum tp a _ _ (Nat.ne_of_gt (Nat.lt_succ_self _)) (Nat.ne_of_lt (Nat.lt_succ_of_lt alt)) (Nat.ne_of_lt alt), ⟨⟨_, by simpa using he⟩, hS⟩, fun b hb => ?_, q⟩
    have hb' : b = s1.heap.objs.size + 1 ∨ b = s1.heap.objs.size := by simpa using hb
    rcases hb' with rfl | rfl
    · exact I1.fpOk (Nat.le_succ _) (I1.hok.fresh (Nat.le_succ _))
    · exact I1.fpOk (Nat.le_refl _) (I1.hok.fresh (Nat.le_refl _))
  cases tp with
  | true => exact call_enumT p fun h' he hS _ hk => fin h' he hS hk
  | false => exact call_enumerate_list p fun h' he hS _ hk => fin h' he hS hk
theorem for_enum {K : PySem.W.Frag} {tp : Bool} {a : Addr} {xs : List V} {g : TG} {tb : TS} {D : Ends} {σ : St} {H : Hp} (Pv : Nat → St → Hp → Prop) (h0 : Pv 0 σ H) (hl : ∀ i σ H, i ≤ xs.length → Pv i σ H → SqB K tp H a xs)
    (hs : ∀ i x t σ H, xs[i]? = some x → Pv i σ H → H t = none → g (.ref t) σ (upd H t (.tup [.int i, x])) fun σ2 H2 => tb { D with nx := Pv (i + 1), ct := Pv (i + 1), bk := D.nx } σ2 H2) (hd : ∀ σ H, Pv xs.length σ H → D.nx σ H) :
    ∃ W : Nat → Nat → St → Hp → Prop, (∃ m, W 0 m σ H) ∧ ∀ i m σ H, W i m σ H →
      ((Ite K tp a).stop i H ∧ D.nx σ H) ∨ ((Ite K tp a).go i H ∧ ∃ N : St → Hp → Prop, (∀ σ' H', N σ' H' → ∃ m', m' < m ∧ W (i + 1) m' σ' H') ∧ ∀ x H', (Ite K tp a).yld i H x H' → g x σ H' fun σ2 H2 => tb { D with nx := N, ct := N, bk := D.nx } σ2 H2) := by
  refine ⟨fun i m σ H => m = xs.length - i ∧ i ≤ xs.length ∧ Pv i σ H, ⟨xs.length, by simp, Nat.zero_le _, h0⟩, ?_⟩
  rintro i m σ H ⟨rfl, hi, p⟩
  have q := hl i σ H hi p
  by_cases hlt : i < xs.length
  · refine .inr ⟨⟨xs, xs[i], q, by simp [hlt]⟩, Pv (i + 1), fun σ' H' p' => ⟨xs.length - (i + 1), by omega, rfl, hlt, p'⟩, fun x H' y => ?_⟩
    obtain ⟨t, z, rfl, ht, hy, rfl⟩ := y
    exact hs i z t σ H (hy xs q) p ht
  · have e : i = xs.length := by omega
    subst e
    exact .inl ⟨⟨xs, q, rfl⟩, hd σ H p⟩
end
end L2

set_option Elab.async false
set_option linter.all false
set_option maxRecDepth 100000
namespace L2
open PySem PySem.Spec PyProof.Rows
section
variable {prog : Program} {w : World} {A : Around} {E : Value → Shared → Prop}
end
section
variable {X : Cx} {pos : Pos}
end
end L2

set_option Elab.async false
set_option linter.all false
set_option maxRecDepth 100000
namespace L2
open PySem PySem.Spec PyProof.Rows
theorem bt_len : bootBuiltins "len" = some (.builtin "len") := by decide +kernel
theorem bt_max : bootBuiltins "max" = some (.builtin "max") := by decide +kernel
theorem bt_min : bootBuiltins "min" = some (.builtin "min") := by decide +kernel
theorem bt_isinstance : bootBuiltins "isinstance" = some (.builtin "isinstance") := by decide +kernel
theorem bt_list : bootBuiltins "list" = some (.type "list") := by decide +kernel
theorem bt_tuple : bootBuiltins "tuple" = some (.type "tuple") := by decide +kernel
theorem bt_int : bootBuiltins "int" = some (.type "int") := by decide +kernel
theorem bt_bool : bootBuiltins "bool" = some (.type "bool") := by decide +kernel
theorem bt_enumerate : bootBuiltins "enumerate" = some (.type "enumerate") := by decide +kernel
structure Dn (K : PySem.W.Frag) (mg : Str → Option Value) (x qual : Str) (st : Stmt) (ps : List Str) (f : Addr) (fd : FuncData) : Prop where
  fn : Fun K x qual st f fd
  b : Binds K fd ps []
  m : mg x = some (.ref f)
theorem dn_mk {K : PySem.W.Frag} {h : Heap} {mg : Str → Option Value} (X : K.In h) (G : h.Ns mainGlobals mg) {x : Str} {st : Stmt} {ps : List Str} {f : Addr} {oc : Value} {od an : Option Addr} {osl : Array (Option Value)} {kV doc pm cdv ct : Value}
    (a : PySem.W.nsIn K mainGlobals x = some (some (.ref f))) (l : K.lookup f = some ⟨oc, od, .func (PySem.W.fnOf x x (defArgs st) (defBody st) (defScope st) .none kV doc pm an cdv ct), osl⟩)
    (c : PySem.W.codeIn K cdv x = true) (k : PySem.W.keepIn K (.ref f) = true)
    (b : ∀ (kV doc pm : Value) (an : Option Addr) (cdv ct : Value) (us : List Value), us.length = ps.length → bindArgs (PySem.W.fnOf x x (defArgs st) (defBody st) (defScope st) .none kV doc pm an cdv ct) ⟨us, []⟩ = pure (ps.zip us)) :
    ∃ f fd, Dn K mg x x st ps f fd := ⟨f, _, fun_mk (st := st) l c k, (fun_mk (st := st) l c k).binds b, PySem.W.mg_of X G a⟩
def isStar : Expr → Bool
  | .Starred _ _ => true
  | _ => false
theorem star_cons {e : Expr} {es : List Expr} {env : Env} (h : isStar e = false) : starEach (e :: es) env = (false, eval e env) :: starEach es env := by
  cases e with
  | Starred a b => exact Bool.noConfusion h
  | _ => kernel_rfl
theorem pa_c {X : Cx} {e : Expr} {es : List Expr} {te : TE} {t : TA} (ha : PE X e te) (hr : PA X es t) (h : isStar e = false := by rfl) : PA X (e :: es) (tCons te t) := pa_cons ha hr (star_cons h)
section
variable {X : Cx} {es : List Expr} {t : TA} {j : Nat} {p : Pos}
theorem pa_ofE {e : Expr} {te : TE} (ha : PE X e te) (hs : isStar e = false) (h : PA X es t) : PA X (e :: es) (tCons te t) := pa_c ha h hs
theorem pa_non (h : PA X es t) : PA X (.Constant .none j p :: es) (tCons (tC .non) t) := pa_ofE pe_non rfl h
theorem pa_bl {b : Bool} (h : PA X es t) : PA X (.Constant (.bool b) j p :: es) (tCons (tC (.bl b)) t) := pa_ofE pe_bl rfl h
theorem pa_str {x : Str} (h : PA X es t) : PA X (.Constant (.str x) j p :: es) (tCons (tC (.str x)) t) := pa_ofE pe_str rfl h
theorem pa_int {i : Int} (h : PA X es t) : PA X (.Constant (.int i) j p :: es) (tCons (tC (.int i)) t) := pa_ofE pe_int rfl h
theorem pa_lst {es' : List Expr} {t' : TA} (h' : PA X es' t') (h : PA X es t) : PA X (.List es' p :: es) (tCons (tLst t') t) := pa_ofE (pe_lst h') rfl h
theorem pa_tup {es' : List Expr} {t' : TA} {k : Nat} (h' : PA X es' t') (h : PA X es t) : PA X (.Tuple es' k p :: es) (tCons (tTup t') t) := pa_ofE (pe_tup h') rfl h
theorem pa_dnew (h : PA X es t) : PA X (.Dict [] [] p :: es) (tCons tDNewK t) := pa_ofE pe_dnewK rfl h
end
def blkOk (fs : Scope) (scope : Scope) (N : List Str) (x : Str) (Nf : List Str) (js : List Nat) : Bool :=
  (scope.kind == .function) && scope.names.all (fun y => y.2 != .cell) && scope.names.all (fun y => y.2 != .local || scope.names.lookup y.1 == some .local) && (scope.names.lookup x == some .local) &&
    decide (x :: Nf).Nodup && scope.names.all (fun y => y.2 != .free || fs.names.lookup y.1 == some .cell) && (Nf.length == js.length) &&
    (Nf.zip js).all (fun p => N[p.2]? == some p.1 && scope.names.lookup p.1 == some .free && fs.names.lookup p.1 == some .cell)
theorem blk_mk {X : Cx} {scope : Scope} {x : Str} (Nf : List Str) (js : List Nat) (h : blkOk X.env.scope scope X.N x Nf js = true := by kernel_rfl) : BlkScope X scope x Nf js := by
  unfold blkOk at h
  simp only [Bool.and_eq_true, beq_iff_eq, decide_eq_true_eq] at h
  obtain ⟨⟨⟨⟨⟨⟨⟨h1, h2⟩, h3⟩, h4⟩, h5⟩, h6⟩, h7⟩, h8⟩ := h
  refine ⟨h1, fun y hy => ?_, fun y hy hl => ?_, h4, h5, fun y hy hf => ?_, h7, fun i z hz => ?_⟩
  · have := List.all_eq_true.mp h2 y hy
    simpa using this
  · have := List.all_eq_true.mp h3 y hy
    rw [hl] at this
    simpa using this
  · have := List.all_eq_true.mp h6 y hy
    rw [hf] at this
    show X.env.scope.names.lookup y.1 = some .cell
    simpa using this
  · have hi : i < js.length := by rw [← h7]; exact (List.getElem?_eq_some_iff.mp hz).1
    have hm : (z, js[i]) ∈ Nf.zip js := by
      have e : (Nf.zip js)[i]? = some (z, js[i]) := by
        rw [List.getElem?_zip_eq_some]
        exact ⟨hz, by simp [hi]⟩
      exact List.mem_of_getElem? e
    have q := List.all_eq_true.mp h8 _ hm
    rw [Bool.and_eq_true, Bool.and_eq_true, beq_iff_eq, beq_iff_eq, beq_iff_eq] at q
    exact ⟨js[i], by simp [hi], q.1.1, q.1.2, q.2⟩
def ItB (K : PySem.W.Frag) (tp : Bool) (a : Addr) : It := if tp then Itt K a else Itl K a
def iSeq (K : PySem.W.Frag) (tp : Bool) (tl : TE) : TI := fun σ H R => tl σ H fun x H1 => ∃ a, x = .ref a ∧ (∃ xs, SqB K tp H1 a xs) ∧ R (ItB K tp a) H1
theorem pi_seq {X : Cx} {tg l : Expr} {tl : TE} (tp : Bool) (hl : PE X l tl) : PI X tg l (iSeq X.K tp tl) := by
  cases tp with
  | true => exact pi_tup hl
  | false => exact pi_list hl
def KB (p : Addr) (H H' : Hp) : Prop := ∀ b o, H b = some o → b ≠ p → H' b = some o
theorem KB.refl {p : Addr} {H : Hp} : KB p H H := fun _ _ h _ => h
theorem KB.trans {p : Addr} {H H1 H2 : Hp} (a : KB p H H1) (b : KB p H1 H2) : KB p H H2 := fun c o h n => b c o (a c o h n) n
theorem Same.kb {p : Addr} {H H' : Hp} (a : Same H H') : KB p H H' := fun b o h _ => a b o h
theorem Same.upd {H : Hp} {p : Addr} {o : HO} (h : H p = none) : Same H (upd H p o) := fun b u q => by rw [upd_ne (ne_of_none q h)]; exact q
theorem KB.updN {H H1 : Hp} {p q : Addr} {o : HO} (k : KB p H H1) (h : H1 q = none) : KB p H (upd H1 q o) := fun b u z n => by rw [upd_ne (ne_of_none (k b u z n) h)]; exact k b u z n
theorem KB.updP {H H1 : Hp} {p : Addr} {o : HO} (k : KB p H H1) : KB p H (upd H1 p o) := fun b u z n => by rw [upd_ne n]; exact k b u z n
end L2

set_option Elab.async false
set_option linter.all false
set_option maxRecDepth 100000
namespace L2
open PySem PySem.Spec PyProof.Rows
def kD : Key → PyData
  | .inl i => .int i
  | .inr x => .str x
mutual
inductive DV (N : Addr → Prop) (H : Hp) : V → PyData → Prop
  | non : DV N H .non .none
  | bl (b : Bool) : DV N H (.bl b) (.bool b)
  | int (i : Int) : DV N H (.int i) (.int i)
  | str (x : Str) : DV N H (.str x) (.str x)
  | lst {a : Addr} {xs : List V} {ds : List PyData} : ¬ N a → H a = some (.lst xs) → DVs N H xs ds → DV N H (.ref a) (.list ds)
  | tup {a : Addr} {xs : List V} {ds : List PyData} : ¬ N a → H a = some (.tup xs) → DVs N H xs ds → DV N H (.ref a) (.tuple ds)
  | dct {a : Addr} {kvs : List (Key × V)} {ds : List (PyData × PyData)} : ¬ N a → H a = some (.dK kvs) → DKs N H kvs ds → DV N H (.ref a) (.dict ds)
inductive DVs (N : Addr → Prop) (H : Hp) : List V → List PyData → Prop
  | nil : DVs N H [] []
  | cons {v : V} {d : PyData} {vs : List V} {ds : List PyData} : DV N H v d → DVs N H vs ds → DVs N H (v :: vs) (d :: ds)
inductive DKs (N : Addr → Prop) (H : Hp) : List (Key × V) → List (PyData × PyData) → Prop
  | nil : DKs N H [] []
  | cons {k : Key} {v : V} {d : PyData} {vs : List (Key × V)} {ds : List (PyData × PyData)} : DV N H v d → DKs N H vs ds → DKs N H ((k, v) :: vs) ((kD k, d) :: ds)
end
mutual
theorem DV.keep {N N' : Addr → Prop} {H H' : Hp} (k : ∀ a o, ¬ N a → H a = some o → H' a = some o) (n : ∀ a, N' a → N a) : ∀ {v : V} {d : PyData}, DV N H v d → DV N' H' v d
  | _, _, .non => .non
  | _, _, .bl b => .bl b
  | _, _, .int i => .int i
  | _, _, .str x => .str x
  | _, _, .lst na e r => .lst (fun z => na (n _ z)) (k _ _ na e) (DVs.keep k n r)
  | _, _, .tup na e r => .tup (fun z => na (n _ z)) (k _ _ na e) (DVs.keep k n r)
  | _, _, .dct na e r => .dct (fun z => na (n _ z)) (k _ _ na e) (DKs.keep k n r)
theorem DVs.keep {N N' : Addr → Prop} {H H' : Hp} (k : ∀ a o, ¬ N a → H a = some o → H' a = some o) (n : ∀ a, N' a → N a) : ∀ {vs : List V} {ds : List PyData}, DVs N H vs ds → DVs N' H' vs ds
  | _, _, .nil => .nil
  | _, _, .cons r t => .cons (DV.keep k n r) (DVs.keep k n t)
theorem DKs.keep {N N' : Addr → Prop} {H H' : Hp} (k : ∀ a o, ¬ N a → H a = some o → H' a = some o) (n : ∀ a, N' a → N a) : ∀ {vs : List (Key × V)} {ds : List (PyData × PyData)}, DKs N H vs ds → DKs N' H' vs ds
  | _, _, .nil => .nil
  | _, _, .cons r t => .cons (DV.keep k n r) (DKs.keep k n t)
end
mutual
theorem DV.one {N N' : Addr → Prop} {H : Hp} : ∀ {v : V} {d d' : PyData}, DV N H v d → DV N' H v d' → d = d'
  | _, _, _, .non, .non => rfl
  | _, _, _, .bl _, .bl _ => rfl
  | _, _, _, .int _, .int _ => rfl
  | _, _, _, .str _, .str _ => rfl
  | _, _, _, .lst _ e r, .lst _ e' r' => by rw [e] at e'; cases e'; rw [DVs.one r r']
  | _, _, _, .tup _ e r, .tup _ e' r' => by rw [e] at e'; cases e'; rw [DVs.one r r']
  | _, _, _, .dct _ e r, .dct _ e' r' => by rw [e] at e'; cases e'; rw [DKs.one r r']
  | _, _, _, .lst _ e _, .tup _ e' _ => by rw [e] at e'; cases e'
  | _, _, _, .lst _ e _, .dct _ e' _ => by rw [e] at e'; cases e'
  | _, _, _, .tup _ e _, .lst _ e' _ => by rw [e] at e'; cases e'
  | _, _, _, .tup _ e _, .dct _ e' _ => by rw [e] at e'; cases e'
  | _, _, _, .dct _ e _, .lst _ e' _ => by rw [e] at e'; cases e'
  | _, _, _, .dct _ e _, .tup _ e' _ => by rw [e] at e'; cases e'
theorem DVs.one {N N' : Addr → Prop} {H : Hp} : ∀ {vs : List V} {ds ds' : List PyData}, DVs N H vs ds → DVs N' H vs ds' → ds = ds'
  | _, _, _, .nil, .nil => rfl
  | _, _, _, .cons r t, .cons r' t' => by rw [DV.one r r', DVs.one t t']
theorem DKs.one {N N' : Addr → Prop} {H : Hp} : ∀ {vs : List (Key × V)} {ds ds' : List (PyData × PyData)}, DKs N H vs ds → DKs N' H vs ds' → ds = ds'
  | _, _, _, .nil, .nil => rfl
  | _, _, _, .cons r t, .cons r' t' => by rw [DV.one r r', DKs.one t t']
end
mutual
theorem DV.avoid {N N' : Addr → Prop} {H : Hp} {a : Addr} {D : PyData} (x : DV N' H (.ref a) D) : ∀ {v : V} {d : PyData}, DV N H v d → d.depth < D.depth → DV (fun b => N b ∨ b = a) H v d
  | _, _, .non, _ => .non
  | _, _, .bl b, _ => .bl b
  | _, _, .int i, _ => .int i
  | _, _, .str y, _ => .str y
  | _, _, .lst na e r, h => .lst (fun z => z.elim na fun q => by subst q; rw [DV.one x (DV.lst na e r)] at h; exact Nat.lt_irrefl _ h) e (DVs.avoid x r (by simp only [PyData.depth] at h; omega))
  | _, _, .tup na e r, h => .tup (fun z => z.elim na fun q => by subst q; rw [DV.one x (DV.tup na e r)] at h; exact Nat.lt_irrefl _ h) e (DVs.avoid x r (by simp only [PyData.depth] at h; omega))
  | _, _, .dct na e r, h => .dct (fun z => z.elim na fun q => by subst q; rw [DV.one x (DV.dct na e r)] at h; exact Nat.lt_irrefl _ h) e (DKs.avoid x r (by simp only [PyData.depth] at h; omega))
theorem DVs.avoid {N N' : Addr → Prop} {H : Hp} {a : Addr} {D : PyData} (x : DV N' H (.ref a) D) : ∀ {vs : List V} {ds : List PyData}, DVs N H vs ds → PyData.depthAll ds < D.depth → DVs (fun b => N b ∨ b = a) H vs ds
  | _, _, .nil, _ => .nil
  | _, _, .cons r t, h => .cons (DV.avoid x r (by simp only [PyData.depthAll] at h; omega)) (DVs.avoid x t (by simp only [PyData.depthAll] at h; omega))
theorem DKs.avoid {N N' : Addr → Prop} {H : Hp} {a : Addr} {D : PyData} (x : DV N' H (.ref a) D) : ∀ {vs : List (Key × V)} {ds : List (PyData × PyData)}, DKs N H vs ds → PyData.depthKv ds < D.depth → DKs (fun b => N b ∨ b = a) H vs ds
  | _, _, .nil, _ => .nil
  | _, _, .cons r t, h => .cons (DV.avoid x r (by simp only [PyData.depthKv] at h; omega)) (DKs.avoid x t (by simp only [PyData.depthKv] at h; omega))
end
def tyD : PyData → Value
  | .none => .type "NoneType" | .bool _ => .type "bool" | .int _ => .type "int" | .str _ => .type "str" | .list _ => .type "list" | .tuple _ => .type "tuple" | .dict _ => .type "dict"
theorem DV.thg {K : PySem.W.Frag} {N : Addr → Prop} {H : Hp} {v : V} {d : PyData} (x : DV N H v d) : Thg K H v (tyD d) := by
  cases x with
  | non => exact .non
  | bl b => exact .bl b
  | int i => exact .int i
  | str x => exact .str x
  | lst _ e _ => exact .lst e
  | tup _ e _ => exact .tup e
  | dct _ e _ => exact .dK e
theorem DVs.things {K : PySem.W.Frag} {N : Addr → Prop} {H : Hp} {vs : List V} {ds : List PyData} (x : DVs N H vs ds) : ∀ v ∈ vs, ∃ t, Thg K H v t := by
  induction vs generalizing ds with
  | nil => intro v hv; cases hv
  | cons v vs ih =>
    cases x with
    | cons r t =>
      intro u hu
      rcases List.mem_cons.mp hu with rfl | hu
      · exact ⟨_, r.thg⟩
      · exact ih t u hu
theorem DVs.length {N : Addr → Prop} {H : Hp} : ∀ {vs : List V} {ds : List PyData}, DVs N H vs ds → vs.length = ds.length
  | _, _, .nil => rfl
  | _, _, .cons _ t => by rw [List.length_cons, List.length_cons, DVs.length t]
theorem DVs.append {N : Addr → Prop} {H : Hp} : ∀ {vs us : List V} {ds es : List PyData}, DVs N H vs ds → DVs N H us es → DVs N H (vs ++ us) (ds ++ es)
  | _, _, _, _, .nil, q => q
  | _, _, _, _, .cons r t, q => .cons r (t.append q)
theorem DVs.mem {N : Addr → Prop} {H : Hp} : ∀ {vs : List V} {ds : List PyData}, DVs N H vs ds → ∀ v ∈ vs, ∃ d ∈ ds, DV N H v d
  | _, _, .nil, v, hv => by cases hv
  | _, _, .cons r t, v, hv => by
    rcases List.mem_cons.mp hv with rfl | hv
    · exact ⟨_, List.mem_cons_self .., r⟩
    · obtain ⟨d, h1, h2⟩ := DVs.mem t v hv
      exact ⟨d, List.mem_cons_of_mem _ h1, h2⟩
theorem entries_more {prog : Program} {w : World} {h₀ : Heap} {as as' : List Addr} {d d' : Nat} (hsub : ∀ b ∈ as, b ∈ as') (hd : d ≤ d') : ∀ {l : List DictEntry} {ts : List Str}, ReprEntriesK prog w as h₀ d l ts → ReprEntriesK prog w as' h₀ d' l ts
  | _, _, .nil => .nil
  | _, _, .cons a b t => .cons ((a.more hsub).level_le hd) ((b.more hsub).level_le hd) (entries_more hsub hd t)
section
variable {X : Cx} {pins : List (Addr × Obj)} {σ : St} {H : Hp} {s : Shared} {N : Addr → Prop}
def Low (N : Addr → Prop) (H : Hp) (n : Nat) (bs : List Addr) : Prop := ∀ b ∈ bs, ∃ d, DV N H (.ref b) d ∧ d.depth ≤ n
theorem Low.mono {n m : Nat} {bs : List Addr} (h : Low N H n bs) (k : n ≤ m) : Low N H m bs := fun b hb => let ⟨d, r, q⟩ := h b hb; ⟨d, r, Nat.le_trans q k⟩
theorem Low.append {n : Nat} {bs cs : List Addr} (h : Low N H n bs) (k : Low N H n cs) : Low N H n (bs ++ cs) := fun b hb => (List.mem_append.mp hb).elim (h b) (k b)
theorem Low.cons {n : Nat} {a : Addr} {d : PyData} {bs : List Addr} (r : DV N H (.ref a) d) (k : n ≤ d.depth) (h : Low N H n bs) : Low N H d.depth (a :: bs) := fun b hb => by
  rcases List.mem_cons.mp hb with rfl | hb
  · exact ⟨d, r, Nat.le_refl _⟩
  · exact h.mono k b hb
theorem Low.out {n : Nat} {a : Addr} {d : PyData} {bs : List Addr} (r : DV N H (.ref a) d) (k : n < d.depth) (h : Low N H n bs) : a ∉ bs := fun hb => by
  obtain ⟨d', r', q⟩ := h a hb
  rw [DV.one r' r] at q
  omega
mutual
theorem DV.shows (I : Inv X pins σ H s) : ∀ {v : V} {d : PyData} {u : Value}, DV N H v d → RelV v u → d.showable = true → d.shown.length ≤ sizeLine → ∃ bs, Low N H d.depth bs ∧ ReprK X.prog X.w bs s.heap d.depth u d.shown
  | _, _, u, .non, r, _, _ => by cases (show u = Value.none from r); exact ⟨[], (fun _ h => nomatch h), by simp only [PyData.shown]; exact .of_is ReprIs.none _ _ _⟩
  | _, _, u, .bl b, r, _, _ => by cases (show u = Value.bool b from r); exact ⟨[], (fun _ h => nomatch h), by simp only [PyData.shown]; exact .of_is (ReprIs.bool b) _ _ _⟩
  | _, _, u, .int i, r, hs, _ => by obtain ⟨t, rfl⟩ := (show ∃ t, u = Value.int i t from r); exact ⟨[], (fun _ h => nomatch h), by simp only [PyData.shown]; exact .of_is (ReprIs.int t (by simpa [PyData.showable] using hs)) _ _ _⟩
  | _, _, u, .str x, r, _, hz => by obtain ⟨t, rfl⟩ := (show ∃ t, u = Value.str x t from r); exact ⟨[], (fun _ h => nomatch h), by simp only [PyData.shown]; exact .of_is (ReprIs.str x t (by simpa only [PyData.shown] using hz)) _ _ _⟩
  | _, _, u, .lst (a := a) (xs := xs) (ds := ds) na e q, r, hs, hz => by
    cases (show u = Value.ref a from r)
    obtain ⟨_, its, n, rv, g⟩ := (show ObjOk X.prog X.w H s.heap a (.lst xs) from I.hok a _ e)
    have hz' : (listText (PyData.shownAll ds)).length ≤ sizeLine := by simpa only [PyData.shown] using hz
    obtain ⟨bs, hb, hk⟩ := DVs.shows I q rv (by simpa [PyData.showable] using hs) (fun t ht => Nat.le_trans (listText_mem_le ht) hz')
    have R : DV N H (.ref a) (.list ds) := .lst na e q
    have hna : a ∉ bs := Low.out R (by simp only [PyData.depth]; omega) hb
    refine ⟨a :: bs, Low.cons R (by simp only [PyData.depth]; omega) hb, ?_⟩
    simp only [PyData.depth, PyData.shown]
    cases rv with
    | nil =>
      cases q
      simp only [PyData.shownAll, listText_nil]
      exact ReprK.listEmpty g rfl rfl
    | cons r1 r2 => exact ReprK.list g rfl rfl hna (by simpa using hk.length_eq) (fun i y e => hk.item i y (by simpa using e))
  | _, _, u, .tup (a := a) (xs := xs) (ds := ds) na e q, r, hs, hz => by
    cases (show u = Value.ref a from r)
    obtain ⟨_, its, rv, ⟨o, h1, h2, n, h3⟩, _⟩ := (show ObjOk X.prog X.w H s.heap a (.tup xs) from I.hok a _ e)
    have hz' : (tupleText (PyData.shownAll ds)).length ≤ sizeLine := by simpa only [PyData.shown] using hz
    obtain ⟨bs, hb, hk⟩ := DVs.shows I q rv (by simpa [PyData.showable] using hs) (fun t ht => Nat.le_trans (tupleText_mem_le ht) hz')
    have R : DV N H (.ref a) (.tuple ds) := .tup na e q
    have hna : a ∉ bs := Low.out R (by simp only [PyData.depth]; omega) hb
    refine ⟨a :: bs, Low.cons R (by simp only [PyData.depth]; omega) hb, ?_⟩
    simp only [PyData.depth, PyData.shown]
    exact ReprK.tuple h1 h2 h3 hna (by simpa using hk)
  | _, _, u, .dct (a := a) (kvs := kvs) (ds := ds) na e q, r, hs, hz => by
    cases (show u = Value.ref a from r)
    obtain ⟨_, hsys, vs, kv, o, es, ep, h1, h2, h3, h4, h5, h6⟩ := (show ObjOk X.prog X.w H s.heap a (.dK kvs) from I.hok a _ e)
    have hz' : (dictText (PyData.shownKv ds)).length ≤ sizeLine := by simpa only [PyData.shown] using hz
    obtain ⟨bs, hb, hk⟩ := DKs.shows I q kv h5 (by simpa [PyData.showable] using hs) (fun t ht => Nat.le_trans (dictText_mem_le ht) hz')
    have R : DV N H (.ref a) (.dict ds) := .dct na e q
    have hna : a ∉ bs := Low.out R (by simp only [PyData.depth]; omega) hb
    refine ⟨a :: bs, Low.cons R (by simp only [PyData.depth]; omega) hb, ?_⟩
    simp only [PyData.depth, PyData.shown]
    exact ReprK.dict h1 h2.1 h3 hsys hna hk
theorem DVs.shows (I : Inv X pins σ H s) : ∀ {vs : List V} {ds : List PyData} {us : List Value}, DVs N H vs ds → Vals vs us → PyData.showableAll ds = true → (∀ t ∈ PyData.shownAll ds, t.length ≤ sizeLine) →
    ∃ bs, Low N H (PyData.depthAll ds) bs ∧ ReprAllK X.prog X.w bs s.heap (PyData.depthAll ds) us (PyData.shownAll ds)
  | _, _, _, .nil, .nil, _, _ => ⟨[], (fun _ h => nomatch h), by simp only [PyData.shownAll]; exact .nil⟩
  | _, _, _, .cons (d := d) (ds := ds) r t, .cons r1 r2, hs, hz => by
    obtain ⟨sd, sds⟩ : d.showable = true ∧ PyData.showableAll ds = true := by rwa [PyData.showableAll, Bool.and_eq_true] at hs
    obtain ⟨b1, hb1, k1⟩ := DV.shows I r r1 sd (hz _ (by simp only [PyData.shownAll]; exact List.mem_cons_self ..))
    obtain ⟨b2, hb2, k2⟩ := DVs.shows I t r2 sds (fun t ht => hz t (by simp only [PyData.shownAll]; exact List.mem_cons_of_mem _ ht))
    refine ⟨b1 ++ b2, (hb1.mono (by simp only [PyData.depthAll]; exact Nat.le_max_left _ _)).append (hb2.mono (by simp only [PyData.depthAll]; exact Nat.le_max_right _ _)), ?_⟩
    simp only [PyData.depthAll, PyData.shownAll]
    have m1 := (k1.more fun b hb => List.mem_append_left b2 hb).level_le (Nat.le_max_left d.depth (PyData.depthAll ds))
    have m2 := k2.more_le (fun b hb => List.mem_append_right b1 hb) (Nat.le_max_right d.depth (PyData.depthAll ds))
    exact .cons m1 m2
theorem DKs.shows (I : Inv X pins σ H s) : ∀ {vs : List (Key × V)} {ds : List (PyData × PyData)} {us : List (Key × Value)} {es : List DictEntry}, DKs N H vs ds → KV vs us → Pairs (mixKind X.prog X.w) es us → PyData.showableKv ds = true →
    (∀ t ∈ PyData.shownKv ds, t.length ≤ sizeLine) → ∃ bs, Low N H (PyData.depthKv ds) bs ∧ ReprEntriesK X.prog X.w bs s.heap (PyData.depthKv ds) es (PyData.shownKv ds)
  | _, _, _, _, .nil, .nil, .nil, _, _ => ⟨[], (fun _ h => nomatch h), by simp only [PyData.shownKv]; exact .nil⟩
  | _, _, _, [], .cons _ _, .cons _ _, w, _, _ => nomatch w
  | _, _, kv :: _, e :: _, .cons (k := k) (d := d) (ds := ds) r t, .cons q1 q2, w, hs, hz => by
    cases w with
    | cons w1 w2 w3 =>
    have hs' : ((kD k).showable = true ∧ d.showable = true) ∧ PyData.showableKv ds = true := by simpa [PyData.showableKv] using hs
    have hz1 : ((kD k).shown ++ ": " ++ d.shown).length ≤ sizeLine := hz _ (by simp only [PyData.shownKv]; exact List.mem_cons_self ..)
    rw [strLen_append, strLen_append] at hz1
    obtain ⟨z1, z2⟩ := q1
    obtain ⟨b1, hb1, k1⟩ := DV.shows I r z2 hs'.1.2 (by omega)
    obtain ⟨b2, hb2, k2⟩ := DKs.shows I t q2 w3 hs'.2 (fun t ht => hz t (by simp only [PyData.shownKv]; exact List.mem_cons_of_mem _ ht))
    have hk : ∀ n, ReprK X.prog X.w (b1 ++ b2) s.heap n e.key (kD k).shown := fun n => by
      have z1' : k = kv.1 := z1
      rcases keyIs_shape (show keyIs kv.1 e.key = true from w1) with ⟨i, tk, z, w4⟩ | ⟨x, tk, z, w4⟩
      · rw [w4, z1', z]
        have hsi := hs'.1.1
        rw [z1', z] at hsi
        simp only [kD, PyData.shown]
        exact .of_is (ReprIs.int tk (by simpa [kD, PyData.showable] using hsi)) _ _ _
      · rw [w4, z1', z]
        have hzi : (kD k).shown.length ≤ sizeLine := by omega
        rw [z1', z] at hzi
        simp only [kD, PyData.shown] at hzi ⊢
        exact .of_is (ReprIs.str x tk hzi) _ _ _
    refine ⟨b1 ++ b2, (hb1.mono (by simp only [PyData.depthKv]; omega)).append (hb2.mono (by simp only [PyData.depthKv]; omega)), ?_⟩
    simp only [PyData.depthKv, PyData.shownKv]
    exact .cons (hk _) (by rw [w2]; exact (k1.more fun b hb => List.mem_append_left _ hb).level_le (by omega)) (entries_more (fun b hb => List.mem_append_right _ hb) (by omega) k2)
end
structure Okd (n : Nat) (d : PyData) : Prop where
  sh : d.showable = true
  lv : d.leavesShort 40 = true
  dp : d.depth ≤ 20
  wt : d.weight ≤ n
theorem Okd.len {n : Nat} {d : PyData} (h : Okd n d) (hn : n ≤ 100000) : d.shown.length ≤ sizeLine := by
  have := PyData.shown_le 40 (by decide) d h.lv
  have e : (40 + 2) * d.weight ≤ 42 * 100000 := Nat.mul_le_mul (by omega) (Nat.le_trans h.wt hn)
  have : sizeLine = 16777216 := by decide
  omega
theorem call_reprD {X : Cx} (hg : X.A.guards = some []) (hu : X.A.units + 64 < cLine) : CallR X (.builtin "repr") (fun xs H Q => ∃ (v : V) (N : Addr → Prop) (d : PyData), xs = [v] ∧ DV N H v d ∧ Okd 100000 d ∧ Q (.str d.shown) H) := by
  intro pins s σ H xs us Q I r h
  obtain ⟨v, N, d, rfl, x, ok, q⟩ := h
  obtain ⟨u, rfl, rx⟩ := vals1 r
  have hz := ok.len (Nat.le_refl _)
  have hs := ok.sh
  have hd := ok.dp
  cases x with
  | non => cases (show u = Value.none from rx); exact P.repr_of_none ⟨.str PyData.none.shown, H, I.tok _, ⟨_, by simp only [PyData.shown]; rfl⟩, q⟩
  | bl b => cases (show u = Value.bool b from rx); exact P.repr_of_bool ⟨.str (PyData.bool b).shown, H, I.tok _, ⟨_, by simp only [PyData.shown]; rfl⟩, q⟩
  | int i =>
    obtain ⟨t, rfl⟩ := (show ∃ t, u = Value.int i t from rx)
    exact P.repr_of_int (by simpa [PyData.showable] using hs) ⟨.str (PyData.int i).shown, H, I.tok _, ⟨_, by simp only [PyData.shown]; rfl⟩, q⟩
  | str y =>
    obtain ⟨t, rfl⟩ := (show ∃ t, u = Value.str y t from rx)
    exact P.repr_of_str ⟨.str (PyData.str y).shown, H, I.tok _, ⟨_, by simp only [PyData.shown]; rfl⟩, q⟩ (by simpa only [PyData.shown] using hz)
  | @lst a xs ds na e p =>
    cases (show u = Value.ref a from rx)
    obtain ⟨_, its, n, rv, g⟩ := (show ObjOk X.prog X.w H s.heap a (.lst xs) from I.hok a _ e)
    have hz' : (listText (PyData.shownAll ds)).length ≤ sizeLine := by simpa only [PyData.shown] using hz
    obtain ⟨bs, hb, hk⟩ := DVs.shows I p rv (by simpa [PyData.showable] using hs) (fun t ht => Nat.le_trans (listText_mem_le ht) hz')
    have hna : a ∉ bs := Low.out (DV.lst na e p) (by simp only [PyData.depth]; omega) hb
    simp only [PyData.depth] at hd
    cases rv with
    | nil =>
      cases p
      refine call_repr_slot (by omega) ⟨_, g, rfl⟩ PySem.F.slot_list_repr.toG (call_list_repr_empty ⟨_, g, rfl⟩ g rfl ?_)
      exact ⟨_, _, rfl, .str (PyData.list []).shown, H, I.kept (fun _ _ e => e), ⟨_, by simp only [PyData.shown, PyData.shownAll, listText_nil]; rfl⟩, q⟩
    | cons r1 r2 =>
      refine call_repr_slot (by omega) ⟨_, g, rfl⟩ PySem.F.slot_list_repr.toG (call_list_reprK (g := []) g rfl rfl hna (by simpa using hk.length_eq) (fun i y z => hk.item i y (by simpa using z)) hg (fun b _ => Clear.nil b) (by show X.A.units + 1 + (_ + 1) < cLine; omega) (fun _ _ e => e) (fun h' u tk hkk => ⟨_, _, rfl, ?_⟩) hz')
      exact ⟨.str (PyData.list ds).shown, H, I.kept hkk, ⟨_, by simp only [PyData.shown]; rfl⟩, q⟩
  | @tup a xs ds na e p =>
    cases (show u = Value.ref a from rx)
    obtain ⟨_, its, rv, ⟨o, h1, h2, n, h3⟩, _⟩ := (show ObjOk X.prog X.w H s.heap a (.tup xs) from I.hok a _ e)
    have hz' : (tupleText (PyData.shownAll ds)).length ≤ sizeLine := by simpa only [PyData.shown] using hz
    obtain ⟨bs, hb, hk⟩ := DVs.shows I p rv (by simpa [PyData.showable] using hs) (fun t ht => Nat.le_trans (tupleText_mem_le ht) hz')
    have hna : a ∉ bs := Low.out (DV.tup na e p) (by simp only [PyData.depth]; omega) hb
    simp only [PyData.depth] at hd
    refine call_repr_slot (by omega) ⟨_, h1, h2⟩ PySem.F.slot_tuple_repr (call_tuple_reprK (g := []) h1 h2 h3 hna (by simpa using hk) hg (fun b _ => Clear.nil b) (by show X.A.units + 1 + (_ + 1) < cLine; omega) (fun _ _ e => e) (fun h' u tk hkk => ⟨_, _, rfl, ?_⟩) hz')
    exact ⟨.str (PyData.tuple ds).shown, H, I.kept hkk, ⟨_, by simp only [PyData.shown]; rfl⟩, q⟩
  | @dct a kvs ds na e p =>
    cases (show u = Value.ref a from rx)
    obtain ⟨_, hsys, vs, kv, o, es, ep, h1, h2, h3, h4, h5, h6⟩ := (show ObjOk X.prog X.w H s.heap a (.dK kvs) from I.hok a _ e)
    have hz' : (dictText (PyData.shownKv ds)).length ≤ sizeLine := by simpa only [PyData.shown] using hz
    obtain ⟨bs, hb, hk⟩ := DKs.shows I p kv h5 (by simpa [PyData.showable] using hs) (fun t ht => Nat.le_trans (dictText_mem_le ht) hz')
    have hna : a ∉ bs := Low.out (DV.dct na e p) (by simp only [PyData.depth]; omega) hb
    simp only [PyData.depth] at hd
    refine call_repr_slot (by omega) ⟨_, h1, h2.1⟩ PySem.F.slot_dict_repr (call_dict_reprK (g := []) h1 h2.1 h3 hsys hna hk hg (fun b _ => Clear.nil b) (by show X.A.units + 1 + (_ + 1) < cLine; omega) (fun _ _ e => e) (fun h' u tk hkk => ⟨_, _, rfl, ?_⟩) hz')
    exact ⟨.str (PyData.dict ds).shown, H, I.kept hkk, ⟨_, by simp only [PyData.shown]; rfl⟩, q⟩
end
theorem bt_repr : bootBuiltins "repr" = some (.builtin "repr") := by decide +kernel
theorem bt_all : bootBuiltins "all" = some (.builtin "all") := by decide +kernel
theorem bt_set : bootBuiltins "set" = some (.type "set") := by decide +kernel
end L2

set_option Elab.async false
set_option linter.all false
set_option maxRecDepth 100000
namespace L2
open PySem PySem.Spec PyProof.Rows
section
variable {X : Cx}
theorem call_allB (hh : X.A.handled = none) : CallR X (.builtin "all") (fun xs H Q => ∃ (a : Addr) (bs : List Bool), xs = [.ref a] ∧ H a = some (.lst (bs.map V.bl)) ∧ Q (.bl (bs.all id)) H) := by
  intro pins s σ H xs us Q I r h
  obtain ⟨a, bs, rfl, hl, q⟩ := h
  obtain ⟨u, rfl, rx⟩ := vals1 r
  cases rx
  obtain ⟨hz, its, n, rv, g⟩ := (show ObjOk X.prog X.w H s.heap a (.lst (bs.map V.bl)) from I.hok a _ hl)
  have isl : s.heap.IsList a its.toArray := ⟨_, g, rfl, n, rfl⟩
  have lt := Heap.lt_size g
  refine call_all_walk (wpAny_pyIter_list isl ?_)
  have at_ : ∀ (i : Nat) (v : Value), its.toArray[i]? = some v → v = .bool (bs.getD i false) := fun i v e => by
    have e' : its[i]? = some v := by simpa using e
    obtain ⟨j1, j2⟩ := List.getElem?_eq_some_iff.mp e'
    have hi : i < bs.length := by have := rv.length; rw [List.length_map] at this; omega
    obtain ⟨u, u1, u2⟩ := rv.get (i := i) (x := .bl bs[i]) (by simp [hi])
    rw [e'] at u1
    cases u1
    rw [show v = Value.bool bs[i] from u2]
    simp [hi]
  refine ⟨_, _, _, _, _, _, fun i => bs.getD i false, rfl, Walks.list (by simp [hh]) _ a (Nat.ne_of_lt lt) its.toArray, ⟨⟨_, Heap.get?_push_size _ rfl, rfl, rfl⟩, isl.push _⟩, ?_, fun h' tk k => ?_⟩
  · intro i v s' R E' e hr
    rw [at_ i v e]
    exact wpAny_pure hr
  · have kk : ∀ b o, s.heap.get? b = some o → h'.get? b = some o := fun b o e => k b o (by
      intro z
      rw [List.mem_singleton.mp z] at e
      exact absurd (Heap.lt_size e) (Nat.lt_irrefl _)) (Heap.get?_push_of_some _ e)
    refine ⟨.bl (bs.all id), H, I.kept kk, ?_, q⟩
    show Value.bool _ = Value.bool _
    congr 1
    have e1 : its.toArray.size = bs.length := by have := rv.length; rw [List.length_map] at this; simp [← this]
    rw [e1]
    clear q rv hl isl g at_ e1
    rw [Bool.eq_iff_iff, List.all_eq_true, List.all_eq_true]
    constructor
    · intro f b hb
      obtain ⟨i, hi, e⟩ := List.getElem_of_mem hb
      have := f i (List.mem_range.mpr hi)
      simpa [hi, e] using this
    · intro f i hi
      have hi' := List.mem_range.mp hi
      have := f bs[i] (List.getElem_mem hi')
      simpa [hi'] using this
end
end L2

set_option Elab.async false
set_option linter.all false
set_option maxRecDepth 100000
namespace L2
open PySem PySem.Spec PyProof.Rows
section
variable {prog : Program} {w : World} {A : Around} {E : Value → Shared → Prop} {s : Shared}
abbrev emptySet (led : Bool) : Obj := { cls := .type "set", dict := none, data := .set #[] 0 (.fresh 0 0 led) }
abbrev onceOf (ns : List Int) (n : Nat) : List Int := firstMet (fun i => ns.getD i 0) n
theorem set_init_tup {t : Addr} {items : Array Value} {ns : List Int} {led : Bool} {Q : Result → Shared → Prop} (hh : A.handled = none) (ht : s.heap.IsTuple t items) (hi : IntsAre items.toList ns) (hb : items.size + 1 < scanBound)
    (q : ∀ (h' : Heap) (tk : Nat), h'.SetOf (intKind prog w) s.heap.objs.size (fun k => (onceOf ns items.size).any (· == k)) (onceOf ns items.size).length → (∀ b o, b < s.heap.objs.size → s.heap.get? b = some o → h'.get? b = some o) →
      Q (.ok (.ret .none)) { s with heap := h', toks := tk }) :
    wpAny (model prog w) A.in1 (Builtin.«set.__init__» ⟨[.ref s.heap.objs.size, .ref t], []⟩) (fun fin s' => match fin with | .done f => Q (.ok f) s' | .again c' => c'.quiet = true ∧ codeAny (model prog w) A c' Q s') (fun e s' => Q (.error e) s')
      { s with heap := s.heap.push (emptySet led) } := by
  have lt : t < s.heap.objs.size := by
    obtain ⟨o, e, _⟩ := ht
    exact Heap.lt_size e
  generalize hg : s.heap.push (emptySet led) = g1
  have z1 : g1.objs.size = s.heap.objs.size + 1 := by rw [← hg]; exact Heap.size_push _ _
  have e1 : g1.get? s.heap.objs.size = some (emptySet led) := by rw [← hg]; exact Heap.get?_push_size _ rfl
  have kp : ∀ b o, s.heap.get? b = some o → g1.get? b = some o := fun b o e => by rw [← hg]; exact Heap.get?_push_of_some _ e
  have t1 : g1.IsTuple t items := ht.at fun o e => kp _ o e
  obtain ⟨ot, ot1, ot2, nt, ot3⟩ := id t1
  rcases ot with ⟨oc, od, odt, osl⟩
  cases (show oc = _ from ot2)
  cases (show odt = _ from ot3)
  have n1 := PySem.F.sub_tuple_set
  have n2 := PySem.F.sub_tuple_frozenset
  have n3 : (Value.type "tuple" == Value.type "dict") = false := by decide
  unfold Builtin.«set.__init__» noKeywords Builtin.Frozenset.updateFrom
  generalize hPI : pyIter = PI
  wp_walk
  subst hPI
  refine wpAny_pyIter_tuple t1 (wpAny_bind (wpAny_runValue ?_))
  have nI : t ≠ g1.objs.size := Nat.ne_of_lt (by rw [z1]; exact Nat.lt_succ_of_lt lt)
  have nS : s.heap.objs.size ∉ [g1.objs.size, t] := by
    simp only [List.mem_cons, List.not_mem_nil, or_false, not_or]
    exact ⟨Nat.ne_of_lt (by rw [z1]; exact Nat.lt_succ_self _), Nat.ne_of_gt lt⟩
  have vals : ∀ (i : Nat) (v : Value), items[i]? = some v → ∃ u, v = .int ((fun i => ns.getD i 0) i) u := fun i v e => IntsAre.int_at hi i v (by rw [Array.getElem?_toList]; exact e)
  have calm : A.in1.in1.handled = none := by simp [hh]
  refine codeAny_set_update_loopS ((Walks.tuple calm _ t nI items).toS) s.heap.objs.size nS _ vals hb (items.size - 0) 0 { s with heap := g1.push { cls := .type "tuple_iterator", data := .fields #[.ref t, .int 0 0] } } rfl (Nat.zero_le _) ⟨⟨_, Heap.get?_push_size _ rfl, rfl, rfl⟩, t1.push _⟩ ?st ?fin
  case st =>
    have e2 : (g1.push { cls := .type "tuple_iterator", data := .fields #[.ref t, .int 0 0] }).get? s.heap.objs.size = some (emptySet led) := Heap.get?_push_of_some _ e1
    exact SetOf_congr ((setObjOf_fresh (knd := intKind prog w) led).setOf e2 (by unfold scanBound; omega)) (fun _ => rfl) rfl
  case fin =>
    rintro ⟨h', g', d', tk', os'⟩ hm hS
    cases (show g' = s.gens from hm.gens)
    cases (show d' = s.drawn from hm.drawn)
    cases (show os' = s.os from hm.os)
    refine wpAny_pure (wpAny_pure (q h' tk' hS fun b o hb e => hm.heap b o ?_ (Heap.get?_push_of_some _ (kp b o e))))
    simp only [List.mem_cons, List.not_mem_nil, or_false, not_or]
    exact ⟨Nat.ne_of_lt hb, Nat.ne_of_lt (by rw [z1]; exact Nat.lt_succ_of_lt hb)⟩
set_option maxHeartbeats 1600000 in
theorem call_set_tup {t : Addr} {items : Array Value} {ns : List Int} {Q : Value → Shared → Prop} (hh : A.handled = none) (ht : s.heap.IsTuple t items) (hi : IntsAre items.toList ns) (hb : items.size + 1 < scanBound)
    (q : ∀ (h' : Heap) (tk : Nat), h'.SetOf (intKind prog w) s.heap.objs.size (fun k => (onceOf ns items.size).any (· == k)) (onceOf ns items.size).length → (∀ b o, b < s.heap.objs.size → s.heap.get? b = some o → h'.get? b = some o) →
      Q (.ref s.heap.objs.size) { s with heap := h', toks := tk }) : wpAny (model prog w) A (call (.type "set") [.ref t]) Q E s := by
  have made := PySem.F.called_set
  obtain ⟨c, tl, mro⟩ := made.mro
  have m1 := made.made
  have m2 := made.sub
  have m3 := made.notType
  have m4 := made.canCreate
  have m5 := PySem.F.typeCall_set_1 (.ref t)
  refine wpAny_call (codeAny_of_tree ?_)
  show wpAny _ _ (callAny (.type "set") _) _ _ _
  refine wpAny_pure ⟨Code.quiet_builtin _ (by decide +kernel), codeAny_builtin PySem.F.entry_type_call ?_⟩
  rw [Around.under_plain (weight_type_call_type "set" [.ref t] []) rfl]
  repeat (any_goals (first | assumption | wp_step))
  refine codeAny_mono (code_set_new_1 (.ref t) (E := E) (Q₁ := fun y s1 => ∃ led : Bool, y = .ref s.heap.objs.size ∧ s1 = { s with heap := s.heap.push (emptySet led) }) fun led => ⟨led, rfl, rfl⟩) fun r s1 hr => ?_
  cases r with
  | error e => exact hr
  | ok fl =>
    cases fl with
    | ret y =>
      obtain ⟨led, rfl, rfl⟩ := hr
      have ty : Shared.TypeIs { s with heap := s.heap.push (emptySet led) } (.ref s.heap.objs.size) "set" := ⟨_, Heap.get?_push_size _ rfl, rfl⟩
      have g1 := made.init.lookup
      have g2 := made.init.bind (.ref s.heap.objs.size)
      repeat (any_goals (first | assumption | wp_step))
      refine codeAny_mono (codeAny_call_builtin (R := wants (fun z s2 => z = .none ∧ Q (.ref s.heap.objs.size) s2) E) made.init.plain PySem.F.entry_set_init (check_set_init_1 ty (set_init_tup hh ht hi hb fun h' tk hS k => ⟨rfl, q h' tk hS k⟩))) fun r2 s2 hr2 => ?_
      cases r2 with
      | error e => exact hr2
      | ok f2 =>
        cases f2 with
        | ret z =>
          obtain ⟨rfl, hQ⟩ := hr2
          repeat (any_goals (first | assumption | wp_step))
        | _ => exact hr2.elim
    | _ => exact hr.elim
end
section
variable {X : Cx}
theorem ints_vals : ∀ {ns : List Int} {us : List Value}, Vals (ns.map V.int) us → IntsAre us ns
  | [], _, .nil => .nil
  | n :: ns, _, .cons r t => by
    obtain ⟨k, rfl⟩ := (show ∃ k, _ = Value.int n k from r)
    exact .cons _ _ (ints_vals t)
theorem call_setI (hh : X.A.handled = none) : CallR X (.type "set") (fun xs H Q => ∃ (a : Addr) (ns : List Int), xs = [.ref a] ∧ (H a = some (.lst (ns.map V.int)) ∨ H a = some (.tup (ns.map V.int))) ∧ ns.length ≤ 100 ∧
    ∀ l, H l = none → Q (.ref l) (upd H l (.set (fun k => (onceOf ns ns.length).any (· == k)) (onceOf ns ns.length).length))) := by
  intro pins s σ H xs us Q I r h
  obtain ⟨a, ns, rfl, hl, hz, q⟩ := h
  obtain ⟨u, rfl, rx⟩ := vals1 r
  cases rx
  have fin : ∀ (h' : Heap) (tk : Nat), h'.SetOf (intKind X.prog X.w) s.heap.objs.size (fun k => (onceOf ns ns.length).any (· == k)) (onceOf ns ns.length).length → (∀ b o, b < s.heap.objs.size → s.heap.get? b = some o → h'.get? b = some o) →
      EP X pins σ Q (.ref s.heap.objs.size) { s with heap := h', toks := tk } := fun h' tk hS k =>
    ⟨.ref s.heap.objs.size, _, I.laid (a := s.heap.objs.size) (o := .set (fun k => (onceOf ns ns.length).any (· == k)) (onceOf ns ns.length).length) (t' := tk) (fun b o e => k b o (Heap.lt_size e) e) (Nat.le_refl _) hS, rfl, q _ (I.hok.fresh (Nat.le_refl _))⟩
  have sb : scanBound > 200 := by decide
  rcases hl with hl | hl
  · obtain ⟨_, its, n, rv, g⟩ := (show ObjOk X.prog X.w H s.heap a (.lst (ns.map V.int)) from I.hok a _ hl)
    have e1 : its.toArray.size = ns.length := by have := rv.length; rw [List.length_map] at this; simp [← this]
    refine call_set_list (items := its.toArray) (ns := ns) hh ⟨_, g, rfl, n, rfl⟩ (by simpa using ints_vals rv) (by rw [e1]; omega) fun h' tk hS k => fin h' tk ?_ k
    rw [e1] at hS
    exact hS
  · obtain ⟨_, its, rv, ⟨o, h1, h2, n, h3⟩, _⟩ := (show ObjOk X.prog X.w H s.heap a (.tup (ns.map V.int)) from I.hok a _ hl)
    have e1 : its.toArray.size = ns.length := by have := rv.length; rw [List.length_map] at this; simp [← this]
    refine call_set_tup (items := its.toArray) (ns := ns) hh ⟨o, h1, h2, n, h3⟩ (by simpa using ints_vals rv) (by rw [e1]; omega) fun h' tk hS k => fin h' tk ?_ k
    rw [e1] at hS
    exact hS
theorem call_lenS : CallR X (.builtin "len") (fun xs H Q => ∃ (a : Addr) (S : Int → Bool) (n : Nat), xs = [.ref a] ∧ H a = some (.set S n) ∧ n ≤ 100000 ∧ Q (.int n) H) := by
  intro pins s σ H xs us Q I r h
  obtain ⟨a, S, n, rfl, hl, hz, q⟩ := h
  obtain ⟨u, rfl, rx⟩ := vals1 r
  cases rx
  obtain ⟨o, es, ep, t, h1, h2, h3, h4, h5, h6, h7, h8⟩ := (show s.heap.SetOf (intKind X.prog X.w) a S n from I.hok a _ hl)
  exact call_len_set h1 h2 h3 h7 (by omega) ⟨.int n, H, I.tok _, ⟨_, by rw [h8]⟩, q⟩
structure BaseFn (K : PySem.W.Frag) (T : Addr) (m : Str) (f : Addr) : Prop where
  ga : PySem.W.specialIn K (.ref T) "__getattribute__" = some (some (.builtin "type.__getattribute__"))
  rd : PySem.W.readsIn K T (.type "type") = true
  at_ : PySem.W.findCls K (.ref T) (.type "type") m = some (.val (.ref f))
  kp : PySem.W.keepIn K (.ref f) = true
theorem pe_base {CX : CXT} {k : Nat} {T f : Addr} {fd : FuncData} {ps : List Str} {sp : Sp} {E : XK} {pl : Sem Bool} {x m : Str} {p apos pos : Pos} {e : Expr} {es : List Expr} {t : TA} (B : BaseFn X.K T m f) (F : FnOk X.prog X.w X.K X.mg X.base CX k f fd ps sp) (hr : Room k X.A)
    (hg : Gl X x) (hm : X.mg x = some (.ref T)) (hb : Binds X.K fd ps []) (hx : Passes CX X E) (ha : PA X (e :: es) t)
    (hdb : (x == ("__debug__" : Str)) = false := by decide) (he : starEach (e :: es) X.env = (false, eval e X.env) :: starEach es X.env := by rfl) (hpl : (backTo pos (starEach es X.env)).any (·.1) = false := by rfl)
    (ht : eval (.Call (.Attribute (.Name x p) m apos) (e :: es) [] pos) X.env = (do
      let ov ← eval (.Name x p) X.env
      standAt apos.atName
      let (f, first) ← holding [ov] (getMethod ov m pl)
      callWith pos f first (backTo pos (starEach (e :: es) X.env)) (backToKw pos (keywordEach [] X.env))) := by rfl) :
    PE X (.Call (.Attribute (.Name x p) m apos) (e :: es) [] pos) (tCall sp [] E t) := by
  intro pins s σ H Q I h
  refine PySem.W.methodCall_KW (pl := pl) (ld_glob I hg hm ?_ hdb) ht
  refine PySem.W.method_cls I.kIn B.ga (PySem.W.cls_value I.kIn B.rd B.at_ rfl ?_)
  refine PySem.W.callWith_K (h₀ := X.base) I.ok.mod.kin B.kp (thn (ha pos pins { s with toks := s.toks + 1 } σ H _ (I.tok _) h) fun us s1 ⟨vs, H1, I1, r, q⟩ => ⟨I1.kIn, ?_⟩) he hpl
  exact run_fn F hr hb .nil hx I1 r (by simpa using q)
structure InsC (K : PySem.W.Frag) (C : Addr) : Prop where
  cl : Cls K C
  ha : PySem.W.findIn K (.ref C) "__class__" = some (some (.builtin "object.__class__"))
  hn : PySem.W.specialIn K (.builtin "object.__class__") "__get__" = some (some (.builtin "getset_descriptor.__get__"))
  tk : PySem.W.takesIn K (.builtin "object.__class__") = some true
  hm : PySem.W.mroIn K C (.type "object") = some true
end
end L2

set_option Elab.async false
set_option linter.all false
set_option maxRecDepth 100000
set_option maxHeartbeats 1000000
namespace L2
open PySem PyProof PyProof.Rows
section
variable {prog : Program} {w : World} {A : Around} {E : Value → Shared → Prop} {s : Shared} {KK : Type} [DecidableEq KK] {knd : KeyKind prog w KK}
end
section
variable {X : Cx}
end
end L2

set_option Elab.async false
set_option linter.all false
set_option maxRecDepth 100000
set_option maxHeartbeats 1000000
namespace L2
open PySem PyProof PyProof.Rows
section
variable {s : Shared} {E : Value → Shared → Prop} {A : Around} {prog : Program} {w : World}
end
section
variable {X : Cx}
end
end L2

set_option Elab.async false
set_option linter.all false
set_option maxRecDepth 100000
set_option maxHeartbeats 1000000
namespace L2
open PySem PyProof PyProof.Rows
section
variable {s : Shared} {E : Value → Shared → Prop} {A : Around} {prog : Program} {w : World}
theorem tup_index {t : Addr} {items : Array Value} {x : Value} {e : Nat → Bool} {j : Nat} {Q : Value → Shared → Prop} (ht : IsTup s.heap t items) (hj : j < items.size) (hit : e j = true) (hno : ∀ m, m < j → e m = false)
    (he : ∀ m (hm : m < items.size), SeqAt.EqAt A.in1 s items[m] x (e m)) (q : ∀ k s', s' = { s with toks := s.toks + 1 } → Q (.int j k) s') : wpAny (model prog w) A.in1 (Builtin.«tuple.index» ⟨[.ref t, x], []⟩) (fun fin s' => ∃ v, fin = .done (.ret v) ∧ Q v s') E s := by
  obtain ⟨o, h1, h2, n, h3⟩ := id ht
  unfold Builtin.«tuple.index»
  refine wpAny_bind (m := selfAndSome _ _ _ _ _) (wpAny_pure ?c0)
  dsimp only
  refine wpAny_bind (show wpAny _ _ (seqItems? _ >>= _) _ _ _ from wpAny_bind (wpAny_seqItems h1 h3 (wpAny_pure ?c2)))
  refine wpAny_bind (wpAny_pure ?c3)
  refine wpAny_bind (wpAny_pure ?c4)
  refine wpAny_bind ?c5
  rewrite [Std.Legacy.Range.forIn_eq_forIn_range' (m := Sem)]
  have sz : ([:min items.size items.size] : Std.Legacy.Range).size = items.size := by simp [Std.Legacy.Range.size]
  show wpAny _ _ (forIn (List.range' 0 ([:min items.size items.size] : Std.Legacy.Range).size 1) _ _) _ _ _
  rw [sz]
  refine wpAny_forIn_list _ (fun l b s' => ∃ i, i ≤ j ∧ l = List.range' i (items.size - i) 1 ∧ b = (none, ()) ∧ s' = s) _ ?turn ?fin _ _ ⟨0, Nat.zero_le _, rfl, rfl, rfl⟩
  case fin =>
    rintro b s' ⟨i, hi, hl, _⟩
    have := congrArg List.length hl
    rw [List.length_range'] at this
    simp at this
    omega
  case turn =>
    rintro k rest b s' ⟨i, hi, hl, rfl, rfl⟩
    obtain ⟨m, hm⟩ : ∃ m, items.size - i = m + 1 := ⟨items.size - i - 1, by omega⟩
    rw [hm, List.range'_succ] at hl
    injection hl with ek er
    subst ek er
    have lt : k < items.size := by omega
    rw [Array.getElem?_eq_getElem lt]
    dsimp only
    refine wpAny_bind (he k lt prog w _ _ ?_)
    by_cases c : k = j
    · subst c
      rw [hit, if_pos rfl]
      refine wpAny_bind ?r0
      unfold retInt
      refine wpAny_bind (wpAny_mkInt ?r1)
      refine wpAny_pure ?r2
      exact wpAny_pure (wpAny_pure ⟨_, rfl, q _ _ rfl⟩)
    · rw [hno k (by omega), if_neg Bool.false_ne_true]
      exact wpAny_pure ⟨k + 1, by omega, by congr 1; omega, rfl, rfl⟩
end
section
variable {X : Cx} {o e : Expr} {es : List Expr} {to : TE} {t : TA} {name : Str} {apos cpos : Pos} {id : String} {r : V → List V → Hp → VK → Prop}
def tBMT (r : V → List V → Hp → VK → Prop) (to : TE) (t : TA) : TE := fun σ H Q => to σ H fun x H1 => (∃ a ys, x = .ref a ∧ H1 a = some (.tup ys)) ∧ t σ H1 fun xs H2 => r x xs H2 Q
theorem pe_bmT (slot : Slot "tuple" name id) (hty : typeOf (.builtin id) = pure (.type "method_descriptor")) (hm : MtR X id r) (ho : PE X o to) (ha : PA X (e :: es) t)
    (hbase : attributeBase o name X.env (eval o X.env) = eval o X.env := by rfl)
    (hfew : ((backTo cpos (starEach (e :: es) X.env)).all (fun x => !x.1) && (backToKw cpos (keywordEach [] X.env)).all (fun x => x.1.isSome) && decide ((e :: es).length + ([] : List Keyword).length + (if ([] : List Keyword).isEmpty then 0 else 1) < 30)) = true := by rfl)
    (hline : (apos.endLine == cpos.line) = true := by rfl) (hs : starEach (e :: es) X.env = (false, eval e X.env) :: starEach es X.env := by rfl) (hpl : (backTo cpos (starEach es X.env)).any (·.1) = false := by rfl) :
    PE X (.Call (.Attribute o name apos) (e :: es) [] cpos) (tBMT r to t) := by
  intro pins s σ H Q I h
  refine wpAny_Call_method_late hbase hfew hline rfl (thn (ho pins s σ H _ I h) fun v s1 ⟨x, H1, I1, r1, ⟨a, ys, ex, ea⟩, q1⟩ => ?_)
  subst ex
  cases r1
  obtain ⟨_, its, _, ⟨ob, g, c, _⟩, dn⟩ := (show ObjOk X.prog X.w H1 s1.heap a (.tup ys) from I1.hok a _ ea)
  refine ⟨"tuple", id, PySem.F.plainAttrs_tuple, slot, hty, ⟨ob, g, c⟩, fun b z => ?_, ?_⟩
  · cases z
    exact ⟨ob, g, dn ob g⟩
  have hA := ha cpos pins s1 σ H1 _ I1 q1
  rw [hs] at hA ⊢
  refine Calls.callWith_builtin (by show (false || (backTo cpos (starEach es X.env)).any (·.1)) = false; rw [hpl] <;> rfl) (Calls.evalArgs_plain ?_)
  exact thn hA fun us s2 ⟨vs, H2, I2, r2, q2⟩ => hm pins s2 σ H2 (.ref a) vs (.ref a) us Q I2 (show RelV (.ref a) (.ref a) from rfl) r2 q2
theorem mt_indexT : MtR X "tuple.index" (fun x vs H Q => ∃ a ys y j, x = .ref a ∧ vs = [y] ∧ H a = some (.tup ys) ∧ flatV y = true ∧ ys.all flatV = true ∧ (∃ z, ys[j]? = some z ∧ eqV z y = true) ∧ (∀ m z, m < j → ys[m]? = some z → eqV z y = false) ∧ Q (.int (j : Nat)) H) := by
  intro pins s σ H x vs v us Q I rx rv h
  obtain ⟨a, ys, y, j, rfl, rfl, ha, fy, fa, hj, hn, q⟩ := h
  cases rx
  obtain ⟨u, rfl, ru⟩ := rv.one
  obtain ⟨_, its, r, p, _⟩ := (show ObjOk X.prog X.w H s.heap a (.tup ys) from I.hok a _ ha)
  have len := r.length
  obtain ⟨z, hz, ez⟩ := hj
  have jl : j < its.toArray.size := by
    rw [List.size_toArray, ← len]
    exact (List.getElem?_eq_some_iff.mp hz).1
  have at_ : ∀ m (hm : m < its.toArray.size), ∃ w', ys[m]? = some w' ∧ RelV w' its.toArray[m] ∧ flatV w' = true := fun m hm => by
    have hm' : m < its.length := by simpa using hm
    have hy : m < ys.length := by omega
    have g := List.getElem?_eq_getElem hy
    obtain ⟨u', hu, ru'⟩ := Vals.get r g
    have e1 : its.toArray[m] = u' := by
      rw [List.getElem?_eq_getElem hm'] at hu
      simpa using hu
    exact ⟨ys[m], g, by rw [e1]; exact ru', List.all_eq_true.mp fa _ (List.getElem_mem hy)⟩
  refine wpAny_call_entry PySem.F.slot_tuple_index (by obtain ⟨ob, g, c, _⟩ := p; exact ⟨ob, g, c⟩) PySem.F.entry_tuple_index (tup_index (e := fun m => match ys[m]? with | some w' => eqV w' y | none => false) (j := j) p jl (by rw [hz]; exact ez) (fun m hm => ?_) (fun m hm => ?_) fun k s' e => ?_) (PySem.F.args_tuple_index_2 _ _)
  · cases c : ys[m]? with
    | none => rfl
    | some w' => exact hn m w' hm c
  · obtain ⟨w', g, rr, ff⟩ := at_ m hm
    rw [g]
    exact eqAt_V rr ru ff fy
  · subst e
    exact ⟨.int (j : Nat), H, I.tok _, ⟨k, rfl⟩, q⟩
end
end L2

set_option Elab.async false
set_option linter.all false
set_option maxRecDepth 100000
set_option maxHeartbeats 1000000
namespace L2
open PySem PyProof PyProof.Rows
section
variable {X : Cx}
theorem op_eqTT (hu : X.A.units < cLine) : OpR X (compareOp .Eq) (fun x y H Q => ∃ p q xs ys, x = .ref p ∧ y = .ref q ∧ SqT X.K H p xs ∧ SqT X.K H q ys ∧ (∀ (j : Nat) (x y : V), xs[j]? = some x → ys[j]? = some y → okP x y) ∧ Q (.bl (eqPs xs ys)) H) := by
  intro pins s σ H x y v u Q I rx ry h
  obtain ⟨p, q, xs, ys, rfl, rfl, hp, hq, ok, hQ⟩ := h
  cases rx
  cases ry
  obtain ⟨us, r, pl, hz⟩ := I.tuple hp
  obtain ⟨ws, r', pl', hz'⟩ := I.tuple hq
  have l1 := r.length
  have l2 := r'.length
  refine SeqAt.RcAt.tuples (e := ans xs ys) pl pl' hu (fun j h1 h2 => ?_) _ _ _ _ ⟨.bl _, H, I, rfl, ?_⟩
  · have j1 : j < xs.length := by simp at h1; omega
    have j2 : j < ys.length := by simp at h2; omega
    have e1 : xs[j]? = some xs[j] := List.getElem?_eq_getElem j1
    have e2 : ys[j]? = some ys[j] := List.getElem?_eq_getElem j2
    obtain ⟨u, eu, ru⟩ := r.get e1
    obtain ⟨w, ew, rw'⟩ := r'.get e2
    have a1 : us.toArray[j] = u := by
      have : us[j]? = some u := eu
      simp at h1
      simpa [h1] using this
    have a2 : ws.toArray[j] = w := by
      have : ws[j]? = some w := ew
      simp at h2
      simpa [h2] using this
    rw [a1, a2, show ans xs ys j = eqP xs[j] ys[j] by unfold ans; rw [e1, e2]]
    exact eqAt_P ru rw' (ok j _ _ e1 e2)
  · by_cases hl : xs.length = ys.length
    · unfold eqPs at hQ
      rw [decide_eq_true hl, Bool.true_and, ← zip_ans xs ys hl] at hQ
      rw [List.size_toArray, List.size_toArray, ← l1, ← l2, ← hl, Nat.min_self, beq_self_eq_true, Bool.and_true]
      exact hQ
    · unfold eqPs at hQ
      rw [decide_eq_false hl, Bool.false_and] at hQ
      rw [List.size_toArray, List.size_toArray, ← l1, ← l2, beq_eq_false_iff_ne.mpr hl, Bool.and_false]
      exact hQ
end
end L2

set_option Elab.async false
set_option linter.all false
set_option maxRecDepth 100000
set_option maxHeartbeats 1000000
namespace L2
open PySem PyProof PyProof.Rows
section
variable {X : Cx}
end
end L2

set_option Elab.async false
set_option linter.all false
set_option maxRecDepth 100000
set_option maxHeartbeats 400000
namespace L2
open PySem
def ZipO (h : Heap) (z TI TO : Addr) (f0 f1 : Value) : Prop :=
  h.get? z = some { cls := .type "zip", dict := none, data := .fields #[f0, f1, .bool false, .ref TI, .ref TO], slots := #[] }
def ZFree (h : Heap) (f0 : Value) : Prop := f0 = .none ∨ ∃ (T : Nat) (o : Obj), f0 = rawInt T ∧ h.get? T = some o
structure ZipS (h : Heap) (z TI TO i1 i2 : Addr) : Prop where
  z : ∃ f0 f1, ZipO h z TI TO f0 f1 ∧ ZFree h f0
  ti : IsPair h TI (.ref i1) (.ref i2)
  to : ∃ a b, IsPair h TO a b
def Ag (B : List Addr) (h h' : Heap) : Prop := h'.objs.size = h.objs.size ∧ ∀ c, c ∉ B → h'.get? c = h.get? c
theorem Ag.refl {B : List Addr} {h : Heap} : Ag B h h := ⟨rfl, fun _ _ => rfl⟩
theorem Ag.trans {B : List Addr} {h h' h2 : Heap} (a : Ag B h h') (b : Ag B h' h2) : Ag B h h2 := ⟨b.1.trans a.1, fun c n => (b.2 c n).trans (a.2 c n)⟩
theorem Ag.one {B : List Addr} {h h' : Heap} {i : Addr} (m : i ∈ B) (a : Heap.SameBut i h h') : Ag B h h' := ⟨a.1, fun c n => a.2 c fun e => n (e ▸ m)⟩
theorem Ag.upd {B : List Addr} {h : Heap} {i : Addr} {f : Obj → Obj} (m : i ∈ B) : Ag B h (h.update i f) := ⟨Heap.size_update h i f, fun c n => Heap.get?_update_ne h c i f fun e => n (e ▸ m)⟩
theorem ZipO.set0 {h : Heap} {z TI TO : Addr} {f0 f1 v : Value} (o : ZipO h z TI TO f0 f1) : ZipO (h.update z (Obj.mapFields (·.setIfInBounds 0 v))) z TI TO v f1 := Heap.get?_update_self _ o rfl
theorem ZipO.set1 {h : Heap} {z TI TO : Addr} {f0 f1 v : Value} (o : ZipO h z TI TO f0 f1) : ZipO (h.update z (Obj.mapFields (·.setIfInBounds 1 v))) z TI TO f0 v := Heap.get?_update_self _ o rfl
theorem pair_set0 {h : Heap} {T : Addr} {a b v : Value} (o : IsPair h T a b) : IsPair (h.update T (Obj.mapSeq (·.setIfInBounds 0 v))) T v b := Heap.get?_update_self _ o rfl
theorem pair_set1 {h : Heap} {T : Addr} {a b v : Value} (o : IsPair h T a b) : IsPair (h.update T (Obj.mapSeq (·.setIfInBounds 1 v))) T a v := Heap.get?_update_self _ o rfl
section
variable {prog : Program} {w : World} {A : Around} {E : Value → Shared → Prop} {s : Shared} {z TI TO i1 i2 l1 l2 : Addr} {n1 n2 i : Nat} {P1 P2 : Nat → Value → Prop} {St1 St2 : Nat → Heap → Prop}
theorem seen_if {a : Addr} {Q : Option Obj → Shared → Prop} (h : Q (s.heap.get? a) s) : wpAny (model prog w) A (loadIfAlive a) Q E s := fun _ _ _ => h
theorem own_free {f0 f1 : Value} {Q : Bool → Shared → Prop} (o : ZipO s.heap z TI TO f0 f1) (fr : ZFree s.heap f0) (q1 : f0 = .none → Q true s)
    (q2 : f0 ≠ .none → ∀ f1', ZipO (s.heap.update z (Obj.mapFields (·.setIfInBounds 1 f1'))) z TI TO f0 f1' → Q false { s with heap := s.heap.update z (Obj.mapFields (·.setIfInBounds 1 f1')) }) (q3 : f0 ≠ .none → f1 = .bool true → Q false s) : wpAny (model prog w) A (Builtin.SmallTypes.ownedTupleIsFree (.ref z)) Q E s := by
  refine show wpAny _ _ (field (.ref z) 0 >>= _) _ _ s from wpAny_bind (wpAny_field o rfl (i := 0) rfl ?_)
  rcases fr with rfl | ⟨T, oT, rfl, hT⟩
  · exact wpAny_pure (q1 rfl)
  · refine wpAny_bind (seen_if ?_)
    have e : s.heap.get? ((T : Int).toNat) = some oT := hT
    rw [e]
    by_cases c : f1 = .bool true
    · subst c
      refine wpAny_bind (wpAny_field o rfl (i := 1) rfl ?_)
      exact wpAny_pure (q3 (fun z => nomatch z) rfl)
    · refine wpAny_bind (wpAny_field o rfl (i := 1) rfl ?_)
      have nb : (f1 != Value.bool true) = true := bne_iff_ne.mpr c
      show wpAny _ _ (if (f1 != Value.bool true) = true then _ else _) _ _ s
      rw [if_pos nb]
      exact wpAny_bind (wpAny_setField o rfl (by show 1 < 5; decide) (wpAny_pure (q2 (fun z => nomatch z) _ o.set1)))
end
end L2

set_option Elab.async false
set_option linter.all false
set_option maxRecDepth 100000
set_option maxHeartbeats 400000
namespace L2
open PySem
section
variable {prog : Program} {w : World} {A : Around} {E : Value → Shared → Prop} {s : Shared} {z TI TO i1 i2 l1 l2 : Addr} {n1 n2 i : Nat} {P1 P2 : Nat → Value → Prop} {St1 St2 : Nat → Heap → Prop}
def Far (P1 P2 : Nat → Value → Prop) (St1 St2 : Nat → Heap → Prop) (i : Nat) (k : Nat) (x y : Value) (h : Heap) : Prop :=
  (k = 0 ∧ St1 i h ∧ St2 i h) ∨ (k = 1 ∧ P1 i x ∧ St1 (i + 1) h ∧ St2 i h) ∨ (k = 2 ∧ P1 i x ∧ P2 i y ∧ St1 (i + 1) h ∧ St2 (i + 1) h)
theorem st_other {it jt l : Addr} {n k : Nat} {P : Nat → Value → Prop} {St : Nat → Heap → Prop} {h h' : Heap} (D : Draws prog w A jt [jt, l] n P St) (a : jt ≠ it) (b : l ≠ it) (q : ∀ c, c ≠ it → h'.get? c = h.get? c) (x : St k h) : St k h' :=
  D.frame k h h' x fun c hc o ho => by
    have : c ≠ it := by
      intro e
      rw [e] at hc
      rcases List.mem_cons.mp hc with q | q
      · exact a q.symm
      · exact b (List.mem_singleton.mp q).symm
    rw [q c this]
    exact ho
theorem zp_item {Q : Value → Shared → Prop} (Z : ZipApart z TI TO i1 i2 l1 l2) (D1 : Draws prog w A i1 [i1, l1] n1 P1 St1) (D2 : Draws prog w A i2 [i2, l2] n2 P2 St2) (S : ZipS s.heap z TI TO i1 i2)
    (s1 : St1 i s.heap) (s2 : St2 i s.heap) (h1 : i < n1) (h2 : i < n2)
    (onQ : ∀ x y h' tk (T : Nat), P1 i x → P2 i y → ZipS h' z TI TO i1 i2 → (∀ f, ZipO s.heap z TI TO .none f → ZipO h' z TI TO (rawInt T) (.bool false)) → St1 (i + 1) h' → St2 (i + 1) h' → IsPair h' T x y → s.heap.objs.size ≤ T → (∀ c o, c ≠ z → c ≠ TO → c ≠ i1 → c ≠ i2 → s.heap.get? c = some o → h'.get? c = some o) → Q (.ref T) { s with heap := h', toks := tk }) :
    wpAny (model prog w) A (Builtin.«zip.__next__» ⟨[.ref z], []⟩) (fun fl s' => ∃ u, fl = .done (.ret u) ∧ Q u s') E s := by
  obtain ⟨f0, f1, o, fr⟩ := S.z
  obtain ⟨a, b, to⟩ := S.to
  have nz1 := Z.i1z.symm
  have nz2 := Z.i2z.symm
  -- the road that collects, from a heap that differs at z only
  have road : ∀ (hh : Heap) (g0 g1 : Value) (f : Value → Option PySem.Fin × Array Value → Sem (ForInStep (Option PySem.Fin × Array Value))) (g : Value → Option PySem.Fin × Array Value → Sem (ForInStep (Option PySem.Fin × Array Value))),
      (∀ it r, f it r = holding r.2.toList (Builtin.SmallTypes.nextOf it >>= fun x => pure (some x)) >>= fun d => match d with | some x => pure (.yield (none, r.2.push x)) | none => g it r) →
      (∀ c, c ≠ z → hh.get? c = s.heap.get? c) → hh.objs.size = s.heap.objs.size → ZipO hh z TI TO g0 g1 → ZFree s.heap g0 → g0 ≠ .none → (∀ f, ¬ ZipO s.heap z TI TO .none f) →
      wpAny (model prog w) A (forIn (#[Value.ref i1, Value.ref i2] : Array Value) ((none, #[]) : Option PySem.Fin × Array Value) f) (fun r s' => r.1 = none ∧ wpAny (model prog w) A (newTuple r.2.toList >>= fun t => ret t) (fun fl s' => ∃ u, fl = .done (.ret u) ∧ Q u s') E s') E { s with heap := hh } := by
    intro hh g0 g1 f g hf off sz oz fz ng no
    have t1 : St1 i hh := st_other D1 Z.i1z Z.l1z off s1
    have t2 : St2 i hh := st_other D2 Z.i2z Z.l2z off s2
    refine PySem.MeetsSeq2.wpAny_forIn_array _ (fun rest r s' => r.1 = none ∧ ∃ h' tk x y k, s' = { s with heap := h', toks := tk } ∧ Ag [i1, i2] hh h' ∧ r.2 = (#[x, y] : Array Value).take k ∧ rest = [Value.ref i1, Value.ref i2].drop k ∧ Far P1 P2 St1 St2 i k x y h') _ ?turn ?fin _ _ ⟨rfl, hh, s.toks, .none, .none, 0, rfl, .refl, rfl, rfl, .inl ⟨rfl, t1, t2⟩⟩
    case turn =>
      rintro it rest ⟨r, its⟩ s' ⟨hr, h', tk, x, y, k, rfl, ag, ei, er, far⟩
      rw [hf]
      rcases far with ⟨rfl, c1, c2⟩ | ⟨rfl, p1, c1, c2⟩ | ⟨rfl, _⟩
      · injection er with e1 e2
        subst e1 e2
        refine wpAny_bind (wpAny_holding (wpAny_bind (D1.item i _ _ _ h1 c1 fun x' h3 tk' px d1 sb => wpAny_pure (wpAny_pure ⟨rfl, h3, tk', x', y, 1, rfl, ag.trans (Ag.one (by simp) sb), ?_, rfl, .inr (.inl ⟨rfl, px, d1, st_other D2 Z.i12.symm Z.l2i1 (fun c n => sb.2 c n) c2⟩)⟩))))
        have : its = #[] := ei
        subst this
        rfl
      · injection er with e1 e2
        subst e1 e2
        refine wpAny_bind (wpAny_holding (wpAny_bind (D2.item i _ _ _ h2 c2 fun y' h3 tk' py d2 sb => wpAny_pure (wpAny_pure ⟨rfl, h3, tk', x, y', 2, rfl, ag.trans (Ag.one (by simp) sb), ?_, rfl, .inr (.inr ⟨rfl, p1, py, st_other D1 Z.i12 Z.l1i2 (fun c n => sb.2 c n) c1, d2⟩)⟩))))
        have : its = #[x] := ei
        subst this
        rfl
      · cases er
    case fin =>
      rintro ⟨r, its⟩ s' ⟨hr, h', tk, x, y, k, rfl, ag, ei, er, far⟩
      rcases far with ⟨rfl, _⟩ | ⟨rfl, _⟩ | ⟨rfl, p1, p2, c1, c2⟩
      · cases er
      · cases er
      · have : its = #[x, y] := ei
        subst this
        refine ⟨hr, wpAny_bind (wpAny_newTuple (wpAny_pure ⟨_, rfl, ?_⟩))⟩
        have keep : ∀ {c : Addr} {oc : Obj}, h'.get? c = some oc → (h'.push { cls := .type "tuple", data := .seq #[x, y] }).get? c = some oc := fun e => Heap.get?_push_of_some _ e
        have at' : ∀ {c : Addr}, c ≠ i1 → c ≠ i2 → h'.get? c = hh.get? c := fun a b => ag.2 _ (by simp [a, b])
        have st : ∀ {it jt l : Addr} {n k : Nat} {P : Nat → Value → Prop} {St : Nat → Heap → Prop}, Draws prog w A jt [jt, l] n P St → St k h' → St k (h'.push { cls := .type "tuple", data := .seq #[x, y] }) := fun D q => D.frame _ _ _ q fun c _ oc ho => keep ho
        refine onQ x y _ tk _ p1 p2 ⟨⟨g0, g1, keep ((at' nz1 nz2).trans oz), ?_⟩, keep ((at' Z.TIi1 Z.TIi2).trans ((off _ Z.TIz).trans S.ti)), a, b, keep ((at' Z.TOi1 Z.TOi2).trans ((off _ Z.TOz).trans to))⟩ (fun f q => absurd q (no f)) (st (it := i1) D1 c1) (st (it := i1) D2 c2) (Heap.get?_push_size h' rfl) (by rw [ag.1, sz]; exact Nat.le_refl _) (fun c oc n0 n3 n4 n5 e => keep ((at' n4 n5).trans ((off c n0).trans e)))
        rcases fz with e | ⟨T, oT, e, hT⟩
        · exact absurd e ng
        · by_cases cz : T = z
          · exact .inr ⟨T, _, e, by rw [cz]; exact keep ((at' nz1 nz2).trans oz)⟩
          · by_cases ca : T = i1
            · obtain ⟨o1, q1⟩ := D1.live _ _ c1
              exact .inr ⟨T, _, e, by rw [ca]; exact keep q1⟩
            · by_cases cb : T = i2
              · obtain ⟨o1, q1⟩ := D2.live _ _ c2
                exact .inr ⟨T, _, e, by rw [cb]; exact keep q1⟩
              · exact .inr ⟨T, oT, e, keep ((at' ca cb).trans ((off T cz).trans hT))⟩
  unfold Builtin.«zip.__next__»
  refine wpAny_bind (wpAny_pure (wpAny_bind (wpAny_field o rfl (i := 2) (x := .bool false) rfl ?_)))
  refine wpAny_bind (wpAny_field o rfl (i := 3) (x := .ref TI) rfl ?_)
  refine wpAny_bind (wpAny_seqItems S.ti rfl ?_)
  dsimp only
  rw [if_neg (by simp)]
  refine wpAny_bind (own_free o fr ?_ ?_ ?_)
  · rintro rfl
    rw [if_pos rfl]
    refine wpAny_bind (wpAny_rule (wpAny_bind (wpAny_field o rfl (i := 4) (x := .ref TO) rfl ?_)))
    refine wpAny_bind (wpAny_setField o rfl (by show 0 < 5; decide) ?_)
    have oe := o.set0 (v := .ellipsis)
    have off : ∀ c, c ≠ z → (s.heap.update z (Obj.mapFields (·.setIfInBounds 0 Value.ellipsis))).get? c = s.heap.get? c := fun c n => Heap.get?_update_ne _ c z _ n
    have sz : (s.heap.update z (Obj.mapFields (·.setIfInBounds 0 Value.ellipsis))).objs.size = s.heap.objs.size := Heap.size_update ..
    have t1 := st_other D1 Z.i1z Z.l1z off s1
    have t2 := st_other D2 Z.i2z Z.l2z off s2
    generalize s.heap.update z (Obj.mapFields (·.setIfInBounds 0 Value.ellipsis)) = hh at *
    refine wpAny_bind (wpAny_forIn_list _ (fun rest r s' => r.1 = none ∧ ∃ h' tk x y k, s' = { s with heap := h', toks := tk } ∧ Ag [i1, i2, TO] hh h' ∧ (∃ a b, IsPair h' TO a b ∧ (0 < k → a = x) ∧ (1 < k → b = y)) ∧ rest = [(Value.ref i1, 0), (Value.ref i2, 1)].drop k ∧ Far P1 P2 St1 St2 i k x y h') _ ?turn ?fin _ _ ⟨rfl, hh, s.toks, .none, .none, 0, rfl, .refl, ⟨a, b, (off _ Z.TOz).trans to, fun z => absurd z (by decide), fun z => absurd z (by decide)⟩, rfl, .inl ⟨rfl, t1, t2⟩⟩)
    case turn =>
      rintro ⟨it, k0⟩ rest ⟨r, _⟩ s' ⟨hr, h', tk, x, y, k, rfl, ag, ⟨a', b', t, ea, eb⟩, er, far⟩
      rcases far with ⟨rfl, c1, c2⟩ | ⟨rfl, p1, c1, c2⟩ | ⟨rfl, _⟩
      · injection er with e1 e2
        injection e1 with e1 e3
        subst e1 e2 e3
        refine wpAny_bind (wpAny_onRaise ?_)
        show wpAny _ _ (Builtin.SmallTypes.nextOf (.ref i1) >>= fun y => pure (some y)) _ _ _
        refine wpAny_bind (D1.item i _ _ _ h1 c1 fun x' h3 tk' px d1 sb => wpAny_pure ?_)
        have u : IsPair h3 TO a' b' := (sb.2 TO Z.TOi1).trans t
        refine wpAny_bind (wpAny_seqItems u rfl (wpAny_bind (wpAny_updateSeq u rfl (wpAny_bind (wpAny_letGo (wpAny_pure ⟨rfl, _, tk', x', .none, 1, rfl, ?_, ⟨x', b', pair_set0 u, fun _ => rfl, fun z => absurd z (by decide)⟩, rfl, .inr (.inl ⟨rfl, px, ?_, ?_⟩)⟩))))))
        · exact ag.trans ((Ag.one (by simp) sb).trans (Ag.upd (by simp)))
        · exact st_other D1 Z.TOi1.symm Z.l1TO (fun c n => Heap.get?_update_ne _ c TO _ n) d1
        · exact st_other D2 Z.TOi2.symm Z.l2TO (fun c n => Heap.get?_update_ne _ c TO _ n) (st_other D2 Z.i12.symm Z.l2i1 (fun c n => sb.2 c n) c2)
      · injection er with e1 e2
        injection e1 with e1 e3
        subst e1 e2 e3
        refine wpAny_bind (wpAny_onRaise ?_)
        show wpAny _ _ (Builtin.SmallTypes.nextOf (.ref i2) >>= fun y => pure (some y)) _ _ _
        refine wpAny_bind (D2.item i _ _ _ h2 c2 fun y' h3 tk' py d2 sb => wpAny_pure ?_)
        have u : IsPair h3 TO a' b' := (sb.2 TO Z.TOi2).trans t
        refine wpAny_bind (wpAny_seqItems u rfl (wpAny_bind (wpAny_updateSeq u rfl (wpAny_bind (wpAny_letGo (wpAny_pure ⟨rfl, _, tk', x, y', 2, rfl, ?_, ⟨a', y', pair_set1 u, fun _ => ea (by decide), fun _ => rfl⟩, rfl, .inr (.inr ⟨rfl, p1, py, ?_, ?_⟩)⟩))))))
        · exact ag.trans ((Ag.one (by simp) sb).trans (Ag.upd (by simp)))
        · exact st_other D1 Z.TOi1.symm Z.l1TO (fun c n => Heap.get?_update_ne _ c TO _ n) (st_other D1 Z.i12 Z.l1i2 (fun c n => sb.2 c n) c1)
        · exact st_other D2 Z.TOi2.symm Z.l2TO (fun c n => Heap.get?_update_ne _ c TO _ n) d2
      · cases er
    case fin =>
      rintro ⟨r, _⟩ s' ⟨hr, h', tk, x, y, k, rfl, ag, ⟨a', b', t, ea, eb⟩, er, far⟩
      rcases far with ⟨rfl, _⟩ | ⟨rfl, _⟩ | ⟨rfl, p1, p2, c1, c2⟩
      · cases er
      · cases er
      cases (show r = none from hr)
      rw [ea (by decide), eb (by decide)] at t
      refine wpAny_bind (wpAny_seqItems t rfl (wpAny_bind (wpAny_newTuple ?_)))
      have oz : ZipO h' z TI TO .ellipsis f1 := (ag.2 z (by simp [nz1, nz2, Z.TOz.symm])).trans oe
      have zT : z ≠ h'.objs.size := fun e => by
        have l := Heap.lt_size oz
        rw [← e] at l
        exact Nat.lt_irrefl z l
      have keep : ∀ {c : Addr} {oc : Obj}, h'.get? c = some oc → (h'.push { cls := .type "tuple", data := .seq #[x, y] }).get? c = some oc := fun e => Heap.get?_push_of_some _ e
      have o3 : ZipO (h'.push { cls := .type "tuple", data := .seq #[x, y] }) z TI TO .ellipsis f1 := keep oz
      have o4 := o3.set0 (v := rawInt h'.objs.size)
      have o5 := o4.set1 (v := .bool false)
      refine wpAny_bind (show wpAny _ _ (setField (.ref z) 0 (rawInt h'.objs.size) >>= fun _ => setField (.ref z) 1 (.bool false)) _ _ _ from wpAny_bind (wpAny_setField o3 rfl (by show 0 < 5; decide) (wpAny_setField o4 rfl (by show 1 < 5; decide) (wpAny_pure ⟨_, rfl, ?_⟩))))
      have lift : ∀ {c : Addr} {oc : Obj}, c ≠ z → h'.get? c = some oc → (((h'.push { cls := .type "tuple", data := .seq #[x, y] }).update z (Obj.mapFields (·.setIfInBounds 0 (rawInt h'.objs.size)))).update z (Obj.mapFields (·.setIfInBounds 1 (.bool false)))).get? c = some oc := fun n e => by
        rw [Heap.get?_update_ne _ _ _ _ n, Heap.get?_update_ne _ _ _ _ n]
        exact keep e
      have new : (((h'.push { cls := .type "tuple", data := .seq #[x, y] }).update z (Obj.mapFields (·.setIfInBounds 0 (rawInt h'.objs.size)))).update z (Obj.mapFields (·.setIfInBounds 1 (.bool false)))).get? h'.objs.size = some { cls := .type "tuple", data := .seq #[x, y] } := by
        rw [Heap.get?_update_ne _ _ _ _ zT.symm, Heap.get?_update_ne _ _ _ _ zT.symm]
        exact Heap.get?_push_size h' rfl
      have at' : ∀ {c : Addr}, c ≠ i1 → c ≠ i2 → c ≠ TO → h'.get? c = hh.get? c := fun a b d => ag.2 _ (by simp [a, b, d])
      refine onQ x y _ tk _ p1 p2 ⟨⟨_, _, o5, .inr ⟨_, _, rfl, new⟩⟩, lift Z.TIz ((at' Z.TIi1 Z.TIi2 Z.TITO).trans ((off _ Z.TIz).trans S.ti)), x, y, lift Z.TOz t⟩ (fun _ _ => o5) ?_ ?_ new (by rw [ag.1, sz]; exact Nat.le_refl _) (fun c oc m0 m3 m4 m5 e => lift m0 ((at' m4 m5 m3).trans ((off c m0).trans e)))
      · exact D1.frame _ _ _ c1 fun c hc oc ho => lift (by rcases List.mem_cons.mp hc with rfl | hc; exact Z.i1z; rw [List.mem_singleton.mp hc]; exact Z.l1z) ho
      · exact D2.frame _ _ _ c2 fun c hc oc ho => lift (by rcases List.mem_cons.mp hc with rfl | hc; exact Z.i2z; rw [List.mem_singleton.mp hc]; exact Z.l2z) ho
  · intro ng f1' o'
    rw [if_neg (by decide)]
    refine wpAny_bind (wpAny_mono (road _ f0 f1' _ _ (fun it r => rfl) (fun c n => Heap.get?_update_ne _ c z _ n) (Heap.size_update ..) o' fr ng fun f q => ng ?_) ?_ fun _ _ z => z)
    · have e := (show s.heap.get? z = _ from o).symm.trans (show s.heap.get? z = _ from q)
      injection e with e
      injection e with _ _ e
      injection e with e
      exact congrArg (fun v : Array Value => v.getD 0 .none) e
    · rintro ⟨r, its⟩ s' ⟨hr, q⟩
      cases (show r = none from hr)
      exact q
  · rintro ng rfl
    rw [if_neg (by decide)]
    refine wpAny_bind (wpAny_mono (road s.heap f0 _ _ _ (fun it r => rfl) (fun c n => rfl) rfl o fr ng fun f q => ng ?_) ?_ fun _ _ z => z)
    · have e := (show s.heap.get? z = _ from o).symm.trans (show s.heap.get? z = _ from q)
      injection e with e
      injection e with _ _ e
      injection e with e
      exact congrArg (fun v : Array Value => v.getD 0 .none) e
    · rintro ⟨r, its⟩ s' ⟨hr, q⟩
      cases (show r = none from hr)
      exact q
end
end L2

set_option Elab.async false
set_option linter.all false
set_option maxRecDepth 100000
set_option maxHeartbeats 400000
namespace L2
open PySem
section
variable {prog : Program} {w : World} {A : Around} {E : Value → Shared → Prop} {s : Shared} {z TI TO i1 i2 l1 l2 : Addr} {n1 n2 i : Nat} {P1 P2 : Nat → Value → Prop} {St1 St2 : Nat → Heap → Prop}
theorem zp_end {Q : Fin → Shared → Prop} (Z : ZipApart z TI TO i1 i2 l1 l2) (D1 : Draws prog w A i1 [i1, l1] n1 P1 St1) (S : ZipS s.heap z TI TO i1 i2) (s1 : St1 n1 s.heap)
    (onE : ∀ h' e, (∀ c o, c ≠ z → c ≠ TO → c ≠ i1 → c ≠ i2 → s.heap.get? c = some o → h'.get? c = some o) → (∃ o, h'.get? e = some o ∧ o.cls = .type "StopIteration") → E (.ref e) { s with heap := h' }) :
    wpAny (model prog w) A (Builtin.«zip.__next__» { pos := [.ref z], kw := [] }) Q E s := by
  obtain ⟨f0, f1, o, fr⟩ := S.z
  obtain ⟨a, b, to⟩ := S.to
  -- the draw that ends, out of a heap that differs at z only
  have stop : ∀ (hh : Heap) (R : Option Value → Shared → Prop) (E' : Value → Shared → Prop), (∀ c, c ≠ z → hh.get? c = s.heap.get? c) →
      (∀ h' e, (∀ c oc, c ≠ i1 → hh.get? c = some oc → h'.get? c = some oc) → (∃ oc, h'.get? e = some oc ∧ oc.cls = .type "StopIteration") → E' (.ref e) { s with heap := h' }) →
      wpAny (model prog w) A (Builtin.SmallTypes.nextOf (.ref i1) >>= fun y => pure (some y)) R E' { s with heap := hh } := fun hh R E' off k =>
    wpAny_bind (D1.done _ _ _ (st_other D1 Z.i1z Z.l1z off s1) fun h' e x t => k h' e (fun c oc n q => x c oc n q) t)
  have road : ∀ (hh : Heap) (f : Value → Option PySem.Fin × Array Value → Sem (ForInStep (Option PySem.Fin × Array Value))) (g : Value → Option PySem.Fin × Array Value → Sem (ForInStep (Option PySem.Fin × Array Value))) (R : Option PySem.Fin × Array Value → Shared → Prop),
      (∀ it r, f it r = holding r.2.toList (Builtin.SmallTypes.nextOf it >>= fun x => pure (some x)) >>= fun d => match d with | some x => pure (.yield (none, r.2.push x)) | none => g it r) → (∀ c, c ≠ z → hh.get? c = s.heap.get? c) →
      wpAny (model prog w) A (forIn (#[Value.ref i1, Value.ref i2] : Array Value) ((none, #[]) : Option PySem.Fin × Array Value) f) R E { s with heap := hh } := by
    intro hh f g R hf off
    refine PySem.MeetsSeq2.wpAny_forIn_array _ (fun rest r s' => rest = [Value.ref i1, Value.ref i2] ∧ s' = { s with heap := hh }) _ ?_ ?_ _ _ ⟨rfl, rfl⟩
    · rintro it rest r s' ⟨er, rfl⟩
      injection er with e1 e2
      subst e1
      rw [hf]
      exact wpAny_bind (wpAny_holding (stop hh _ _ off fun h' e keep t => onE h' e (fun c oc m0 m3 m4 m5 q => keep c oc m4 ((off c m0).trans q)) t))
    · rintro r s' ⟨er, _⟩
      cases er
  unfold Builtin.«zip.__next__»
  refine wpAny_bind (wpAny_pure (wpAny_bind (wpAny_field o rfl (i := 2) (x := .bool false) rfl ?_)))
  refine wpAny_bind (wpAny_field o rfl (i := 3) (x := .ref TI) rfl ?_)
  refine wpAny_bind (wpAny_seqItems S.ti rfl ?_)
  dsimp only
  rw [if_neg (by simp)]
  refine wpAny_bind (own_free o fr ?_ ?_ ?_)
  · rintro rfl
    rw [if_pos rfl]
    refine wpAny_bind (wpAny_rule (wpAny_bind (wpAny_field o rfl (i := 4) (x := .ref TO) rfl ?_)))
    refine wpAny_bind (wpAny_setField o rfl (by show 0 < 5; decide) ?_)
    have oe := o.set0 (v := .ellipsis)
    have off : ∀ c, c ≠ z → (s.heap.update z (Obj.mapFields (·.setIfInBounds 0 Value.ellipsis))).get? c = s.heap.get? c := fun c n => Heap.get?_update_ne _ c z _ n
    generalize s.heap.update z (Obj.mapFields (·.setIfInBounds 0 Value.ellipsis)) = hh at *
    refine wpAny_bind (wpAny_forIn_list _ (fun rest r s' => rest = [(Value.ref i1, 0), (Value.ref i2, 1)] ∧ s' = { s with heap := hh }) _ ?_ ?_ _ _ ⟨rfl, rfl⟩)
    · rintro ⟨it, k⟩ rest r s' ⟨er, rfl⟩
      injection er with e1 e2
      injection e1 with e1 e3
      subst e1
      refine wpAny_bind (wpAny_onRaise ?_)
      show wpAny _ _ (Builtin.SmallTypes.nextOf (.ref i1) >>= fun y => pure (some y)) _ _ _
      refine stop hh _ _ off fun h' e keep ⟨oc, q1, q2⟩ => ?_
      have oz : ZipO h' z TI TO .ellipsis f1 := keep z _ Z.i1z.symm oe
      refine wpAny_setField oz rfl (by show 0 < 5; decide) (onE _ e (fun c o' m0 m3 m4 m5 q => ?_) ?_)
      · rw [Heap.get?_update_ne _ _ _ _ m0]
        exact keep c o' m4 ((off c m0).trans q)
      · have ne : e ≠ z := fun c => by
          rw [c, show h'.get? z = _ from oz] at q1
          cases q1
          injection q2 with q2
          exact absurd q2 (by decide)
        exact ⟨oc, by rw [Heap.get?_update_ne _ _ _ _ ne]; exact q1, q2⟩
    · rintro r s' ⟨er, _⟩
      cases er
  · intro ng f1' o'
    rw [if_neg (by decide)]
    exact wpAny_bind (road _ _ _ _ (fun it r => rfl) fun c n => Heap.get?_update_ne _ c z _ n)
  · rintro ng rfl
    rw [if_neg (by decide)]
    exact wpAny_bind (road s.heap _ _ _ (fun it r => rfl) fun c n => rfl)
end
end L2

set_option Elab.async false
set_option linter.all false
set_option maxRecDepth 100000
set_option maxHeartbeats 1000000
namespace L2
open PySem
theorem zip_lacks {n : Str} (h : (match fastLookup "zip" n with | some none => true | _ => false) = true) : typeLookup (.type "zip") n = pure none := am_miss_of_fast h
section
variable {prog : Program} {w : World} {A : Around} {E : Value → Shared → Prop} {s : Shared} {z TI TO : Addr} {f0 f1 : Value}
theorem zk_miss {Q : PySem.Fin → Shared → Prop} {u : Tok} (o : ZipO s.heap z TI TO f0 f1) (hA : A.handled = none) (h : ∀ h' tk e, s.heap.NewAttrErr h' e (.ref z) "keys" → E (.ref e) { s with heap := h', toks := tk }) :
    wpAny (model prog w) A (Builtin.«object.__getattribute__» ⟨[.ref z, .str "keys" u], []⟩) Q E s := by
  have lacks := zip_lacks (n := "keys") (by kernel_rfl)
  have ty : s.TypeIs (.ref z) "zip" := ⟨_, o, rfl⟩
  have plain : (["__module__", "__name__", "__qualname__", "__doc__", "__annotations__"] : List Str).contains "keys" = false := by decide +kernel
  have oz : s.heap.get? z = some { cls := .type "zip", dict := none, data := .fields #[f0, f1, .bool false, .ref TI, .ref TO], slots := #[] } := o
  wp_walk
  exact wpAny_raiseAttrError hA h (attrMsg_fits (by decide +kernel) (by size_fits))
theorem own_entry : entryFor table "zip.__getattribute__" = some Builtin.«object.__getattribute__» := entryFor_alias (id' := "object.__getattribute__") (by kernel_rfl) (by decide +kernel) (by decide +kernel) (by kernel_rfl)
theorem zk_none {Q : Option Value → Shared → Prop} (o : ZipO s.heap z TI TO f0 f1) (hA : A.handled = none) (h : ∀ h' tk, (∀ c oc, s.heap.get? c = some oc → h'.get? c = some oc) → Q none { s with heap := h', toks := tk }) : wpAny (model prog w) A (getAttr? (.ref z) "keys") Q E s := by
  have ty : ∀ tk, Shared.TypeIs { s with toks := tk } (.ref z) "zip" := fun tk => ⟨_, o, rfl⟩
  have ty0 : s.TypeIs (.ref z) "zip" := ⟨_, o, rfl⟩
  have b1 := F.slot_zip_getattribute.lookup
  have b2 := F.slot_zip_getattribute.bind (.ref z)
  have b3 := zip_lacks (n := "__getattr__") (by kernel_rfl)
  have go : ∀ {Q' : Value → Shared → Prop} {E' : Value → Shared → Prop} {tk : Nat}, (∀ h' tk' e, s.heap.NewAttrErr h' e (.ref z) "keys" → E' (.ref e) { s with heap := h', toks := tk' }) → wpAny (model prog w) A (call (.builtin "zip.__getattribute__") ([.ref z] ++ [.str "keys" s.toks])) Q' E' { s with toks := tk } := fun {Q' E' tk} q =>
    wpAny_call_entry F.slot_zip_getattribute (ty tk) own_entry (zk_miss (s := { s with toks := tk }) o hA q) (F.args_zip_getattribute_2 _ _)
  show wpAny _ _ (mkText "keys" >>= fun n => getAttrBy? (.ref z) n) _ _ _
  wp_walk using go
  intro h' tk' e ne
  obtain ⟨ta, tb, there⟩ := ne.there
  have sub := sub_AttributeError
  show wpAny _ _ (getattributeRaised (.ref z) (.str "keys" s.toks) (.type "zip") (.ref e) none false false) _ _ _
  wp_walk
  exact h h' tk' ne.keeps
end
end L2

set_option Elab.async false
set_option linter.all false
set_option maxRecDepth 100000
set_option maxHeartbeats 1000000
namespace L2
open PySem
def SeqAt (tp : Bool) (h : Heap) (l : Addr) (xs : Array Value) : Prop := if tp then h.IsTuple l xs else h.IsList l xs
def IterAt (tp : Bool) (h : Heap) (it l : Addr) (k : Nat) : Prop := if tp then h.IsTupleIter it l k else h.IsListIter it l k
theorem push5 {h : Heap} {a b c d e : Obj} (fa : a.isFreed = false) (fb : b.isFreed = false) (fc : c.isFreed = false) (fd : d.isFreed = false) (fe : e.isFreed = false) :
    ∃ h', h' = ((((h.push a).push b).push c).push d).push e ∧ h'.objs.size = h.objs.size + 5 ∧ h'.get? h.objs.size = some a ∧ h'.get? (h.objs.size + 1) = some b ∧ h'.get? (h.objs.size + 2) = some c ∧ h'.get? (h.objs.size + 3) = some d ∧ h'.get? (h.objs.size + 4) = some e ∧ ∀ x o, h.get? x = some o → h'.get? x = some o := by
  have up : ∀ {g : Heap} {x : Addr} {o p : Obj}, g.get? x = some o → (g.push p).get? x = some o := fun q => Heap.get?_push_of_some _ q
  have sz : ∀ {g : Heap} {p : Obj}, (g.push p).objs.size = g.objs.size + 1 := fun {g p} => Heap.size_push ..
  refine ⟨_, rfl, by rw [sz, sz, sz, sz, sz], up (up (up (up (Heap.get?_push_at rfl fa)))), up (up (up (Heap.get?_push_at (by rw [sz]) fb))), up (up (Heap.get?_push_at (by rw [sz, sz]) fc)), up (Heap.get?_push_at (by rw [sz, sz, sz]) fd), Heap.get?_push_at (by rw [sz, sz, sz, sz]) fe, fun x o q => up (up (up (up (up q))))⟩
section
variable {s : Shared} {E : Value → Shared → Prop} {A : Around} {prog : Program} {w : World}
theorem new_tup (l1 l2 : Addr) (xs ys : Array Value) : Meets (Builtin.«zip.__new__» ⟨[.type "zip", .ref l1, .ref l2], []⟩) (fun _ R s => s.heap.IsTuple l1 xs ∧ s.heap.IsTuple l2 ys ∧
    ∀ h', h'.objs.size = s.heap.objs.size + 5 → h'.get? s.heap.objs.size = some { cls := .type "tuple_iterator", data := .fields #[.ref l1, .int 0 0] } → h'.get? (s.heap.objs.size + 1) = some { cls := .type "tuple_iterator", data := .fields #[.ref l2, .int 0 0] } → IsPair h' (s.heap.objs.size + 2) (.ref s.heap.objs.size) (.ref (s.heap.objs.size + 1)) → IsPair h' (s.heap.objs.size + 3) .none .none →
      ZipO h' (s.heap.objs.size + 4) (s.heap.objs.size + 2) (s.heap.objs.size + 3) .none (.bool false) → (∀ x o, s.heap.get? x = some o → h'.get? x = some o) → R (.ok (.ret (.ref (s.heap.objs.size + 4)))) { s with heap := h' }) :=
  Meets.of_wp fun prog w A R s ⟨p1, p2, k⟩ => by
    have sb := sub_zip
    have it1 : ∀ {A' : Around} {Q : Value → Shared → Prop} {E : Value → Shared → Prop}, Q (.ref s.heap.objs.size) { s with heap := s.heap.push { cls := .type "tuple_iterator", data := .fields #[.ref l1, .int 0 0] } } → wpAny (model prog w) A' (pyIter (.ref l1)) Q E s := fun q => wpAny_pyIter_tuple p1 q
    have it2 : ∀ {A' : Around} {Q : Value → Shared → Prop} {E : Value → Shared → Prop}, Q (.ref (s.heap.push { cls := .type "tuple_iterator", data := .fields #[.ref l1, .int 0 0] }).objs.size) { s with heap := (s.heap.push { cls := .type "tuple_iterator", data := .fields #[.ref l1, .int 0 0] }).push { cls := .type "tuple_iterator", data := .fields #[.ref l2, .int 0 0] } } → wpAny (model prog w) A' (pyIter (.ref l2)) Q E { s with heap := s.heap.push { cls := .type "tuple_iterator", data := .fields #[.ref l1, .int 0 0] } } := fun q => wpAny_pyIter_tuple (Heap.IsTuple.push p2 _) q
    wp_walk using it1, it2
    obtain ⟨h', e, sz, g1, g2, g3, g4, g5, kp⟩ := push5 (h := s.heap) (a := { cls := .type "tuple_iterator", data := .fields #[.ref l1, .int 0 0] }) (b := { cls := .type "tuple_iterator", data := .fields #[.ref l2, .int 0 0] }) (c := { cls := .type "tuple", data := .seq #[.ref s.heap.objs.size, .ref (s.heap.objs.size + 1)] }) (d := { cls := .type "tuple", data := .seq #[.none, .none] }) (e := { cls := .type "zip", data := .fields #[.none, .bool false, .bool false, .ref (s.heap.objs.size + 2), .ref (s.heap.objs.size + 3)] }) rfl rfl rfl rfl rfl
    have r := k h' sz g1 g2 g3 g4 g5 kp
    rw [e] at r
    simp only [Heap.size_push] at r ⊢
    exact ⟨_, rfl, r⟩
theorem zp_call {tp : Bool} {l1 l2 : Addr} {xs ys : Array Value} {Q : Value → Shared → Prop} (p1 : SeqAt tp s.heap l1 xs) (p2 : SeqAt tp s.heap l2 ys)
    (h : ∀ h', ZipS h' (s.heap.objs.size + 4) (s.heap.objs.size + 2) (s.heap.objs.size + 3) s.heap.objs.size (s.heap.objs.size + 1) → ZipO h' (s.heap.objs.size + 4) (s.heap.objs.size + 2) (s.heap.objs.size + 3) .none (.bool false) → IterAt tp h' s.heap.objs.size l1 0 → IterAt tp h' (s.heap.objs.size + 1) l2 0 → h'.objs.size = s.heap.objs.size + 5 →
      (∀ b u, s.heap.get? b = some u → h'.get? b = some u) → Q (.ref (s.heap.objs.size + 4)) { s with heap := h' }) :
    wpAny (model prog w) A (call (Value.type "zip") [Value.ref l1, Value.ref l2]) Q E s := by
  cases tp with
  | false => exact call_zip_2 p1 p2 fun h' a b c d e f g => h h' ⟨⟨_, _, a, .inl rfl⟩, b, _, _, c⟩ a d e f g
  | true =>
    refine callType_new F.called_zip (by decide) (F.typeCall_zip_2 _ _) (F.newCall_zip_2 _ _) (fun obj => F.args_object_init_3 obj _ _) F.entry_zip_new (new_tup l1 l2 xs ys) ⟨p1, p2, fun h' sz g1 g2 g3 g4 g5 kp => ?_⟩
    exact ⟨⟨_, g5, rfl⟩, h h' ⟨⟨_, _, g5, .inl rfl⟩, g3, _, _, g4⟩ g5 ⟨_, g1, rfl, rfl⟩ ⟨_, g2, rfl, rfl⟩ sz kp⟩
variable {z TI TO i1 i2 l1 l2 : Addr} {n1 n2 i : Nat} {P1 P2 : Nat → Value → Prop} {St1 St2 : Nat → Heap → Prop}
theorem zip_ty (S : ZipS s.heap z TI TO i1 i2) : s.TypeIs (.ref z) "zip" := by
  obtain ⟨_, _, o, _⟩ := S.z
  exact ⟨_, o, rfl⟩
theorem zp_next {Q : Option Value → Shared → Prop} (Z : ZipApart z TI TO i1 i2 l1 l2) (D1 : Draws prog w A.in1 i1 [i1, l1] n1 P1 St1) (D2 : Draws prog w A.in1 i2 [i2, l2] n2 P2 St2) (S : ZipS s.heap z TI TO i1 i2)
    (s1 : St1 i s.heap) (s2 : St2 i s.heap) (h1 : i < n1) (h2 : i < n2)
    (onQ : ∀ x y h' tk (T : Nat), P1 i x → P2 i y → ZipS h' z TI TO i1 i2 → (∀ f, ZipO s.heap z TI TO .none f → ZipO h' z TI TO (rawInt T) (.bool false)) → St1 (i + 1) h' → St2 (i + 1) h' → IsPair h' T x y → s.heap.objs.size ≤ T → (∀ c o, c ≠ z → c ≠ TO → c ≠ i1 → c ≠ i2 → s.heap.get? c = some o → h'.get? c = some o) → Q (some (.ref T)) { s with heap := h', toks := tk }) :
    wpAny (model prog w) A (pyNext (Value.ref z)) Q E s := by
  have step : ∀ {Q' : Option Value → Shared → Prop} {E' : Value → Shared → Prop}, (∀ v s', (∃ (x y : Value) (h' : Heap) (tk : Nat) (T : Nat), v = .ref T ∧ s' = { s with heap := h', toks := tk } ∧ P1 i x ∧ P2 i y ∧ ZipS h' z TI TO i1 i2 ∧ (∀ f, ZipO s.heap z TI TO .none f → ZipO h' z TI TO (rawInt T) (.bool false)) ∧ St1 (i + 1) h' ∧ St2 (i + 1) h' ∧ IsPair h' T x y ∧ s.heap.objs.size ≤ T ∧ (∀ c o, c ≠ z → c ≠ TO → c ≠ i1 → c ≠ i2 → s.heap.get? c = some o → h'.get? c = some o)) → Q' (some v) s') →
      wpAny (model prog w) A (callSpecial? (.ref z) "__next__") Q' E' s := fun {Q' E'} k =>
    wpAny_callSpecial?_slot (zip_ty S) F.slot_zip_next (wpAny_call_entry F.slot_zip_next (zip_ty S) F.entry_zip_next (zp_item Z D1 D2 S s1 s2 h1 h2 fun x y h' tk T a1 a2 a3 a4 a5 a6 a7 a8 a9 => k _ _ ⟨x, y, h', tk, T, rfl, rfl, a1, a2, a3, a4, a5, a6, a7, a8, a9⟩) (F.args_zip_next_1 _))
  refine show wpAny _ _ ((callSpecial? (.ref z) "__next__").attempt >>= _) _ _ s from wpAny_bind (wpAny_attempt (step ?_))
  rintro v s' ⟨x, y, h', tk, T, rfl, rfl, a1, a2, a3, a4, a5, a6, a7, a8, a9⟩
  exact wpAny_pure (onQ x y h' tk T a1 a2 a3 a4 a5 a6 a7 a8 a9)
theorem zp_nextEnd {Q : Option Value → Shared → Prop} (Z : ZipApart z TI TO i1 i2 l1 l2) (D1 : Draws prog w A.in1 i1 [i1, l1] n1 P1 St1) (S : ZipS s.heap z TI TO i1 i2) (s1 : St1 n1 s.heap)
    (onQ : ∀ h', (∀ c o, c ≠ z → c ≠ TO → c ≠ i1 → c ≠ i2 → s.heap.get? c = some o → h'.get? c = some o) → Q none { s with heap := h' }) : wpAny (model prog w) A (pyNext (.ref z)) Q E s := by
  have step : ∀ {Q' : Option Value → Shared → Prop} {E' : Value → Shared → Prop}, (∀ h' e, (∀ c o, c ≠ z → c ≠ TO → c ≠ i1 → c ≠ i2 → s.heap.get? c = some o → h'.get? c = some o) → (∃ o, h'.get? e = some o ∧ o.cls = .type "StopIteration") → E' (.ref e) { s with heap := h' }) → wpAny (model prog w) A (callSpecial? (.ref z) "__next__") Q' E' s := fun {Q' E'} k =>
    wpAny_callSpecial?_slot (zip_ty S) F.slot_zip_next (wpAny_call_entry F.slot_zip_next (zip_ty S) F.entry_zip_next (zp_end Z D1 S s1 k) (F.args_zip_next_1 _))
  refine show wpAny _ _ ((callSpecial? (.ref z) "__next__").attempt >>= _) _ _ s from wpAny_bind (wpAny_attempt (step fun h' e keep there => ?_))
  exact wpAny_bind (wpAny_isInstance (T := "StopIteration") (b := true) there isSubtype_stop (wpAny_pure (onQ h' keep)))
end
end L2

set_option Elab.async false
set_option linter.all false
set_option maxRecDepth 100000
set_option maxHeartbeats 1000000
namespace L2
open PySem PyProof PyProof.Rows
theorem entry_upd_loop : entryFor table "dict.update.loop" = some Builtin.«dict.update.loop» := entryFor_of_tree (by kernel_rfl)
theorem plain_upd_loop : plainId "dict.update.loop" = true := by decide +kernel
section
variable {prog : Program} {w : World} {A : Around} {KK : Type} [DecidableEq KK] {knd : KeyKind prog w KK} {R : Result → Shared → Prop}
variable {z TI TO i1 i2 l1 l2 : Addr} {n : Nat} {P1 P2 : Nat → Value → Prop} {St1 St2 : Nat → Heap → Prop}
theorem upd_loop (Z : ZipApart z TI TO i1 i2 l1 l2) (D1 : Draws prog w A.in1.in1 i1 [i1, l1] n P1 St1) (D2 : Draws prog w A.in1.in1 i2 [i2, l2] n P2 St2) (d : Addr) (dz : d ∉ [z, TI, TO, i1, i2, l1, l2]) (res : Value) (hn : n ≤ sizeLine) (rs : List (KK × Value)) (hl : rs.length = n) (nd : (rs.map (·.1)).Nodup)
    (hp : ∀ i x y, P1 i x → P2 i y → ∃ k, rs[i]? = some (k, y) ∧ knd.is k x = true) :
    ∀ (k i : Nat) (s : Shared), n - i = k → i ≤ n → ZipS s.heap z TI TO i1 i2 → St1 i s.heap → St2 i s.heap → s.heap.DictOf knd d (rs.take i) →
    (∀ s' h' tk, s' = { s with heap := h', toks := tk } → h'.DictOf knd d rs → (∀ c o, c ≠ z → c ≠ TO → c ≠ i1 → c ≠ i2 → c ≠ d → s.heap.get? c = some o → h'.get? c = some o) → R (.ok (.ret res)) s') →
    codeAny (model prog w) A (.builtin "dict.update.loop" ⟨[.ref d, .ref z, rawInt i, res], []⟩) R s := by
  have dn : d ≠ z ∧ d ≠ TI ∧ d ≠ TO ∧ d ≠ i1 ∧ d ≠ i2 ∧ d ≠ l1 ∧ d ≠ l2 := by simpa using dz
  obtain ⟨d1, d2, d3, d4, d5, d6, d7⟩ := dn
  intro k
  induction k with
  | zero =>
    intro i s hk hi S s1 s2 hd hR
    have hin : i = n := by omega
    subst hin
    refine codeAny_builtin entry_upd_loop ?_
    rw [Around.under_plainId plain_upd_loop _]
    show wpAny _ A.in1 (pyNext (.ref z) >>= _) _ _ s
    refine wpAny_bind (zp_nextEnd Z D1 S s1 fun h' kp => ?_)
    show wpAny _ _ (Builtin.Dict.addKeywords d [] >>= _) _ _ _; refine wpAny_bind (wpAny_pure (wpAny_pure ?_))
    refine hR _ h' s.toks rfl ?_ fun c o c1 c2 c3 c4 _ e => kp c o c1 c2 c3 c4 e
    rw [List.take_of_length_le (by omega)] at hd
    obtain ⟨o, es, ep, ho, r⟩ := hd
    exact ⟨o, es, ep, kp _ _ d1 d3 d4 d5 ho, r⟩
  | succ k ih =>
    intro i s hk hi S s1 s2 hd hR
    have hlt : i < n := by omega
    refine codeAny_builtin entry_upd_loop ?_
    rw [Around.under_plainId plain_upd_loop _]
    show wpAny _ A.in1 (pyNext (.ref z) >>= _) _ _ s
    refine wpAny_bind (zp_next Z D1 D2 S s1 s2 hlt hlt fun x y h' tk T p1 p2 S' _ t1 t2 gT lT kp => ?_)
    obtain ⟨kk, er, ek⟩ := hp i x y p1 p2
    have hd' : h'.DictOf knd d (rs.take i) := by
      obtain ⟨o, es, ep, ho, r⟩ := hd
      exact ⟨o, es, ep, kp _ _ d1 d3 d4 d5 ho, r⟩
    refine wpAny_bind (wpAny_holding (wpAny_bind (wpAny_tryCatch ?_)))
    unfold Builtin.Dict.pairItems
    refine wpAny_bind (wpAny_typeOf (T := "tuple") ⟨_, gT, rfl⟩ ?_)
    rw [if_pos (by decide)]
    refine wpAny_bind (wpAny_seqItems gT rfl ?_)
    refine wpAny_pure ?_
    show wpAny _ _ (holding [x, y] (dictSet d x y)) _ _ _
    refine wpAny_holding (wpAny_dictSet_pairs (hsz := by rw [List.length_take]; omega) ek hd' fun h2 hd2 sb => ?_)
    replace sb : Heap.SameBut d h' h2 := sb
    have est : stored (rs.take i) kk y = rs.take (i + 1) := by
      rw [stored, if_neg, List.take_succ, er]
      · rfl
      · intro q
        obtain ⟨kv, m1, m2⟩ := List.any_eq_true.mp q
        obtain ⟨j, hj⟩ := List.getElem?_of_mem m1
        have jl : j < i := by
          have := (List.getElem?_eq_some_iff.mp hj).1
          rw [List.length_take] at this
          omega
        rw [List.getElem?_take_of_lt jl] at hj
        have e1 : (rs.map (·.1))[j]? = some kk := by rw [List.getElem?_map, hj]; exact congrArg some (of_decide_eq_true m2)
        have e2 : (rs.map (·.1))[i]? = some kk := by rw [List.getElem?_map, er]; rfl
        exact absurd ((List.getElem?_inj (by rw [List.length_map]; omega) nd).mp (e1.trans e2.symm)) (by omega)
    rw [est] at hd2
    have S2 : ZipS h2 z TI TO i1 i2 := by
      obtain ⟨⟨f0, f1, q1, q2⟩, q3, a, b, q4⟩ := S'
      refine ⟨⟨f0, f1, sb.extBut _ _ (Ne.symm d1) q1, ?_⟩, sb.extBut _ _ (Ne.symm d2) q3, a, b, sb.extBut _ _ (Ne.symm d3) q4⟩
      rcases q2 with e | ⟨T', o', e, g⟩
      · exact .inl e
      · by_cases ed : T' = d
        · subst ed
          obtain ⟨o2, _, _, g2, _⟩ := hd2
          exact .inr ⟨_, _, e, g2⟩
        · exact .inr ⟨_, _, e, sb.extBut _ _ ed g⟩
    refine wpAny_pure ⟨plainId_quiet plain_upd_loop _, ?_⟩
    refine ih (i + 1) _ (by omega) (by omega) S2 (D1.frame _ _ _ t1 fun c hc o e => sb.extBut _ _ (by simp at hc; rcases hc with rfl | rfl; exact Ne.symm d4; exact Ne.symm d6) e) (D2.frame _ _ _ t2 fun c hc o e => sb.extBut _ _ (by simp at hc; rcases hc with rfl | rfl; exact Ne.symm d5; exact Ne.symm d7) e) hd2 fun s' h3 tk3 es hd3 kp3 => ?_
    exact hR s' h3 tk3 es hd3 fun c o c1 c2 c3 c4 c5 e => kp3 c o c1 c2 c3 c4 c5 (sb.extBut _ _ c5 (kp c o c1 c2 c3 c4 e))
end
section
variable {prog : Program} {w : World} {A : Around} {E : Value → Shared → Prop} {s : Shared} {KK : Type} [DecidableEq KK] {knd : KeyKind prog w KK}
theorem draws_at (tp : Bool) (hh : A.handled = none) (it l : Addr) (hne : l ≠ it) (xs : Array Value) : Draws prog w A it [it, l] xs.size (fun i v => xs[i]? = some v) (fun i h => IterAt tp h it l i ∧ SeqAt tp h l xs) := by
  cases tp with
  | false => exact Draws.list hh it l hne xs
  | true => exact drawsT hh it l hne xs
theorem init_zip {z TI TO d : Addr} {more : List (KK × Value)} {R : PySem.Fin → Shared → Prop} (o : ZipO s.heap z TI TO .none (.bool false)) (hd : s.heap.DictOf knd d more) (hA : A.handled = none)
    (q : ∀ h' tk, (∀ c oc, s.heap.get? c = some oc → h'.get? c = some oc) → R (.again (.builtin "dict.update.loop" ⟨[.ref d, .ref z, rawInt 0, .none], []⟩)) { s with heap := h', toks := tk }) :
    wpAny (model prog w) A (Builtin.«dict.__init__» ⟨[.ref d, .ref z], []⟩) R E s := by
  have ty : s.TypeIs (.ref z) "zip" := ⟨_, o, rfl⟩
  have td := hd.typeIs
  have from' : wpAny (model prog w) A (Builtin.Dict.updateFrom "dict.__init__" d (.ref z) [] .none) R E s := by
    have seek : ∀ {Q' : Option Value → Shared → Prop}, (∀ h' tk, (∀ c oc, s.heap.get? c = some oc → h'.get? c = some oc) → Q' none { s with heap := h', toks := tk }) → wpAny (model prog w) A (getAttr? (.ref z) "keys") Q' E s := fun k => zk_none o hA k
    refine show wpAny _ _ (typeOf (.ref z) >>= _) _ _ s from wpAny_bind (wpAny_typeOf ty (wpAny_bind (seek fun h' tk keep => ?_)))
    exact wpAny_bind (wpAny_rule (wpAny_bind (wpAny_pyIter_zip (keep _ _ o) (wpAny_pure (q h' tk keep)))))
  have head : ∀ {Q' : Unit → Shared → Prop}, Q' () s → wpAny (model prog w) A (Builtin.Dict.notOrdered "__init__" ⟨[.ref d, .ref z], []⟩) Q' E s := fun k => wpAny_notOrdered_dict td k
  wp_walk using head, from'
theorem dict_of_zip {tp : Bool} {z TI TO i1 i2 l1 l2 : Addr} {xs ys : Array Value} {rs : List (KK × Value)} {Q : Value → Shared → Prop} (hh : A.handled = none) (Z : ZipApart z TI TO i1 i2 l1 l2) (S : ZipS s.heap z TI TO i1 i2) (oz : ZipO s.heap z TI TO .none (.bool false))
    (p1 : IterAt tp s.heap i1 l1 0) (p2 : IterAt tp s.heap i2 l2 0) (q1 : SeqAt tp s.heap l1 xs) (q2 : SeqAt tp s.heap l2 ys) (dz : ∀ a ∈ [z, TI, TO, i1, i2, l1, l2], a < s.heap.objs.size) (gx : xs.size = rs.length) (hy : ys.size = rs.length) (hn : rs.length ≤ sizeLine) (nd : (rs.map (·.1)).Nodup)
    (hp : ∀ (i : Nat) x y, xs[i]? = some x → ys[i]? = some y → ∃ k, rs[i]? = some (k, y) ∧ knd.is k x = true)
    (h : ∀ h' tk, h'.DictOf knd s.heap.objs.size rs → (∀ c o, c ≠ z → c ≠ TO → c ≠ i1 → c ≠ i2 → s.heap.get? c = some o → h'.get? c = some o) → Q (.ref s.heap.objs.size) { s with heap := h', toks := tk }) :
    wpAny (model prog w) A (call (.type "dict") [.ref z]) Q E s := by
  -- the made dict, then its __init__, then the loop
  refine callType_codes (Q₁ := fun obj t => obj = .ref s.heap.objs.size ∧ ∃ hm, t = { s with heap := hm } ∧ hm.DictOf knd s.heap.objs.size [] ∧ ∀ c o, s.heap.get? c = some o → hm.get? c = some o) PySem.F.kt_called_dict (PySem.F.kt_typeCall_dict_1 _) PySem.F.entry_dict_init (kt_code_dict_new _ ⟨rfl, _, rfl, Heap.DictOf.new s.heap, fun c o e => Heap.get?_push_of_some _ e⟩) ?_
  rintro _ _ ⟨rfl, hm, rfl, dm, km⟩
  refine ⟨dm.typeIs, PySem.F.args_dict_init_2 _ _, init_zip (s := { s with heap := hm }) (km _ _ oz) dm hh fun h1 tk k1 => ⟨plainId_quiet plain_upd_loop _, ?_⟩⟩
  have kp : ∀ c o, s.heap.get? c = some o → h1.get? c = some o := fun c o e => k1 c o (km c o e)
  have D1 := draws_at (prog := prog) (w := w) (A := A.in1.in1.in1) tp hh i1 l1 Z.l1i1 xs
  have D2 := draws_at (prog := prog) (w := w) (A := A.in1.in1.in1) tp hh i2 l2 Z.l2i2 ys
  rw [gx] at D1
  rw [hy] at D2
  have d1 : h1.DictOf knd s.heap.objs.size (rs.take 0) := by
    obtain ⟨o, es, ep, ho, r⟩ := dm
    exact ⟨o, es, ep, k1 _ _ ho, r⟩
  obtain ⟨a, b, to⟩ := S.to
  refine upd_loop Z D1 D2 s.heap.objs.size (fun m => Nat.lt_irrefl _ (dz _ m)) .none hn rs rfl nd hp rs.length 0 _ rfl (Nat.zero_le _) ⟨⟨_, _, kp _ _ oz, .inl rfl⟩, kp _ _ S.ti, a, b, kp _ _ to⟩ (D1.frame 0 s.heap h1 ⟨p1, q1⟩ fun c _ o e => kp c o e) (D2.frame 0 s.heap h1 ⟨p2, q2⟩ fun c _ o e => kp c o e) d1 fun s' h' tk' es d' kp' => ?_
  subst es
  exact ⟨rfl, h h' tk' d' fun c o c1 c2 c3 c4 e => kp' c o c1 c2 c3 c4 (Nat.ne_of_lt (Heap.lt_size e)) (kp _ _ e)⟩
end
theorem paired_get {α β : Type} {F : α → β → Prop} : ∀ {l₁ : List α} {l₂ : List β} {i : Nat} {a : α} {b : β}, Paired F l₁ l₂ → l₁[i]? = some a → l₂[i]? = some b → F a b
  | _, _, 0, _, _, .cons r _, ha, hb => by cases ha; cases hb; exact r
  | _, _, i + 1, _, _, .cons _ t, ha, hb => paired_get (i := i) t (by simpa using ha) (by simpa using hb)
theorem kv_zip : ∀ {ks : List Key} {gs : List V} {ys : List Value}, Vals gs ys → KV (ks.zip gs) (ks.zip ys)
  | [], _, _, _ => by rw [List.zip_nil_left, List.zip_nil_left]; exact .nil
  | _ :: _, _, _, .nil => .nil
  | k :: ks, _, _, .cons r t => .cons ⟨rfl, r⟩ (kv_zip (ks := ks) t)
section
variable {X : Cx} {a b : Expr} {t : TA} {p p' pos pos' : Pos} {tp : Bool}
def tDictZip (K : PySem.W.Frag) (tp : Bool) (t : TA) : TE := fun σ H Q => t σ H fun vs H2 => ∃ (l1 l2 : Addr) (ks : List Key) (gs : List V), vs = [.ref l1, .ref l2] ∧ SqB K tp H2 l1 (ks.map kV) ∧ SqB K tp H2 l2 gs ∧ gs.length = ks.length ∧ ks.Nodup ∧
  ∀ d, H2 d = none → Q (.ref d) (upd H2 d (.dK (ks.zip gs)))
theorem Inv.seqAt {pins : List (Addr × Obj)} {σ : List (Option V)} {H : Hp} {s : Shared} {l : Addr} {xs : List V} (I : Inv X pins σ H s) (h : SqB X.K tp H l xs) : ∃ its : List Value, Vals xs its ∧ SeqAt tp s.heap l its.toArray ∧ xs.length ≤ sizeLine := by
  cases tp with
  | true =>
    obtain ⟨its, r, ⟨o, e1, e2, n, e3⟩, z⟩ := I.tuple h
    exact ⟨its, r, ⟨o, e1, e2, n, e3⟩, z⟩
  | false =>
    obtain ⟨its, r, ⟨o, n, e1, e2, e3, e4⟩, z⟩ := I.list h
    exact ⟨its, r, ⟨o, e1, e2, n, e4⟩, z⟩
theorem SeqAt.lt {h : Heap} {l : Addr} {xs : Array Value} (q : SeqAt tp h l xs) : l < h.objs.size := by
  cases tp with
  | true => obtain ⟨o, e, _⟩ := q; exact Heap.lt_size e
  | false => obtain ⟨o, e, _⟩ := q; exact Heap.lt_size e
theorem SeqAt.keep {h h' : Heap} {l : Addr} {xs : Array Value} (q : SeqAt tp h l xs) (k : ∀ c o, h.get? c = some o → h'.get? c = some o) : SeqAt tp h' l xs := by
  cases tp with
  | true => obtain ⟨o, e, r⟩ := q; exact ⟨o, k _ _ e, r⟩
  | false => obtain ⟨o, e, r⟩ := q; exact ⟨o, k _ _ e, r⟩
theorem pe_dictZip (hh : X.A.handled = none) (hgD : Gl X "dict") (hmD : X.mg "dict" = none) (hgZ : Gl X "zip") (hmZ : X.mg "zip" = none) (bd : bootBuiltins "dict" = some (.type "dict")) (bz : bootBuiltins "zip" = some (.type "zip")) (ha : PA X [a, b] t) (sa : isStar a = false := by rfl) (sb : isStar b = false := by rfl) :
    PE X (.Call (.Name "dict" p) [.Call (.Name "zip" p') [a, b] [] pos'] [] pos) (tDictZip X.K tp t) := by
  intro pins s σ H Q I h
  refine wpAny_Call_Name_kw (ld_blt I hgD hmD bd ?_ (by decide) (by decide))
  refine PyProof.Rows.callWith_type1 ?_ rfl rfl
  show wpAny _ _ (spliced ((false, eval (.Call (.Name "zip" p') [a, b] [] pos') X.env) :: backTo pos (starEach [] X.env))) _ _ s
  refine Calls.spliced_cons ?_
  refine wpAny_Call_Name_kw (ld_blt I hgZ hmZ bz ?_ (by decide) (by decide))
  refine PyProof.Rows.callWith_type1 ?_ (star_cons sa) (by rw [star_cons sb]; rfl)
  refine thn (ha pos' pins s σ H _ I h) fun us s1 ⟨vs, H1, I1, r1, l1, l2, ks, gs, ev, qk, qg, el, nd, q1⟩ => ?_
  subst ev
  obtain ⟨u1, u2, rfl, e1, e2⟩ := vals2 r1
  cases e1
  cases e2
  obtain ⟨xs, rx, q1', zx⟩ := I1.seqAt qk
  obtain ⟨ys, ry, q2', zy⟩ := I1.seqAt qg
  have lx : xs.length = ks.length := by have := rx.length; rw [List.length_map] at this; exact this.symm
  have ly : ys.length = ks.length := by have := ry.length; rw [el] at this; exact this.symm
  refine zp_call q1' q2' fun h1 S oz i1 i2 sz kp => ?_
  have a1 := q1'.lt
  have a2 := q2'.lt
  have Z : ZipApart (s1.heap.objs.size + 4) (s1.heap.objs.size + 2) (s1.heap.objs.size + 3) s1.heap.objs.size (s1.heap.objs.size + 1) l1 l2 := by
    constructor <;> (intro e; simp only [Addr] at *; omega)
  refine Calls.spliced_nil ?_
  have lr : (ks.zip ys).length = ks.length := by rw [List.length_zip, ly, Nat.min_self]
  have mk : (ks.zip ys).map (·.1) = ks := List.map_fst_zip (by omega)
  refine dict_of_zip (knd := mixKind X.prog X.w) (rs := ks.zip ys) (xs := xs.toArray) (ys := ys.toArray) (s := { s1 with heap := h1 }) hh Z S oz i1 i2 (q1'.keep kp) (q2'.keep kp) (fun c hc => ?_) (by rw [lr, List.size_toArray, lx]) (by rw [lr, List.size_toArray, ly]) (by rw [lr, ← el]; exact zy) (by rw [mk]; exact nd) (fun i x y ex ey => ?_) fun h' tk hd kp' => ?_
  · simp only [List.mem_cons, List.not_mem_nil, or_false] at hc
    show c < h1.objs.size
    rw [sz]
    rcases hc with rfl | rfl | rfl | rfl | rfl | rfl | rfl <;> (simp only [Addr] at *; omega)
  · have ex' : xs[i]? = some x := by simpa using ex
    have ey' : ys[i]? = some y := by simpa using ey
    have il : i < ks.length := by have := (List.getElem?_eq_some_iff.mp ex').1; omega
    refine ⟨ks[i], ?_, ?_⟩
    · rw [List.getElem?_zip_eq_some]
      exact ⟨List.getElem?_eq_getElem il, ey'⟩
    · refine kV_is (r := ?_)
      exact paired_get rx (i := i) (by rw [List.getElem?_map, List.getElem?_eq_getElem il]; rfl) ex'
  · have kk : ∀ c o, s1.heap.get? c = some o → h'.get? c = some o := fun c o e => by
      have lt := Heap.lt_size e
      refine kp' c o ?_ ?_ ?_ ?_ (kp c o e) <;> (intro z; simp only [Addr] at *; omega)
    have le : s1.heap.objs.size ≤ h1.objs.size := by rw [sz]; omega
    have fr := I1.hok.fresh le
    refine ⟨.ref h1.objs.size, _, I1.laid (a := h1.objs.size) (o := .dK (ks.zip gs)) (t' := tk) kk le ⟨?_, ?_, ks.zip ys, ?_, hd⟩, rfl, q1 _ fr⟩
    · rw [List.length_zip]; omega
    · have := I1.big
      exact beq_eq_false_iff_ne.mpr (by intro z; simp only [Addr] at *; omega)
    · exact kv_zip ry
end
end L2

set_option Elab.async false
set_option linter.all false
set_option maxRecDepth 100000
set_option maxHeartbeats 1000000
namespace L2
open PySem PyProof PyProof.Rows
section
variable {X : Cx}
end
end L2

set_option Elab.async false
set_option linter.all false
set_option maxRecDepth 100000
set_option maxHeartbeats 1000000
namespace L2
open PySem PyProof PyProof.Rows
theorem Inv.turnN {X : Cx} {pins : List (Addr × Obj)} {σ : St} {H : Hp} {s : Shared} {h' : Heap} {t' : Nat} (ch : List Addr) (I : Inv X pins σ H s) (hf : ∀ b ∈ ch, FpOk X pins H b) (k : ∀ b o, b ∉ ch → s.heap.get? b = some o → h'.get? b = some o) : Inv X pins σ H { s with heap := h', toks := t' } := by
  have nH : ∀ b u, H b = some u → b ∉ ch := fun b u q z => by rw [(hf b z).1] at q; cases q
  refine I.step (g' := s.gens) (d' := s.drawn) (ch := ch) (fun b hb => ?_) (fun b o _ _ hc q _ => k b o hc q) (fun b o _ _ hc q _ => ⟨o.slots, k b o hc q⟩)
    (fun _ _ _ _ n => n) (fun b o hc q => ⟨o, k b o hc q⟩) (fun _ _ e => e) (fun _ _ _ e => e) (fun b ps e => ⟨#[], by rw [e]; simp⟩) (fun m hm => ?_) (fun b u q => ?_) I.bare
  · obtain ⟨_, f1, _, f3, f4, f5⟩ := hf b hb
    exact ⟨f3, f1, f4, f5⟩
  · obtain ⟨o, es, ep, ho, r⟩ := hm
    exact ⟨o, es, ep, k _ o (fun z => (hf _ z).2.1 rfl) ho, r⟩
  · refine (I.hok b u q).stay (fun c v hc z => ?_) (fun _ z => z) fun _ _ z => z
    rcases hc with rfl | hc
    · exact k _ v (nH _ _ q) z
    · exact k _ v (nH _ _ hc) z
theorem Inv.turnT {X : Cx} {pins : List (Addr × Obj)} {σ : St} {H : Hp} {s : Shared} {h' : Heap} {t' : Nat} {T : Addr} {xs : List V} {us : List Value} (ch : List Addr) (I : Inv X pins σ H s) (hf : ∀ b ∈ ch, FpOk X pins H b) (k : ∀ b o, b ∉ ch → s.heap.get? b = some o → h'.get? b = some o)
    (lT : s.heap.objs.size ≤ T) (r : Vals xs us) (hz : xs.length ≤ sizeLine) (hT : h'.get? T = some { cls := .type "tuple", data := .seq us.toArray }) : Inv X pins σ (upd H T (.tup xs)) { s with heap := h', toks := t' } := by
  have fT : H T = none := I.hok.fresh lT
  have nT : ∀ b o, s.heap.get? b = some o → b ≠ T := fun b o q => Nat.ne_of_lt (Nat.lt_of_lt_of_le (Heap.lt_size q) lT)
  have nH : ∀ b u, H b = some u → b ∉ ch := fun b u q z => by rw [(hf b z).1] at q; cases q
  refine I.step (g' := s.gens) (d' := s.drawn) (ch := ch) (fun b hb => ?_) (fun b o _ _ hc q _ => k b o hc q) (fun b o _ _ hc q _ => ⟨o.slots, k b o hc q⟩)
    (fun b o _ q n => by rw [upd_ne (nT b o q)]; exact n) (fun b o hc q => ⟨o, k b o hc q⟩) (fun b ys q => by rw [upd_ne (ne_of_none q fT)]; exact q) (fun b o u q => by rw [upd_ne (ne_of_none q fT)]; exact q)
    (fun b ps q => ⟨#[], by rw [upd_ne (ne_of_none q fT), q]; simp⟩) (fun m hm => ?_) (fun b u q => ?_) I.bare
  · obtain ⟨_, f1, _, f3, f4, f5⟩ := hf b hb
    exact ⟨f3, f1, f4, f5⟩
  · obtain ⟨o, es, ep, ho, r⟩ := hm
    exact ⟨o, es, ep, k _ o (fun z => (hf _ z).2.1 rfl) ho, r⟩
  · by_cases hb : b = T
    · subst hb
      rw [upd_same] at q
      cases q
      exact ⟨hz, us, r, ⟨_, hT, rfl, _, rfl⟩, fun o z => by rw [hT] at z; cases z; rfl⟩
    · rw [upd_ne hb] at q
      refine (I.hok b u q).stay (fun c v hc z => ?_) (fun c z => by rw [upd_ne (ne_of_none z fT)]; exact z) fun c ys z => by rw [upd_ne (ne_of_none z fT)]; exact z
      rcases hc with rfl | hc
      · exact k _ v (nH _ _ q) z
      · exact k _ v (nH _ _ hc) z
def Itz (K : PySem.W.Frag) (tp : Bool) (a b : Addr) : It :=
  ⟨fun i H => ∃ xs ys x y, SqB K tp H a xs ∧ SqB K tp H b ys ∧ xs[i]? = some x ∧ ys[i]? = some y, fun i H v H' => ∃ t x y, v = .ref t ∧ H t = none ∧ (∀ xs ys, SqB K tp H a xs → SqB K tp H b ys → xs[i]? = some x ∧ ys[i]? = some y) ∧ H' = upd H t (.tup [x, y]),
    fun i H => ∃ xs, SqB K tp H a xs ∧ xs.length = i⟩
theorem Inv.seqB_inj {X : Cx} {pins : List (Addr × Obj)} {σ : St} {H : Hp} {s : Shared} {tp : Bool} {a : Addr} {xs ys : List V} (I : Inv X pins σ H s) (h : SqB X.K tp H a xs) (h' : SqB X.K tp H a ys) : xs = ys := by
  cases tp with
  | true => exact I.tuple_inj h h'
  | false => exact I.list_inj h h'
theorem zp_iter {prog : Program} {w : World} {A : Around} {E : Value → Shared → Prop} {s : Shared} {z TI TO : Addr} {f0 : Value} {Q : Value → Shared → Prop} (gz : ZipO s.heap z TI TO f0 (.bool false)) (h : Q (.ref z) s) : wpAny (model prog w) A (pyIter (.ref z)) Q E s := wpAny_pyIter_zip gz h
theorem go_zip {prog : Program} {w : World} {A : Around} {E : Value → Shared → Prop} {s : Shared} {elts : List Expr} {x1} {pos : Pos} {z TI TO T : Addr} {Q : Unit → Shared → Prop} (gz : ZipO s.heap z TI TO (rawInt T) (.bool false))
    (q : ∀ h', ZipO h' z TI TO .none (.bool false) → Heap.SameBut z s.heap h' → Q () { s with heap := h' }) : wpAny (model prog w) A (letOwnedTupleGo (.Tuple elts x1 pos) (.ref z) (.ref T)) Q E s := wpAny_letOwnedTupleGo_zip gz q
theorem turn_zip {P : Program} {w : World} {K : PySem.W.Frag} {elts : List Expr} {kk : Nat} {tpos : Pos} (tp : Bool) (a b z TI TO i1 i2 : Addr) (Z : ZipApart z TI TO i1 i2 a b) :
    Turn P w K (.Tuple elts kk tpos) (Itz K tp a b) [z, TI, TO, i1, i2] z (fun i h => ZipO h z TI TO .none (.bool false) ∧ IsPair h TI (.ref i1) (.ref i2) ∧ (∃ u v, IsPair h TO u v) ∧ IterAt tp h i1 a i ∧ IterAt tp h i2 b i) where
  mem := by simp
  obj := fun i h st c hc => by
    obtain ⟨gz, gI, ⟨u, v, gO⟩, h1, h2⟩ := st
    have it : ∀ {j l : Addr}, IterAt tp h j l i → ∃ o, h.get? j = some o ∧ ∀ v, o.data ≠ .cell v := fun {j l} q => by
      cases tp with
      | true => obtain ⟨o, e, c, d⟩ := (show h.IsTupleIter j l i from q); exact ⟨o, e, fun v z => by rw [d] at z; cases z⟩
      | false => obtain ⟨o, e, c, d⟩ := (show h.IsListIter j l i from q); exact ⟨o, e, fun v z => by rw [d] at z; cases z⟩
    simp only [List.mem_cons, List.not_mem_nil, or_false] at hc
    rcases hc with rfl | rfl | rfl | rfl | rfl
    · exact ⟨_, gz, fun v z => by have z' : Data.fields _ = Data.cell v := z; cases z'⟩
    · exact ⟨_, gI, fun v z => by have z' : Data.seq _ _ = Data.cell v := z; cases z'⟩
    · exact ⟨_, gO, fun v z => by have z' : Data.seq _ _ = Data.cell v := z; cases z'⟩
    · exact it h1
    · exact it h2
  keep := fun i h h' st k => by
    obtain ⟨gz, gI, ⟨u, v, gO⟩, h1, h2⟩ := st
    have it : ∀ {j l : Addr}, j ∈ [z, TI, TO, i1, i2] → IterAt tp h j l i → IterAt tp h' j l i := fun {j l} m q => by
      cases tp with
      | true => exact (show h.IsTupleIter j l i from q).at fun o e => k j m o e
      | false => exact (show h.IsListIter j l i from q).at fun o e => k j m o e
    exact ⟨k z (by simp) _ gz, k TI (by simp) _ gI, ⟨u, v, k TO (by simp) _ gO⟩, it (by simp) h1, it (by simp) h2⟩
  item := by
    intro X hP hw hK hc i pins s σ H E I hf st hg
    subst hP hw hK
    obtain ⟨gz, gI, ⟨u, v, gO⟩, h1, h2⟩ := st
    obtain ⟨xs, ys, x, y, qx, qy, ex, ey⟩ := hg
    obtain ⟨us, rx, px, zx⟩ := I.seqAt qx
    obtain ⟨vs, ry, py, zy⟩ := I.seqAt qy
    obtain ⟨u1, hu1, ru1⟩ := rx.get ex
    obtain ⟨u2, hu2, ru2⟩ := ry.get ey
    have lx : i < us.toArray.size := by rw [List.size_toArray, ← rx.length]; exact (List.getElem?_eq_some_iff.mp ex).1
    have ly : i < vs.toArray.size := by rw [List.size_toArray, ← ry.length]; exact (List.getElem?_eq_some_iff.mp ey).1
    have hh : X.A.in1.handled = none := I.ok.hd hc
    refine zp_next Z (draws_at tp hh i1 a Z.l1i1 us.toArray) (draws_at tp hh i2 b Z.l2i2 vs.toArray) ⟨⟨_, _, gz, .inl rfl⟩, gI, u, v, gO⟩ ⟨h1, px⟩ ⟨h2, py⟩ lx ly fun x' y' h' tk T e1 e2 S' zo t1 t2 hT lT kp => ⟨_, rfl, ?_⟩
    have E1 : x' = u1 := by
      have : us[i]? = some x' := by simpa using e1
      rw [hu1] at this
      injection this with this
      exact this.symm
    have E2 : y' = u2 := by
      have : vs[i]? = some y' := by simpa using e2
      rw [hu2] at this
      injection this with this
      exact this.symm
    subst E1 E2
    refine go_zip (s := { s with heap := h', toks := tk }) (zo _ gz) fun h2' gz2 sb => ?_
    replace sb : Heap.SameBut z h' h2' := sb
    have nz : ∀ {c : Addr} {o : Obj}, s.heap.get? c = some o → T ≠ c := fun {c o} e => Nat.ne_of_gt (Nat.lt_of_lt_of_le (Heap.lt_size e) lT)
    have hT2 := sb.extBut _ _ (nz gz) hT
    have J : Inv X pins σ (upd H T (.tup [x, y])) { s with heap := h2', toks := tk } := by
      refine I.turnT (xs := [x, y]) (us := [x', y']) [z, TI, TO, i1, i2] hf (fun c o hc e => ?_) lT (.cons ru1 (.cons ru2 .nil)) (by show 2 ≤ sizeLine; decide) hT2
      simp only [List.mem_cons, List.not_mem_nil, or_false, not_or] at hc
      exact sb.extBut _ _ hc.1 (kp c o hc.1 hc.2.2.1 hc.2.2.2.1 hc.2.2.2.2 e)
    have it : ∀ {j l : Addr}, j ≠ z → IterAt tp h' j l (i + 1) → IterAt tp h2' j l (i + 1) := fun {j l} m q => by
      cases tp with
      | true => exact (show h'.IsTupleIter j l (i + 1) from q).extBut sb.extBut m
      | false => exact (show h'.IsListIter j l (i + 1) from q).extBut sb.extBut m
    obtain ⟨_, gI', ua, ub, gO'⟩ := S'
    refine ⟨.ref T, _, J, rfl, ⟨T, x, y, rfl, I.hok.fresh lT, fun xs' ys' qx' qy' => ?_, rfl⟩, ⟨gz2, sb.extBut _ _ Z.TIz gI', ⟨ua, ub, sb.extBut _ _ Z.TOz gO'⟩, it Z.i1z t1.1, it Z.i2z t2.1⟩, fun c hc => ?_⟩
    · rw [I.seqB_inj qx' qx, I.seqB_inj qy' qy]
      exact ⟨ex, ey⟩
    · have lt : ∀ {tpp : Bool} {j l : Addr}, IterAt tpp s.heap j l i → T ≠ j := fun {tpp j l} q => by
        cases tpp with
        | true => obtain ⟨o, e, _⟩ := (show s.heap.IsTupleIter j l i from q); exact nz e
        | false => obtain ⟨o, e, _⟩ := (show s.heap.IsListIter j l i from q); exact nz e
      have ne : c ≠ T := by
        simp only [List.mem_cons, List.not_mem_nil, or_false] at hc
        rcases hc with rfl | rfl | rfl | rfl | rfl
        · exact (nz gz).symm
        · exact (nz gI).symm
        · exact (nz gO).symm
        · exact (lt h1).symm
        · exact (lt h2).symm
      rw [upd_ne ne]
      exact (hf c hc).1
  done := by
    intro X hP hw hK hc i pins s σ H E I hf st hg
    subst hP hw hK
    obtain ⟨gz, gI, ⟨u, v, gO⟩, h1, h2⟩ := st
    obtain ⟨xs, qx, en⟩ := hg
    obtain ⟨us, rx, px, zx⟩ := I.seqAt qx
    have hh : X.A.in1.handled = none := I.ok.hd hc
    have e2 : i = us.toArray.size := by rw [List.size_toArray, ← rx.length]; exact en.symm
    subst e2
    refine zp_nextEnd Z (draws_at tp hh i1 a Z.l1i1 us.toArray) ⟨⟨_, _, gz, .inl rfl⟩, gI, u, v, gO⟩ ⟨h1, px⟩ fun h' kp => ⟨rfl, ?_⟩
    refine I.turnN (t' := s.toks) [z, TI, TO, i1, i2] hf fun c o hc e => ?_
    simp only [List.mem_cons, List.not_mem_nil, or_false, not_or] at hc
    exact kp c o hc.1 hc.2.2.1 hc.2.2.2.1 hc.2.2.2.2 e
  self := fun _ _ _ _ _ st h => by
    obtain ⟨gz, _⟩ := st
    exact zp_iter gz h
section
variable {X : Cx}
def iZip (K : PySem.W.Frag) (tp : Bool) (ta : TA) : TI := fun σ H R => ta σ H fun vs H1 => ∃ a b, vs = [.ref a, .ref b] ∧ (∃ xs, SqB K tp H1 a xs) ∧ (∃ ys, SqB K tp H1 b ys) ∧ R (Itz K tp a b) H1
theorem pi_zip {elts : List Expr} {kk : Nat} {tpos p pos : Pos} {l l' : Expr} {ta : TA} (tp : Bool) (hg : Gl X "zip") (hm : X.mg "zip" = none) (hv : bootBuiltins "zip" = some (.type "zip")) (ha : PA X [l, l'] ta) (sa : isStar l = false := by rfl) (sb : isStar l' = false := by rfl) :
    PI X (.Tuple elts kk tpos) (.Call (.Name "zip" p) [l, l'] [] pos) (iZip X.K tp ta) := by
  intro pins s σ H R I h
  refine Call_ (ld_blt I hg hm hv (PyProof.Rows.callWith_type1 (thn (ha pos pins s σ H _ I h) fun us s1 ⟨vs, H1, I1, r1, q1⟩ => ?_) (star_cons sa) (by rw [star_cons sb]; rfl)))
  obtain ⟨a, b, rfl, ⟨xs, qx⟩, ⟨ys, qy⟩, q⟩ := q1
  obtain ⟨u1, u2, rfl, e1, e2⟩ := vals2 r1
  cases e1
  cases e2
  obtain ⟨us, rx, px, zx⟩ := I1.seqAt qx
  obtain ⟨ws, ry, py, zy⟩ := I1.seqAt qy
  refine zp_call px py fun h1 S gz i1 i2 sz kp => ?_
  have a1 := px.lt
  have a2 := py.lt
  have Z : ZipApart (s1.heap.objs.size + 4) (s1.heap.objs.size + 2) (s1.heap.objs.size + 3) s1.heap.objs.size (s1.heap.objs.size + 1) a b := by
    constructor <;> (intro e; simp only [Addr] at *; omega)
  refine zp_iter gz ?_
  obtain ⟨_, gI, ua, ub, gO⟩ := S
  refine ⟨s1.heap.objs.size + 4, [s1.heap.objs.size + 4, s1.heap.objs.size + 2, s1.heap.objs.size + 3, s1.heap.objs.size, s1.heap.objs.size + 1], _, _, H1, rfl, I1.kept (t' := s1.toks) kp, turn_zip tp a b _ _ _ _ _ Z, ⟨gz, gI, ⟨ua, ub, gO⟩, i1, i2⟩, fun c hc => ?_, q⟩
  have lc : s1.heap.objs.size ≤ c := by
    simp only [List.mem_cons, List.not_mem_nil, or_false] at hc
    rcases hc with rfl | rfl | rfl | rfl | rfl <;> (simp only [Addr] at *; omega)
  exact I1.fpOk lc (I1.hok.fresh lc)
theorem for_zip {K : PySem.W.Frag} {tp : Bool} {a b : Addr} {xs ys : List V} {g : TG} {tb : TS} {D : Ends} {σ : St} {H : Hp} (hlen : ys.length = xs.length) (Pv : Nat → St → Hp → Prop) (h0 : Pv 0 σ H) (hl : ∀ i σ H, i ≤ xs.length → Pv i σ H → SqB K tp H a xs ∧ SqB K tp H b ys)
    (hs : ∀ i x y t σ H, xs[i]? = some x → ys[i]? = some y → Pv i σ H → H t = none → g (.ref t) σ (upd H t (.tup [x, y])) fun σ2 H2 => tb { D with nx := Pv (i + 1), ct := Pv (i + 1), bk := D.nx } σ2 H2) (hd : ∀ σ H, Pv xs.length σ H → D.nx σ H) :
    ∃ W : Nat → Nat → St → Hp → Prop, (∃ m, W 0 m σ H) ∧ ∀ i m σ H, W i m σ H →
      ((Itz K tp a b).stop i H ∧ D.nx σ H) ∨ ((Itz K tp a b).go i H ∧ ∃ N : St → Hp → Prop, (∀ σ' H', N σ' H' → ∃ m', m' < m ∧ W (i + 1) m' σ' H') ∧ ∀ x H', (Itz K tp a b).yld i H x H' → g x σ H' fun σ2 H2 => tb { D with nx := N, ct := N, bk := D.nx } σ2 H2) := by
  refine ⟨fun i m σ H => m = xs.length - i ∧ i ≤ xs.length ∧ Pv i σ H, ⟨xs.length, by simp, Nat.zero_le _, h0⟩, ?_⟩
  rintro i m σ H ⟨rfl, hi, p⟩
  obtain ⟨q1, q2⟩ := hl i σ H hi p
  by_cases hlt : i < xs.length
  · have hlt' : i < ys.length := by omega
    refine .inr ⟨⟨xs, ys, xs[i], ys[i], q1, q2, by simp [hlt], by simp [hlt']⟩, Pv (i + 1), fun σ' H' p' => ⟨xs.length - (i + 1), by omega, rfl, hlt, p'⟩, fun x H' y => ?_⟩
    obtain ⟨t, z, z', rfl, ht, hy, rfl⟩ := y
    obtain ⟨e1, e2⟩ := hy xs ys q1 q2
    exact hs i z z' t σ H e1 e2 p ht
  · have e : i = xs.length := by omega
    subst e
    exact .inl ⟨⟨xs, q1, rfl⟩, hd σ H p⟩
end
end L2

set_option Elab.async false
set_option linter.all false
set_option maxRecDepth 100000
namespace L2
open PySem PySem.Spec PyProof.Rows
section
variable {s : Shared} {R : Result → Shared → Prop} {A : Around} {prog : Program} {w : World}
abbrev testsOf (ifs : List Expr) (env : Env) : Sem Bool := forIn ifs true fun c r => if r = true then do let ok ← isTrue c env (eval c env); pure (ForInStep.yield ok) else pure (ForInStep.yield r)
def Less (J : Nat → Shared → Prop) (n : Nat) (t : Shared) : Prop := ∃ m, m < n ∧ J m t
theorem comp_turns {elt target iter : Expr} {ifs : List Expr} {scope : Scope} {pos : Pos} {it acc : Value} {env : Env} {N : Value → Shared → Prop} (eN : N = notedBy (model prog w) A env fun e s' => R (.error e) s') (J : Nat → Shared → Prop)
    (turn : ∀ n s, J n s → wpAny (model prog w) A (pyNext it) (fun r s1 => (r = none → R (.ok .next) s1) ∧ ∀ v, r = some v → wpAny (model prog w) A (letOwnedTupleGo target it v) (fun _ s0 => wpAny (model prog w) A (assign target env v) (fun _ s2 => wpAny (model prog w) A (testsOf ifs env)
      (fun ok s3 => (ok = false → Less J n s3) ∧ (ok = true → wpAny (model prog w) A (eval elt env) (fun x s4 => wpAny (model prog w) A (call (.builtin "list.append") [acc, x]) (fun _ s5 => Less J n s5) N s4) N s3)) N s2) N s0) N s1) N s)
    (n : Nat) (h : J n s) : codeAny (model prog w) A (.compLoop (.ListComp elt [⟨target, iter, ifs, 0⟩] scope pos) 0 it acc env) R s := by
  subst eN
  refine codeAny_loop rfl J (fun n s hJ => ?_) n h
  refine (show wpAny _ A ((compTurn (.ListComp elt [⟨target, iter, ifs, 0⟩] scope pos) 0 it acc env).onRaise (fun x => do noteFrame x env; theTreesLotGoes x)) _ _ s from wpAny_noted ?_)
  rw [compTurn_list]
  refine wpAny_bind (wpAny_standAt (wpAny_bind (thn (turn n s hJ) fun r s1 ⟨q0, q1⟩ => ?_)))
  cases r with
  | none => exact wpAny_pure (q0 rfl)
  | some v =>
    refine wpAny_bind (thn (q1 v rfl) fun _ s0 q2 => wpAny_bind (thn q2 fun _ s2 q3 => wpAny_bind (thn q3 fun ok s3 ⟨no, yes⟩ => ?_)))
    cases ok with
    | false => exact wpAny_pure ⟨rfl, no rfl⟩
    | true => exact wpAny_bind (wpAny_bind (thn (yes rfl) fun x s4 q4 => wpAny_bind (thn q4 fun _ s5 q5 => wpAny_pure (wpAny_pure ⟨rfl, q5⟩))))
end
structure BlkScope2 (X : Cx) (scope : Scope) (x x' : Str) (Nf : List Str) (js : List Nat) : Prop where
  kind : scope.kind = .function
  nocell : ∀ y ∈ scope.names, y.2 ≠ .cell
  loc : ∀ y ∈ scope.names, y.2 = .local → scope.names.lookup y.1 = some .local
  own : scope.names.lookup x = some .local
  own' : scope.names.lookup x' = some .local
  nd : (x :: x' :: Nf).Nodup
  free : ∀ y ∈ scope.names, y.2 = .free → X.env.kindOf y.1 = some .cell
  slots : Nf.length = js.length
  at_ : ∀ (i : Nat) (z : Str), Nf[i]? = some z → ∃ j : Nat, js[i]? = some j ∧ X.N[j]? = some z ∧ scope.names.lookup z = some .free ∧ X.env.scope.names.lookup z = some .cell
section
variable {X : Cx} {scope : Scope} {x x' : Str} {Nf : List Str} {js : List Nat} {C : Addr} {s₂ : Shared} {H₂ : Hp} {ex : List Addr} {pins : List (Addr × Obj)} {σ : St}
theorem BlkScope2.hasCell (B : BlkScope2 X scope x x' Nf js) (ok : X.Ok) : ∀ y ∈ scope.names, y.2 = .free → ∃ c, X.env.cells.lookup y.1 = some c := fun y hy hf => ok.has y.1 (.inl (B.free y hy hf))
theorem BlkScope2.look (B : BlkScope2 X scope x x' Nf js) (ok : X.Ok) {z : Str} {c : Addr} (e : (clGo X.env scope.names []).lookup z = some c) : X.env.cells.lookup z = some c :=
  clGo_look scope.names [] (B.hasCell ok) (fun c h => by simp at h) e
theorem BlkScope2.ok (B : BlkScope2 X scope x x' Nf js) {H : Hp} {s : Shared} (I : Inv X pins σ H s) (hC : s.heap.objs.size ≤ C) {fp : List Addr} (hf : ∀ b ∈ fp, FpOk X pins H b) (ho : ∀ b ∈ fp, ∃ o, s.heap.get? b = some o ∧ ∀ v, o.data ≠ .cell v) :
    (blk X scope (x :: x' :: Nf) C s H fp pins).Ok where
  mod := I.ok.mod
  kind := B.kind
  glob := I.ok.glob
  blt := I.ok.blt
  above := hC
  inj := fun y z c h1 h2 => I.ok.inj y z c (B.look I.ok h1) (B.look I.ok h2)
  has := fun z hz => clGo_has scope.names [] (.inl (relabel_free (sc := scope) B.nocell hz))
  cab := fun y c h _ => Bool.noConfusion h
  hd := fun h => I.ok.hd h
  frames := I.ok.frames
  stk := .inl rfl
  exf := fun b hb => by
    obtain ⟨o, e, d⟩ := ho b hb
    refine ⟨Nat.ne_of_lt (Nat.lt_of_lt_of_le (Heap.lt_size e) hC), fun z c h => (hf b hb).2.2.2.2.1 z c (B.look I.ok h)⟩
  bs := I.bs
  bsz := Nat.le_trans I.ok.bsz I.sz
  noex := fun b o e hb => by
    rcases (hf b hb).2.2.2.1 with z | z
    · exact I.ok.noex b o e z
    · exact absurd (Nat.lt_of_lt_of_le (Heap.lt_size e) (Nat.le_trans I.ok.bsz z)) (Nat.lt_irrefl _)
  exfs := fun b hb hs => by
    rcases List.mem_cons.mp (I.stkSub b hs) with e | e
    · exact (hf b hb).2.1 e
    · exact (hf b hb).2.2.1 e
  funs := I.stack
  frf := I.stkFree
end
section
variable {X : Cx} {scope : Scope} {x x' : Str} {Nf : List Str} {js : List Nat} {pins : List (Addr × Obj)} {σ : St}

def blkSt2 (js : List Nat) (σ : St) (v v' : Option V) : St := v :: v' :: js.map fun j => (σ[j]?).getD none

theorem BlkScope2.inv (B : BlkScope2 X scope x x' Nf js) {H : Hp} {s : Shared} (I : Inv X pins σ H s) {fp : List Addr} (hf : ∀ b ∈ fp, FpOk X pins H b) (ho : ∀ b ∈ fp, ∃ o, s.heap.get? b = some o ∧ ∀ v, o.data ≠ .cell v)
    {h₁ : Heap} {tk : Nat} (hn : h₁.Ns (s.heap.objs.size + 1) (fun _ => none)) (hs : Heap.SameBut (s.heap.objs.size + 1) ((s.heap.push { cls := .type "list", data := .seq #[] }).push { cls := .type "dict", data := .dict #[] }) h₁) :
    Inv (blk X scope (x :: x' :: Nf) (s.heap.objs.size + 1) s H fp pins) [] (blkSt2 js σ none none) (upd H s.heap.objs.size (.lst [])) { s with heap := h₁, toks := tk } := by
  have old : ∀ b o, s.heap.get? b = some o → h₁.get? b = some o := fun b o e =>
    hs.extBut b o (Nat.ne_of_lt (Nat.lt_succ_of_lt (Heap.lt_size e))) (Heap.get?_push_of_some _ (Heap.get?_push_of_some _ e))
  have hD : h₁.get? s.heap.objs.size = some { cls := .type "list", data := .seq #[] } := hs.extBut _ _ (Nat.ne_of_lt (Nat.lt_succ_self _)) (Heap.get?_push_of_some _ (Heap.get?_push_size _ rfl))
  have fD : H s.heap.objs.size = none := I.hok.fresh (Nat.le_refl _)
  have fC : H (s.heap.objs.size + 1) = none := I.hok.fresh (Nat.le_succ _)
  have cellAt : ∀ z c, (clGo X.env scope.names []).lookup z = some c → c < s.heap.objs.size := fun z c e => by
    obtain ⟨v, q⟩ := I.cell z c (B.look I.ok e)
    exact q.lt
  have J := I.laid (a := s.heap.objs.size) (o := .lst []) (h' := h₁) (t' := tk) old (Nat.le_refl _) ⟨Nat.zero_le _, [], 0, .nil, hD⟩
  refine ⟨B.ok I (Nat.le_succ _) hf ho, rfl, I.bare, Un.laid old (Nat.le_refl _) fD, ⟨_, hn, fun i z v h1 h2 h3 => ?_⟩, fun z c e => ?_, ?_, fun z c e => ?_, fun p hp => ?_, J.hok, ?_⟩
  · -- a name of the block that has a value: one of the def's
    cases i with
    | zero =>
      have h2' : some (none : Option V) = some (some v) := h2
      cases h2'
    | succ i =>
     cases i with
     | zero =>
      have h2' : some (none : Option V) = some (some v) := h2
      cases h2'
     | succ i =>
      have h1' : Nf[i]? = some z := h1
      have h2' : (js.map fun j => (σ[j]?).getD none)[i]? = some (some v) := h2
      obtain ⟨j, e1, e2, e3, e4⟩ := B.at_ i z h1'
      rw [List.getElem?_map, e1] at h2'
      have h2'' : (σ[j]?).getD none = some v := Option.some.inj h2'
      have e5 : σ[j]? = some (some v) := by
        cases q : σ[j]? with
        | none => rw [q] at h2''; cases h2''
        | some y => rw [q] at h2''; exact congrArg some h2''
      obtain ⟨m, hm, hl⟩ := I.loc
      obtain ⟨u, r, l⟩ := hl j z v e2 e5 (.inr (.inl e4))
      refine ⟨u, r, .inr ⟨.inl ?_, ?_⟩⟩
      · exact relabel_cell I.ok.kind e4 B.loc B.nocell e3
      · rcases l with ⟨k, _⟩ | ⟨_, c, hc, q⟩
        · rw [show X.env.kindOf z = X.env.scope.names.lookup z from rfl, e4] at k; cases k
        · obtain ⟨c', hc'⟩ := clGo_has (env := X.env) (x := z) scope.names [] (.inl (PySem.mem_of_lookup e3))
          have e6 := B.look I.ok hc'
          rw [hc] at e6
          cases e6
          exact ⟨c, hc', q.keeps old⟩
  · obtain ⟨v, q⟩ := I.cell z c (B.look I.ok e)
    exact ⟨v, q.keeps old⟩
  · show upd H s.heap.objs.size (.lst []) (s.heap.objs.size + 1) = none
    rw [upd_ne (Nat.ne_of_gt (Nat.lt_succ_self _))]
    exact fC
  · rw [upd_ne (Nat.ne_of_lt (cellAt z c e))]
    exact I.freeC z c (B.look I.ok e)
  · have hp' : p ∈ X.pn ++ pins := by
      have : p ∈ (X.pn ++ pins) ++ [] := hp
      rwa [List.append_nil] at this
    obtain ⟨e, n, ne, nf, d⟩ := I.pin p hp'
    refine ⟨old _ _ e, ?_, Nat.ne_of_lt (Nat.lt_succ_of_lt (Heap.lt_size e)), fun z => ?_, d⟩
    · rw [upd_ne (Nat.ne_of_lt (Heap.lt_size e))]; exact n
    · rcases List.mem_cons.mp (I.stkSub p.1 z) with q | q
      · exact ne q
      · exact nf q
  · show (none :: none :: js.map _).length = (x :: x' :: Nf).length
    rw [List.length_cons, List.length_cons, List.length_map, List.length_cons, List.length_cons, B.slots]

theorem BlkScope2.back (B : BlkScope2 X scope x x' Nf js) {H H' : Hp} {s s' : Shared} {fp : List Addr} {C : Addr} {pl : List (Addr × Obj)} {τ : St} (I : Inv X pins σ H s) (hf : ∀ b ∈ fp, FpOk X pins H b) (hC : s.heap.objs.size ≤ C)
    (J : Inv (blk X scope (x :: x' :: Nf) C s H fp pins) pl τ H' s') {h' : Heap} (hs : Heap.SameBut C s'.heap h') : Inv X pins σ H' { s' with heap := h' } := by
  have nC : H' C = none := J.free
  refine I.call' (s' := { s' with heap := h' }) (ch := fp) J.os ⟨fun b o e n hb hx => ?_, fun b o e n hb hx => ?_, J.base.free, fun b o e hx => ?_, J.base.tups, J.base.frzs, J.base.tbls⟩ ?_ J.bare (fun b hb => ?_)
  · exact hs.extBut b o (Nat.ne_of_lt (Nat.lt_of_lt_of_le (Heap.lt_size e) hC)) (J.base.keep b o e n hb hx)
  · obtain ⟨sl, e1⟩ := J.base.slot b o e n hb hx
    exact ⟨sl, hs.extBut b _ (Nat.ne_of_lt (Nat.lt_of_lt_of_le (Heap.lt_size e) hC)) e1⟩
  · obtain ⟨o', e1⟩ := J.base.there b o e hx
    exact ⟨o', hs.extBut b _ (Nat.ne_of_lt (Nat.lt_of_lt_of_le (Heap.lt_size e) hC)) e1⟩
  · intro a o e
    refine (J.hok a o e).stay (fun b u hb q => hs.extBut b u ?_ q) (fun _ q => q) fun _ _ q => q
    rcases hb with rfl | hb
    · exact fun z => by rw [z, nC] at e; cases e
    · exact fun z => by rw [z, nC] at hb; cases hb
  · obtain ⟨_, f1, f2, f3, f4, f5⟩ := hf b hb
    exact ⟨f3, f1, f4, f5⟩
end
def tComp2 (K : PySem.W.Frag) (js : List Nat) (wi : TI) (tc : TT) (te : TE) : TE := fun σ H Q => wi σ H fun J H1 => ∀ D, H1 D = none → ∃ W : Nat → Nat → Hp → Prop, (∃ m, W 0 m (upd H1 D (.lst []))) ∧ ∀ i m H2, W i m H2 →
  (J.stop i H2 ∧ Q (.ref D) H2) ∨ (J.go i H2 ∧ ∀ v H3, J.yld i H2 v H3 → ∃ t y y', v = .ref t ∧ SqT K H3 t [y, y'] ∧ tc (blkSt2 js σ (some y) (some y')) H3 fun b H4 =>
    if b = true then te (blkSt2 js σ (some y) (some y')) H4 fun y H5 => ∃ ys, H5 D = some (.lst ys) ∧ ys.length < sizeLine ∧ ∃ m', m' < m ∧ W (i + 1) m' (upd H5 D (.lst (ys ++ [y])))
    else ∃ m', m' < m ∧ W (i + 1) m' H4)
section
variable {X : Cx} {scope : Scope} {x x' : Str} {Nf : List Str} {js : List Nat} {wi : TI} {tc : TT} {te : TE} {elt iter : Expr} {ifs : List Expr} {px px' ptg pos : Pos} {ktg : Nat}

theorem comp_core2 (use : Option (Value → Sem Unit)) {pins : List (Addr × Obj)} {s₂ : Shared} {σ : St} {H₂ : Hp} {it : Addr} {fp : List Addr} {tn : Nat → Heap → Prop} {J : It} {E : Value → Shared → Prop} {QQ : Value → Addr → Result → Shared → Prop} {Q : VK} {tg0 : Expr} (htg : tg0 = .Tuple [.Name x px, .Name x' px'] ktg ptg)
    (B : BlkScope2 X scope x x' Nf js) (hc : X.calm = true)
    (ht : ∀ C s₂ H₂ ex pins, PTs (blk X scope (x :: x' :: Nf) C s₂ H₂ ex pins) ifs tc) (he : ∀ C s₂ H₂ ex pins, PE (blk X scope (x :: x' :: Nf) C s₂ H₂ ex pins) elt te)
    (I : Inv X pins σ H₂ s₂) (T : Turn X.prog X.w X.K tg0 J fp it tn) (st : tn 0 s₂.heap) (hf : ∀ b ∈ fp, FpOk X pins H₂ b)
    (hW : ∀ D, H₂ D = none → ∃ W : Nat → Nat → Hp → Prop, (∃ m, W 0 m (upd H₂ D (.lst []))) ∧ ∀ i m H2, W i m H2 →
      (J.stop i H2 ∧ Q (.ref D) H2) ∨ (J.go i H2 ∧ ∀ v H3, J.yld i H2 v H3 → ∃ t y y', v = .ref t ∧ SqT X.K H3 t [y, y'] ∧ tc (blkSt2 js σ (some y) (some y')) H3 fun b H4 =>
        if b = true then te (blkSt2 js σ (some y) (some y')) H4 fun y H5 => ∃ ys, H5 D = some (.lst ys) ∧ ys.length < sizeLine ∧ ∃ m', m' < m ∧ W (i + 1) m' (upd H5 D (.lst (ys ++ [y])))
        else ∃ m', m' < m ∧ W (i + 1) m' H4))
    (hQ : ∀ s' H', (∀ h', Heap.SameBut (s₂.heap.objs.size + 1) s'.heap h' → Inv X pins σ H' { s' with heap := h' }) → (∃ m, s'.heap.Ns (s₂.heap.objs.size + 1) m) → H' (s₂.heap.objs.size + 1) = none → Q (.ref s₂.heap.objs.size) H' → QQ (.ref s₂.heap.objs.size) (s₂.heap.objs.size + 1) (.ok .next) s') :
    wpAny (model X.prog X.w) X.A (newList []) (fun acc s₃ => wpAny (model X.prog X.w) X.A (newFunctionEnv scope X.env.globals (clGo X.env scope.names []) [] X.env.qual none .none (some X.env)) (fun cenv s₄ =>
      codeAny (model X.prog X.w) X.A (.compStart (.ListComp elt [⟨.Tuple [.Name x px, .Name x' px'] ktg ptg, iter, ifs, 0⟩] scope pos) 0 (.ref it) acc { cenv with scope := relabel scope X.env }) (QQ acc cenv.locals) s₄) E s₃) E s₂ := by
  subst htg
  refine wpAny_newObj_type (wpAny_newFunctionEnv B.nocell (by intro y hy; simp at hy) (fun h₁ hns₁ hsb₁ => ?_) B.kind)
  dsimp only at hns₁ hsb₁ ⊢
  have hsz : (s₂.heap.push { cls := .type "list", dict := none, data := .seq ([] : List Value).toArray }).objs.size = s₂.heap.objs.size + 1 := Heap.size_push _ _
  rw [hsz] at hns₁ hsb₁ ⊢
  have ho : ∀ b ∈ fp, ∃ o, s₂.heap.get? b = some o ∧ ∀ v, o.data ≠ .cell v := T.obj 0 _ st
  have hD0 : H₂ s₂.heap.objs.size = none := I.hok.fresh (Nat.le_refl _)
  obtain ⟨W, ⟨m0, w0⟩, turn⟩ := hW _ hD0
  have old : ∀ b o, s₂.heap.get? b = some o → h₁.get? b = some o := fun b o e =>
    hsb₁.extBut b o (Nat.ne_of_lt (Nat.lt_succ_of_lt (Heap.lt_size e))) (Heap.get?_push_of_some _ (Heap.get?_push_of_some _ e))
  have st1 : tn 0 h₁ := T.keep _ _ _ st fun b _ o e => old b o e
  have I1 : ∀ tk, Inv (blk X scope (x :: x' :: Nf) (s₂.heap.objs.size + 1) s₂ H₂ fp pins) [] (blkSt2 js σ none none) (upd H₂ s₂.heap.objs.size (.lst [])) { s₂ with heap := h₁, toks := tk } := fun tk => B.inv I hf ho hns₁ hsb₁
  have fpD : ∀ b ∈ fp, b ≠ s₂.heap.objs.size := fun b hb => by
    obtain ⟨o, e, _⟩ := ho b hb
    exact Nat.ne_of_lt (Heap.lt_size e)
  have fp0 : ∀ b ∈ fp, upd H₂ s₂.heap.objs.size (.lst []) b = none := fun b hb => by rw [upd_ne (fpD b hb)]; exact (hf b hb).1
  -- what the block's context says of the iterator's objects
  have stat : ∀ {H' : Hp}, (∀ b ∈ fp, H' b = none) → ∀ b ∈ fp, FpOk (blk X scope (x :: x' :: Nf) (s₂.heap.objs.size + 1) s₂ H₂ fp pins) [] H' b := fun {H'} hn b hb => by
    obtain ⟨_, f1, f2, f3, f4, f5⟩ := hf b hb
    obtain ⟨o, e, _⟩ := ho b hb
    refine ⟨hn b hb, Nat.ne_of_lt (Nat.lt_succ_of_lt (Heap.lt_size e)), fun z => ?_, .inl hb, fun z c h => f4 z c (B.look I.ok h), fun p hp => ?_⟩
    · rcases List.mem_cons.mp (I.stkSub b z) with q | q
      · exact f1 q
      · exact f2 q
    · have hp' : p ∈ (X.pn ++ pins) ++ [] := hp
      rw [List.append_nil] at hp'
      exact f5 p hp'
  have loop : ∀ sL : Shared, sL = { s₂ with heap := h₁, toks := s₂.toks + ([] : List (Str × Value)).length } →
      codeAny (model X.prog X.w) X.A (.compLoop (.ListComp elt [⟨.Tuple [.Name x px, .Name x' px'] ktg ptg, iter, ifs, 0⟩] scope pos) 0 (.ref it) (.ref s₂.heap.objs.size) (compEnvC scope (clGo X.env scope.names []) (s₂.heap.objs.size + 1) X.env))
        (QQ (.ref s₂.heap.objs.size) (s₂.heap.objs.size + 1)) sL := by
    rintro sL rfl
    refine comp_turns rfl (fun n s' => ∃ i v v' H', Inv (blk X scope (x :: x' :: Nf) (s₂.heap.objs.size + 1) s₂ H₂ fp pins) [] (blkSt2 js σ v v') H' s' ∧ tn i s'.heap ∧ (∀ b ∈ fp, H' b = none) ∧ W i n H') ?_ m0 ⟨0, none, none, _, I1 _, st1, fp0, w0⟩
    rintro n s3 ⟨i, v3, v3', H3, I3, st3, fr3, w3⟩
    rcases turn i n H3 w3 with ⟨stop, qn⟩ | ⟨go, step⟩
    · refine thn (T.done (blk X scope (x :: x' :: Nf) (s₂.heap.objs.size + 1) s₂ H₂ fp pins) rfl rfl rfl hc i [] s3 _ H3 _ I3 (stat fr3) st3 stop) fun r s4 ⟨hr, I4⟩ => ⟨fun _ => ?_, fun v e => by rw [hr] at e; cases e⟩
      subst hr
      obtain ⟨m4, hm4, _⟩ := I4.loc
      exact hQ s4 H3 (fun h' hs => B.back I hf (Nat.le_succ _) I4 hs) ⟨m4, hm4⟩ I4.free qn
    · refine thn (T.item (blk X scope (x :: x' :: Nf) (s₂.heap.objs.size + 1) s₂ H₂ fp pins) rfl rfl rfl hc i [] s3 _ H3 _ I3 (stat fr3) st3 go) fun r s4 ⟨u, hr, h4⟩ => ⟨(fun e => by rw [hr] at e; cases e), fun v e => ?_⟩
      rw [hr] at e
      cases e
      refine wpAny_mono h4 (fun _ s5 ⟨y5, H5, I5, r5, yl5, st5, fr5⟩ => ?_) fun _ _ z => z
      have I5' := I5.pinned (stat fr5) (T.obj _ _ st5)
      have hnm : (blk X scope (x :: x' :: Nf) (s₂.heap.objs.size + 1) s₂ H₂ fp pins).env.scope.names.lookup x = some .local := lookup_relabel_local B.own
      have hnm' : (blk X scope (x :: x' :: Nf) (s₂.heap.objs.size + 1) s₂ H₂ fp pins).env.scope.names.lookup x' = some .local := lookup_relabel_local B.own'
      have hg : PG (blk X scope (x :: x' :: Nf) (s₂.heap.objs.size + 1) s₂ H₂ fp pins) (.Tuple [.Name x px, .Name x' px'] ktg ptg) (gTup X.K 2 (gCons (gName 0) (gCons (gName 1) gNil))) := pg_tup hc (pgs_cons (pg_name B.nd rfl (.inl hnm) (.inr hnm)) (pgs_cons (pg_name B.nd rfl (.inl hnm') (.inr hnm')) pgs_nil))
      obtain ⟨ta, y1, y2, ey, qt, q5⟩ := step y5 _ yl5
      refine wpAny_mono (hg _ s5 _ H5 y5 u (fun σ' H' => σ' = blkSt2 js σ (some y1) (some y2) ∧ H' = H5) I5' r5 ⟨ta, _, ey, qt, rfl, _, _, rfl, _, _, rfl, rfl, rfl, rfl⟩) (fun _ s6 ⟨σ6, H6, I6, q6⟩ => ?_) fun _ _ z => False.elim z
      obtain ⟨e6, e6'⟩ := q6
      subst e6 e6'
      refine wpAny_mono ((ht _ _ _ _ _).run I6 q5) (fun b s7 ⟨H7, I7, q7⟩ => ?_) fun _ _ z => False.elim z
      have again : ∀ {s8 : Shared} {σ8 : St} {H8 : Hp}, Inv (blk X scope (x :: x' :: Nf) (s₂.heap.objs.size + 1) s₂ H₂ fp pins) ([] ++ pinsAt fp s5.heap) σ8 H8 s8 → tn (i + 1) s8.heap ∧ ∀ b ∈ fp, H8 b = none := fun {s8 σ8 H8} I8 => by
        refine ⟨T.keep _ _ _ st5 fun b hb o e => (I8.pin (b, o) (List.mem_append_right _ (List.mem_append_right _ (mem_pinsAt hb e)))).1, fun b hb => ?_⟩
        obtain ⟨o, e, d⟩ := T.obj _ _ st5 b hb
        exact (I8.pin (b, o) (List.mem_append_right _ (List.mem_append_right _ (mem_pinsAt hb e)))).2.1
      refine ⟨fun eb => ?_, fun eb => ?_⟩
      · subst eb
        simp only [Bool.false_eq_true, if_false] at q7
        obtain ⟨m', hm, w7⟩ := q7
        exact ⟨m', hm, i + 1, _, _, H7, I7.unpinned, (again I7).1, (again I7).2, w7⟩
      · subst eb
        simp only [if_true] at q7
        refine wpAny_mono (he _ _ _ _ _ _ s7 _ H7 _ I7 q7) (fun yv s8 ⟨y8, H8, I8, r8, ys, hD8, hl8, m', hm, w8⟩ => ?_) fun _ _ z => False.elim z
        obtain ⟨a1, a2⟩ := again I8
        refine wpAny_mono (mt_append (X := blk X scope (x :: x' :: Nf) (s₂.heap.objs.size + 1) s₂ H₂ fp pins) _ s8 _ H8 (.ref s₂.heap.objs.size) [y8] (.ref s₂.heap.objs.size) [yv] (fun _ H' => H' = upd H8 s₂.heap.objs.size (.lst (ys ++ [y8]))) I8 rfl (.cons r8 .nil)
          ⟨_, _, _, rfl, rfl, hD8, hl8, rfl⟩) (fun _ s9 ⟨_, H9, I9, _, q9⟩ => ?_) fun _ _ z => False.elim z
        subst q9
        obtain ⟨b1, b2⟩ := again I9
        exact ⟨m', hm, i + 1, _, _, _, I9.unpinned, b1, b2, w8⟩
  exact codeAny_compStart_list (loop _ rfl) (T.self _ 0 _ _ _ st1 (loop _ rfl))

theorem pe_comp2 (B : BlkScope2 X scope x x' Nf js) (hc : X.calm = true) (hi : PI X (.Tuple [.Name x px, .Name x' px'] ktg ptg) iter wi)
    (ht : ∀ C s₂ H₂ ex pins, PTs (blk X scope (x :: x' :: Nf) C s₂ H₂ ex pins) ifs tc) (he : ∀ C s₂ H₂ ex pins, PE (blk X scope (x :: x' :: Nf) C s₂ H₂ ex pins) elt te)
    (hs : ∀ v, foldedSetIterable iter X.env v = pure v := by intro _; rfl) : PE X (.ListComp elt [⟨.Tuple [.Name x px, .Name x' px'] ktg ptg, iter, ifs, 0⟩] scope pos) (tComp2 X.K js wi tc te) := by
  intro pins s σ H Q I h
  rw [eval_ListComp]
  refine wpAny_comprehension_free (use := none) rfl hs (closure_of (B.hasCell I.ok)) B.kind B.loc (thn (hi pins s σ H _ I h) fun v s1 h1 => thn h1 fun itv s2 h2 => ?_)
  obtain ⟨it, fp, tn, J, H2, e, I2, T, st2, f2, hW⟩ := h2
  subst e
  refine comp_core2 (QQ := fun acc C => compPost (model X.prog X.w) X.A X.xe none (EP X pins σ Q) acc C) none rfl B hc ht he I2 T st2 f2 hW fun s' H' hI hn _ hq => ?_
  obtain ⟨m, hm⟩ := hn
  exact ⟨m, hm, fun h' hs' => ⟨.ref s2.heap.objs.size, H', hI h' hs', rfl, hq⟩⟩
end
end L2

set_option Elab.async false
set_option linter.all false
set_option maxRecDepth 100000
set_option maxHeartbeats 1000000
namespace L2
open PySem PyProof PyProof.Rows
def Any1 (K : PySem.W.Frag) (H : Hp) (v : V) (t : Value) : Prop := Thg K H v t ∨ ∃ (a C dx : Addr) (fs : List (Str × V)), v = .ref a ∧ H a = some (.ins C dx fs) ∧ InsC K C ∧ t = .ref C
def blkOk2 (fs : Scope) (scope : Scope) (N : List Str) (x x' : Str) (Nf : List Str) (js : List Nat) : Bool :=
  (scope.kind == .function) && scope.names.all (fun y => y.2 != .cell) && scope.names.all (fun y => y.2 != .local || scope.names.lookup y.1 == some .local) && (scope.names.lookup x == some .local) && (scope.names.lookup x' == some .local) &&
    decide (x :: x' :: Nf).Nodup && scope.names.all (fun y => y.2 != .free || fs.names.lookup y.1 == some .cell) && (Nf.length == js.length) &&
    (Nf.zip js).all (fun p => N[p.2]? == some p.1 && scope.names.lookup p.1 == some .free && fs.names.lookup p.1 == some .cell)
theorem blk_mk2 {X : Cx} {scope : Scope} {x x' : Str} (Nf : List Str) (js : List Nat) (h : blkOk2 X.env.scope scope X.N x x' Nf js = true := by kernel_rfl) : BlkScope2 X scope x x' Nf js := by
  unfold blkOk2 at h
  simp only [Bool.and_eq_true, beq_iff_eq, decide_eq_true_eq] at h
  obtain ⟨⟨⟨⟨⟨⟨⟨⟨h1, h2⟩, h3⟩, h4⟩, h4'⟩, h5⟩, h6⟩, h7⟩, h8⟩ := h
  refine ⟨h1, fun y hy => ?_, fun y hy hl => ?_, h4, h4', h5, fun y hy hf => ?_, h7, fun i z hz => ?_⟩
  · have := List.all_eq_true.mp h2 y hy
    simpa using this
  · have := List.all_eq_true.mp h3 y hy
    rw [hl] at this
    simpa using this
  · have := List.all_eq_true.mp h6 y hy
    rw [hf] at this
    show X.env.scope.names.lookup y.1 = some .cell
    simpa using this
  · have hi : i < js.length := by rw [← h7]; exact (List.getElem?_eq_some_iff.mp hz).1
    have hm : (z, js[i]) ∈ Nf.zip js := by
      have e : (Nf.zip js)[i]? = some (z, js[i]) := by
        rw [List.getElem?_zip_eq_some]
        exact ⟨hz, by simp [hi]⟩
      exact List.mem_of_getElem? e
    have q := List.all_eq_true.mp h8 _ hm
    rw [Bool.and_eq_true, Bool.and_eq_true, beq_iff_eq, beq_iff_eq, beq_iff_eq] at q
    exact ⟨js[i], by simp [hi], q.1.1, q.1.2, q.2⟩
section
variable {X : Cx}
theorem Any1.kit {pins : List (Addr × Obj)} {σ : St} {H : Hp} {s : Shared} {v : V} {u t : Value} (I : Inv X pins σ H s) (r : RelV v u) (x : Any1 X.K H v t) : u ≠ .builtin "__main__.__loader__#opaque" ∧ ∃ φ, PySem.W.KitX X.K u t φ ∧ φ s.heap := by
  rcases x with x | ⟨a, C, dx, fs, rfl, ea, c, rfl⟩
  · exact x.kit I r
  · cases (show u = Value.ref a from r)
    obtain ⟨mA, O, _⟩ := ins_get I.hok ea
    obtain ⟨od, J, _⟩ := O.look
    exact ⟨(fun z => nomatch z), _, PySem.W.kitx_own (c.cl.get _) c.cl.hd c.ha c.hn c.tk c.hm, J⟩
theorem call_instA : CallR X (.builtin "isinstance") (fun xs H Q => ∃ v c t b, xs = [v, c] ∧ Any1 X.K H v t ∧
  ((∃ T, c = .ty T ∧ PySem.W.kitOne X.K t (.type T) = some b) ∨ (∃ C, c = .ref C ∧ PySem.W.kitOne X.K t (.ref C) = some b) ∨
    ∃ tp cs, c = .ref tp ∧ H tp = some (.tup cs) ∧ (∀ c ∈ cs, (∃ n, c = .ty n) ∨ ∃ a, c = .ref a) ∧ PySem.W.kitAny X.K t (cs.map vOf) = some b) ∧ Q (.bl b) H) := by
  intro pins s σ H xs us Q I r h
  obtain ⟨v, c, t, b, rfl, x, hc, q⟩ := h
  obtain ⟨u, u', rfl, ru, ru'⟩ := vals2 r
  obtain ⟨hx, φ, Z, p⟩ := x.kit I ru
  have fin : ∀ tk, EP X pins σ Q (.bool b) { s with toks := tk } := fun tk => ⟨.bl b, H, I.tok tk, rfl, q⟩
  rcases hc with ⟨T, rfl, e⟩ | ⟨C, rfl, e⟩ | ⟨tp, cs, rfl, ht, hcs, e⟩
  · cases (show u' = Value.type T from ru')
    exact PySem.W.kia_one Z I.kIn p e hx fin
  · cases (show u' = Value.ref C from ru')
    exact PySem.W.kia_one Z I.kIn p e hx fin
  · cases (show u' = Value.ref tp from ru')
    obtain ⟨_, its, rv, ⟨o, h1, h2, n, h3⟩, _⟩ := (show ObjOk X.prog X.w H s.heap tp (.tup cs) from I.hok tp _ ht)
    rcases o with ⟨oc, od, odt, osl⟩
    cases (show oc = _ from h2)
    cases (show odt = _ from h3)
    rw [← vals_vOf rv hcs] at e
    exact PySem.W.kia_tup Z I.kIn p h1 e hx fin
end
end L2

set_option Elab.async false
set_option linter.all false
set_option maxRecDepth 100000
set_option maxHeartbeats 1000000
namespace L2
open PySem PySem.Spec PyProof.Rows
section
variable {X : Cx} {pins : List (Addr × Obj)} {σ : St} {H : Hp} {s : Shared} {h' : Heap}
theorem Inv.gone {m : Str → Option Value} {v0 : Option Value} {n : Str} {i : Nat} {t' : Nat} (I : Inv X pins σ H s) (hN : X.N.Nodup) (hi : X.N[i]? = some n) (hm : ∀ (j : Nat) (x : Str) (v : V), X.N[j]? = some x → σ[j]? = some (some v) → Vis X.env.scope x → ∃ u, RelV v u ∧ Look X.env s.heap m x u)
    (hn : h'.Ns X.env.locals (fun x => if x = n then v0 else m x)) (hs : Heap.SameBut X.env.locals s.heap h') : Inv X pins (σ.set i none) H { s with heap := h', toks := t' } := by
  have J := I.bare_frame (t' := t') hn hs
  refine ⟨J.ok, J.os, J.bare, J.base, ⟨_, hn, fun j x v e1 e2 e3 => ?_⟩, J.cell, J.free, J.freeC, J.pin, J.hok, by rw [List.length_set]; exact I.len⟩
  by_cases c : j = i
  · subst c
    rw [List.getElem?_set] at e2
    split at e2
    · split at e2 <;> cases e2
    · exact absurd rfl ‹¬ _›
  · rw [List.getElem?_set_ne (Ne.symm c)] at e2
    obtain ⟨u, r, l⟩ := hm j x v e1 e2 e3
    have ne : x ≠ n := fun z => c (nodup_ix hN e1 (z ▸ hi))
    refine ⟨u, r, ?_⟩
    rcases l with ⟨k, q⟩ | ⟨k, a, q1, q2⟩
    · exact .inl ⟨k, by show (if x = n then v0 else m x) = some u; rw [if_neg ne]; exact q⟩
    · refine .inr ⟨k, a, q1, ?_⟩
      obtain ⟨o, ho, hd⟩ := q2
      exact ⟨o, (hs.2 a (I.cne x a q1)).trans ho, hd⟩
def thAsN (K : PySem.W.Frag) (Dc : Addr) (i : Nat) (tb : TS) (rest : TH) : TH := fun C e dx ar b D σ H => ∃ hit, PySem.W.mroIn K C (.ref Dc) = some hit ∧ if hit = true then tb { nx := fun σ' H' => D.nx (σ'.set i none) H', rt := D.rt } (σ.set i (some (.ref e))) H else rest C e dx ar b D σ H
theorem phs_asN {x n : Str} {xp pos : Pos} {b₀ : Stmt} {suite : List Stmt} {rest : List ExceptHandler} {Dc : Addr} {i : Nat} {tb : TS} {tr : TH} (m : ExM X.K Dc) (hg : Gl X x) (hm : X.mg x = some (.ref Dc)) (hN : X.N.Nodup) (hi : X.N[i]? = some n) (hl : X.env.scope.names.lookup n = some .local) (hk : X.env.kindOf n = some .local)
    (hb : ∀ e, PSs (X.held e) (b₀ :: suite) tb) (hr : PHs X rest tr) (hdb : (x == ("__debug__" : Str)) = false := by decide) : PHs X (.ExceptHandler (some (.Name x xp)) (some n) (b₀ :: suite) pos :: rest) (thAsN X.K Dc i tb tr) := by
  intro pins s σ H D C e dx ar b I f h
  obtain ⟨hit, hc, h⟩ := h
  refine wpAny_handleBy_cons (codeAny_handlers_test (ld_glob (X := X.held e) (I.held e) hg hm ?_ hdb)) (by intro z; cases z)
  refine matches_ok I f.1 m hc ?_
  cases hit with
  | false =>
    rw [if_neg Bool.false_ne_true] at h ⊢
    exact hr pins s σ H D C e dx ar b I f h
  | true =>
    rw [if_pos rfl] at h ⊢
    refine codeAny_handlers_suite_as (fly_none I f fun s1 I1 => ?_)
    refine store_ok I1 hN hi (.inl hl) (v := .ref e) rfl (fun s2 I2 => ?_) (.inr hl)
    refine wpAny_mono (hb e pins s2 _ H { nx := fun σ' H' => D.nx (σ'.set i none) H', rt := D.rt } (I2.held e) h) (fun fl s3 q => ?_) fun _ _ z => z.elim
    have hp : (X.env.scope.kind == .class || (X.env.scope.kind == .module && X.env.locals != X.env.globals)) = false := by rw [I.ok.kind]; rfl
    cases fl with
    | ret u =>
      obtain ⟨v, σ', H', I3, rv, q⟩ := q
      obtain ⟨m', hn, _⟩ := I3.loc
      refine wpAny_nameGoes hk hn hp fun h4 m4 hn4 hs4 => ?_
      exact ⟨v, _, H', (I3.unheld I.ok).bare_frame hn4 hs4, rv, q⟩
    | next =>
      obtain ⟨σ', H', I3, q⟩ := q
      obtain ⟨m', hn, hl'⟩ := I3.loc
      refine wpAny_nameGoes_keeps hk hn hp fun h4 v4 hn4 hs4 => ?_
      exact ⟨_, H', (I3.unheld I.ok).gone hN hi hl' hn4 hs4, q⟩
    | brk =>
      obtain ⟨_, _, _, q⟩ := q
      exact q.elim
    | cont =>
      obtain ⟨_, _, _, q⟩ := q
      exact q.elim
end
end L2

set_option Elab.async false
set_option linter.all false
set_option maxRecDepth 100000
set_option maxHeartbeats 0
namespace K11
open PySem L2
def top (i : Nat) : Stmt := PySem.Challenge.pw_nolocktree_k11_leaves_looked_up.main.body.getD i (.Pass ⟨0, 0, 0, 0⟩)
structure Txt (K : PySem.W.Frag) (mg : Str → Option Value) : Prop where
  n_len : mg "len" = none
  n_max : mg "max" = none
  n_min : mg "min" = none
  n_isinstance : mg "isinstance" = none
  n_list : mg "list" = none
  n_tuple : mg "tuple" = none
  n_int : mg "int" = none
  n_bool : mg "bool" = none
  n_enumerate : mg "enumerate" = none
  n_range : mg "range" = none
  n_repr : mg "repr" = none
  n_all : mg "all" = none
  n_set : mg "set" = none
  n_sorted : mg "sorted" = none
  n_dict : mg "dict" = none
  n_zip : mg "zip" = none
  c_lo : ∃ t, mg "LEAST_KEY" = some (.int (-999999999) t)
  c_hi : ∃ t, mg "GREATEST_KEY" = some (.int 999999999 t)
  c_most : ∃ t, mg "MOST_KEYS" = some (.int 6 t)
def OkD (P : Program) (w : World) (K : PySem.W.Frag) (mg : Str → Option Value) (base : Heap) (x : Str) (st : Stmt) (ps : List Str) (k : Nat) (sp : Sp) : Prop :=
  ∃ f fd, Dn K mg x x st ps f fd ∧ FnOk P w K mg base CX0 k f fd ps sp
def Box (H : Hp) (p : Addr) (n : Nat) : Prop := ∃ a b c : Int, H p = some (.lst [.int a, .int b, .int c]) ∧ 0 ≤ a ∧ 0 ≤ b ∧ b < 2147483629 ∧ 0 ≤ c ∧ c ≤ n
theorem Box.lst {H : Hp} {p : Addr} {n : Nat} (x : Box H p n) : ∃ xs, H p = some (.lst xs) := let ⟨_, _, _, h, _⟩ := x; ⟨_, h⟩
theorem Box.mono {H : Hp} {p : Addr} {n m : Nat} (x : Box H p n) (h : n ≤ m) : Box H p m := let ⟨a, b, c, h1, h2, h3, h4, h5, h6⟩ := x; ⟨a, b, c, h1, h2, h3, h4, h5, by omega⟩
theorem Box.upd {H : Hp} {p q : Addr} {n : Nat} {o : HO} (x : Box H p n) (h : H q = none) : Box (upd H q o) p n := by
  obtain ⟨a, b, c, h1, r⟩ := x
  exact ⟨a, b, c, by rw [upd_ne (ne_of_none h1 h)]; exact h1, r⟩
def spTake : Sp := fun vs H Q _ => ∃ (p : Addr) (m : Int) (n : Nat), vs = [.ref p, .int m] ∧ Box H p n ∧ n ≤ 1000000 ∧ 0 < m ∧ m ≤ 1000000000000000000000000000000 ∧
  ∀ (r : Int) (H' : Hp), 0 ≤ r → r < m → Box H' p (n + 1) → KB p H H' → Q (.int r) H'
section
variable {P : Program} {w : World} {K : PySem.W.Frag} {mg : Str → Option Value} {base : Heap}
abbrev s__law_take : Stmt := top 33
theorem sc__law_take : FnScope ["_law_box_here", "_law_many", "_law_digit", "_law_number"] ["_law_box_here", "_law_many"] (defScope s__law_take) := ⟨rfl, rfl, rfl, by decide +kernel, rfl, by decide +kernel, by decide +kernel⟩
theorem log_small {m : Int} (h : 0 < m) (h2 : m ≤ 1000000000000000000000000000000) : m.natAbs.log2 < 9000 := by
  have e : m.natAbs < 2 ^ 110 := by omega
  have := (Nat.log2_lt (by omega)).mpr e
  omega
theorem small_mod {x : Int} : (x % 2147483629).natAbs < 2 ^ 64 := by omega
theorem ok_take (hd : ∃ f fd, Dn K mg "_law_take" "_law_take" s__law_take ["_law_box_here", "_law_many"] f fd) (T : Txt K mg) : OkD P w K mg base "_law_take" s__law_take ["_law_box_here", "_law_many"] 1 spTake := by
  obtain ⟨f, fd, D⟩ := hd
  refine ⟨f, fd, D, D.fn.ok sc__law_take (fun vs H Q E h => ?_) (fun cdv A outer s H vs Q E hr h => ?_)⟩
  · obtain ⟨_, _, _, rfl, _⟩ := h
    rfl
  · obtain ⟨p, m, n, rfl, ⟨a, b, c, hb, ha, hb0, hb1, hc0, hc1⟩, hn, hm, hm2, k⟩ := h
    have sc := sc__law_take
    refine ⟨_, (pss_cons (ps_if (pt_cmpR op_gt (pe_ix ix_list (pv 0) pe_int (fun _ _ => rfl)) pe_int (nomark _))
      (pss_cons (ps_set (i := 2) sc.nd rfl (Or.inl rfl) (pe_op op_mod (pe_ix ix_list (pv 0) pe_int (fun _ _ => rfl)) (pv 1)))
    (pss_cons (ps_asg (pe_op op_fdivL (pe_ix ix_list (pv 0) pe_int (fun _ _ => rfl)) (pv 1)) (pg_sub (pv 0) pe_int set_list))
    (pss_one (ps_ret (pv 2)))))
      pss_nil)
    (pss_cons (ps_asg (pe_op op_add (pe_ix ix_list (pv 0) pe_int (fun _ _ => rfl)) pe_int) (pg_sub (pv 0) pe_int set_list))
    (pss_cons (ps_set (i := 3) sc.nd rfl (Or.inl rfl) (pe_op op_mod (pe_op op_add (pe_op op_pow (pe_op op_add (pe_ix ix_list (pv 0) pe_int (fun _ _ => rfl)) (pe_op op_mul pe_int (pe_ix ix_list (pv 0) pe_int (fun _ _ => rfl)))) pe_int) (pe_op op_mul pe_int (pe_ix ix_list (pv 0) pe_int (fun _ _ => rfl)))) pe_int))
    (pss_one (ps_ret (pe_op op_mod (pe_op op_fdivL (pe_op op_mod (pe_op op_pow (pv 3) pe_int) pe_int) pe_int) (pv 1))))))), ?_⟩
    refine ⟨_, rfl, _, _, _, _, rfl, rfl, SqL.of hb, rfl, _, _, rfl, rfl, _, rfl, ?_⟩
    refine ite2 (fun h0 => ?_) (fun h0 => ?_)
    · refine ⟨_, rfl, _, _, _, _, rfl, rfl, SqL.of hb, rfl, _, rfl, _, _, rfl, rfl, hm, ?_⟩
      refine ⟨_, rfl, _, _, _, _, rfl, rfl, SqL.of hb, rfl, _, rfl, _, _, rfl, rfl, ⟨hm, log_small hm hm2⟩, ?_⟩
      refine ⟨_, rfl, _, _, _, _, rfl, rfl, hb, rfl, _, rfl, ?_⟩
      exact k _ _ (Int.emod_nonneg _ (by omega)) (Int.emod_lt_of_pos _ hm) ⟨a / m, b, c, upd_same, Int.ediv_nonneg ha (by omega), hb0, hb1, hc0, by omega⟩ (KB.refl.updP)
    · refine ⟨_, rfl, _, _, _, _, rfl, rfl, SqL.of hb, rfl, _, _, rfl, rfl, ?_⟩
      refine ⟨_, rfl, _, _, _, _, rfl, rfl, hb, rfl, ?_⟩
      have hb' : upd H p (.lst ([V.int a, V.int b, V.int c].set 2 (V.int (c + 1)))) p = some (.lst [V.int a, V.int b, V.int (c + 1)]) := upd_same
      refine ⟨_, rfl, _, _, _, _, rfl, rfl, SqL.of hb', rfl, _, rfl, _, _, _, _, rfl, rfl, SqL.of hb', rfl, _, _, rfl, rfl, .inl ⟨by decide, by decide⟩, _, _, rfl, rfl, _, _, rfl, rfl, ⟨by decide, by decide, ?_⟩, ?_⟩
      · show (b + 104729 * (c + 1)).natAbs < 2 ^ 64
        omega
      refine ⟨_, rfl, _, _, _, _, rfl, rfl, SqL.of hb', rfl, _, _, rfl, rfl, .inl ⟨by decide, by decide⟩, _, _, rfl, rfl, _, _, rfl, rfl, (by show (0 : Int) < 2147483629; decide), ?_⟩
      refine ⟨_, rfl, _, _, rfl, rfl, ⟨by decide, by decide, small_mod⟩, _, _, rfl, rfl, (by show (0 : Int) < 2147483587; decide), _, _, rfl, rfl, ⟨by decide, by decide +kernel⟩, _, rfl, _, _, rfl, rfl, hm, ?_⟩
      exact k _ _ (Int.emod_nonneg _ (by omega)) (Int.emod_lt_of_pos _ hm) ⟨a, b, c + 1, hb', ha, hb0, hb1, by omega, by omega⟩ (KB.refl.updP)
end
end K11

set_option Elab.async false
set_option linter.all false
set_option maxRecDepth 100000
set_option maxHeartbeats 0
namespace K11
open PySem L2
theorem cp {j : Int} (h0 : 0 ≤ j) (h1 : j ≤ 1000000) : CPow 10 j := ⟨h0, h1, by decide⟩
theorem atI_mem {xs : List V} {r : Int} (h0 : 0 ≤ r) (h1 : r < xs.length) : ∃ v, v ∈ xs ∧ atI xs r = some v := by
  have hj : r.toNat < xs.length := by omega
  refine ⟨xs[r.toNat], List.getElem_mem hj, ?_⟩
  have e : xs[r.toNat]? = some xs[r.toNat] := by simp [hj]
  have := atI_nat e
  rwa [show ((r.toNat : Nat) : Int) = r by omega] at this
theorem atI_ints {ns : List Int} {r : Int} (h0 : 0 ≤ r) (h1 : r < ns.length) : ∃ z, z ∈ ns ∧ atI (ns.map V.int) r = some (.int z) := by
  obtain ⟨v, hv, e⟩ := atI_mem (xs := ns.map V.int) h0 (by simpa using h1)
  obtain ⟨z, hz, rfl⟩ := List.mem_map.mp hv
  exact ⟨z, hz, e⟩
theorem Box.ne {H H1 : Hp} {p q : Addr} {n : Nat} (x : Box H p n) (h : H q = none) : q ≠ p := by
  obtain ⟨xs, e⟩ := x.lst
  exact (ne_of_none e h).symm
section
variable {P : Program} {w : World} {K : PySem.W.Frag} {mg : Str → Option Value} {base : Heap}
abbrev s__law_cell : Stmt := top 31
theorem sc__law_cell : FnScope ["_law_script", "_law_k"] ["_law_script", "_law_k"] (defScope s__law_cell) := ⟨rfl, rfl, rfl, by decide +kernel, rfl, by decide +kernel, by decide +kernel⟩
def spCell (K : PySem.W.Frag) : Sp := fun vs H Q _ => ∃ (a : Addr) (k : Nat) (ns : List Int), vs = [.ref a, .int k] ∧ SqL K H a (ns.map V.int) ∧ ∀ i : Int, Q (.int i) H
theorem ok_cell (hd : ∃ f fd, Dn K mg "_law_cell" "_law_cell" s__law_cell ["_law_script", "_law_k"] f fd) (T : Txt K mg) : OkD P w K mg base "_law_cell" s__law_cell ["_law_script", "_law_k"] 1 (spCell K) := by
  obtain ⟨f, fd, D⟩ := hd
  refine ⟨f, fd, D, D.fn.ok sc__law_cell (fun vs H Q E h => ?_) (fun cdv A outer s H vs Q E hr h => ?_)⟩
  · obtain ⟨_, _, _, rfl, _⟩ := h
    rfl
  · obtain ⟨a, j, ns, rfl, hS, k⟩ := h
    have sc := sc__law_cell
    refine ⟨_, (pss_cons (ps_if (pt_cmpR op_lt (pv 1) (pe_callB call_len_seq rfl T.n_len bt_len (pa_c (pv 0) pa_nil)) (nomark _))
      (pss_one (ps_ret (pe_ix ix_list (pv 0) (pv 1) (fun _ _ => rfl))))
      pss_nil)
    (pss_one (ps_ret (pe_op op_add (pe_op op_mul pe_int (pv 1)) pe_int)))), ?_⟩
    refine ⟨_, rfl, _, rfl, _, _, rfl, .inl hS, _, _, rfl, rfl, _, rfl, ?_⟩
    refine ite2 (fun h0 => ?_) (fun h0 => ?_)
    · have h1 : (j : Int) < ((ns.map V.int).length : Nat) := of_decide_eq_true h0
      obtain ⟨z, _, e⟩ := atI_ints (ns := ns) (r := (j : Int)) (by omega) (by simpa using h1)
      exact ⟨_, rfl, _, rfl, _, _, _, _, rfl, rfl, hS, e, k z⟩
    · exact ⟨_, rfl, _, _, rfl, rfl, .inl ⟨by decide, by decide⟩, _, _, rfl, rfl, k _⟩
abbrev s__law_box : Stmt := top 32
theorem sc__law_box : FnScope ["_law_cell_here"] ["_law_cell_here"] (defScope s__law_box) := ⟨rfl, rfl, rfl, by decide +kernel, rfl, by decide +kernel, by decide +kernel⟩
def spBox : Sp := fun vs H Q _ => ∃ (c : Int), vs = [.int c] ∧ ∀ (p : Addr) (H' : Hp), H p = none → Box H' p 0 → Same H H' → Q (.ref p) H'
theorem ok_box (hd : ∃ f fd, Dn K mg "_law_box" "_law_box" s__law_box ["_law_cell_here"] f fd) (T : Txt K mg) : OkD P w K mg base "_law_box" s__law_box ["_law_cell_here"] 1 spBox := by
  obtain ⟨f, fd, D⟩ := hd
  refine ⟨f, fd, D, D.fn.ok sc__law_box (fun vs H Q E h => ?_) (fun cdv A outer s H vs Q E hr h => ?_)⟩
  · obtain ⟨_, rfl, _⟩ := h
    rfl
  · obtain ⟨c, rfl, k⟩ := h
    have sc := sc__law_box
    refine ⟨_, (pss_one (ps_ret (pe_lst (pa_c (pe_callB (call_max2 rfl) rfl T.n_max bt_max (pa_c pe_int (pa_c (pe_op op_sub (pv 0) (pe_op op_pow pe_int pe_int)) pa_nil))) (pa_c (pe_op op_mod (pv 0) pe_int) (pa_c pe_int pa_nil)))))), ?_⟩
    refine ⟨_, rfl, _, _, rfl, rfl, cp (by decide) (by decide), _, _, rfl, rfl, _, _, rfl, _, rfl, _, _, rfl, rfl, (by show (0 : Int) < 2147483629; decide), (by show 3 ≤ sizeLine; decide), fun p hp => ?_⟩
    refine k p _ hp ⟨_, _, _, upd_same, ?_, Int.emod_nonneg _ (by decide), Int.emod_lt_of_pos _ (by decide), Int.le_refl _, Int.le_refl _⟩ (Same.upd hp)
    generalize c - 10 ^ (18 : Int).toNat = z
    by_cases hz : z > 0
    · rw [if_pos hz]; omega
    · rw [if_neg hz]; omega
end
end K11

set_option Elab.async false
set_option linter.all false
set_option maxRecDepth 100000
set_option maxHeartbeats 1000000
namespace K11
open PySem L2
def isI : V → Bool | .int _ => true | _ => false
def isB : V → Bool | .bl _ => true | _ => false
def isSq (t : Value) : Bool := t == .type "list" || t == .type "tuple"
def whole (v : V) (lo hi : Int) : Bool := match v with | .int i => decide (lo ≤ i) && decide (i ≤ hi) | _ => false
def keyV (v : V) : Bool := whole v (-999999999) 999999999
section
variable {K : PySem.W.Frag} {H : Hp} {v : V} {t : Value}
theorem meta_int : PySem.W.kitMeta "int" = true := by decide +kernel
theorem meta_bool : PySem.W.kitMeta "bool" = true := by decide +kernel
theorem meta_list : PySem.W.kitMeta "list" = true := by decide +kernel
theorem meta_tuple : PySem.W.kitMeta "tuple" = true := by decide +kernel
theorem kit_ref {C : Addr} {n : String} (hm : PySem.W.kitMeta n = true) (h : PySem.W.subIn K (.ref C) (.type n) = some false) : PySem.W.kitOne K (.ref C) (.type n) = some false := by
  unfold PySem.W.kitOne
  rw [if_neg (by intro z; cases (beq_iff_eq.mp z))]
  show (if PySem.W.kitMeta n = true then _ else _) = _
  rw [if_pos hm, h]
theorem inst_int (x : Thg K H v t) : PySem.W.kitOne K t (.type "int") = some (isI v || isB v) := by
  cases x with
  | exc e d x => exact kit_ref meta_int x.ki
  | exn e x => exact kit_ref meta_int x.ki
  | _ => kernel_rfl
theorem inst_bool (x : Thg K H v t) : PySem.W.kitOne K t (.type "bool") = some (isB v) := by
  cases x with
  | exc e d x => exact kit_ref meta_bool x.kb
  | exn e x => exact kit_ref meta_bool x.kb
  | _ => kernel_rfl
theorem inst_seq (x : Thg K H v t) : PySem.W.kitAny K t [.type "list", .type "tuple"] = some (isSq t) := by
  cases x with
  | exc e d x =>
    unfold PySem.W.kitAny
    rw [kit_ref meta_list x.kl]
    unfold PySem.W.kitAny
    rw [kit_ref meta_tuple x.kt]
    rfl
  | exn e x =>
    unfold PySem.W.kitAny
    rw [kit_ref meta_list x.kl]
    unfold PySem.W.kitAny
    rw [kit_ref meta_tuple x.kt]
    rfl
  | _ => kernel_rfl
end
section
variable {P : Program} {w : World} {K : PySem.W.Frag} {mg : Str → Option Value} {base : Heap}
abbrev s_is_number : Stmt := top 10
theorem sc_is_number : FnScope ["thing"] ["thing"] (defScope s_is_number) := ⟨rfl, rfl, rfl, by decide +kernel, rfl, by decide +kernel, by decide +kernel⟩
def spIsN (K : PySem.W.Frag) : Sp := fun vs H Q _ => ∃ (v : V) (t : Value), vs = [v] ∧ Thg K H v t ∧ Q (.bl (isI v)) H
theorem ok_isN (hd : ∃ f fd, Dn K mg "is_number" "is_number" s_is_number ["thing"] f fd) (T : Txt K mg) : OkD P w K mg base "is_number" s_is_number ["thing"] 1 (spIsN K) := by
  obtain ⟨f, fd, D⟩ := hd
  refine ⟨f, fd, D, D.fn.ok sc_is_number (fun vs H Q E h => ?_) (fun cdv A outer s H vs Q E hr h => ?_)⟩
  · obtain ⟨_, _, rfl, _⟩ := h
    rfl
  · obtain ⟨v, t, rfl, x, k⟩ := h
    refine ⟨_, (pss_one (ps_ret (pe_and (pe_callB call_inst rfl T.n_isinstance bt_isinstance (pa_c (pv 0) (pa_c (pe_bltn (v := .ty "int") rfl T.n_int bt_int rfl) pa_nil))) (pe_one (pe_not (pe_callB call_inst rfl T.n_isinstance bt_isinstance (pa_c (pv 0) (pa_c (pe_bltn (v := .ty "bool") rfl T.n_bool bt_bool rfl) pa_nil)))))))), ?_⟩
    refine ⟨_, rfl, v, _, t, _, rfl, x, .inl ⟨"int", rfl, inst_int x⟩, _, rfl, ?_⟩
    cases hv : v with
    | int i =>
      rw [hv] at k x
      exact iteT ⟨_, rfl, _, _, t, _, rfl, x, .inl ⟨"bool", rfl, inst_bool x⟩, _, rfl, k⟩
    | bl b =>
      rw [hv] at k x
      exact iteT ⟨_, rfl, _, _, t, _, rfl, x, .inl ⟨"bool", rfl, inst_bool x⟩, _, rfl, k⟩
    | _ =>
      rw [hv] at k
      exact iteF k
abbrev s_is_whole : Stmt := top 11
theorem sc_is_whole : FnScope ["thing", "low", "high"] ["thing", "low", "high"] (defScope s_is_whole) := ⟨rfl, rfl, rfl, by decide +kernel, rfl, by decide +kernel, by decide +kernel⟩
def spIsW (K : PySem.W.Frag) : Sp := fun vs H Q _ => ∃ (v : V) (t : Value) (lo hi : Int), vs = [v, .int lo, .int hi] ∧ Thg K H v t ∧ Q (.bl (whole v lo hi)) H
theorem ok_isW (hd : ∃ f fd, Dn K mg "is_whole" "is_whole" s_is_whole ["thing", "low", "high"] f fd) (T : Txt K mg) (h1 : OkD P w K mg base "is_number" s_is_number ["thing"] 1 (spIsN K)) :
    OkD P w K mg base "is_whole" s_is_whole ["thing", "low", "high"] 2 (spIsW K) := by
  obtain ⟨f, fd, D⟩ := hd
  obtain ⟨f1, fd1, Dis_number, Gis_number⟩ := h1
  refine ⟨f, fd, D, D.fn.ok sc_is_whole (fun vs H Q E h => ?_) (fun cdv A outer s H vs Q E hr h => ?_)⟩
  · obtain ⟨_, _, _, _, rfl, _⟩ := h
    rfl
  · obtain ⟨v, t, lo, hi, rfl, x, k⟩ := h
    refine ⟨_, (pss_one (ps_ret (pe_and (pe_call Gis_number (hr.mono (by decide)) rfl Dis_number.m Dis_number.fn.kp Dis_number.b .nil pass0 (pa_c (pv 0) pa_nil)) (pe_one (pe_chain op_le op_le (pv 1) (pv 0) (pv 2)))))), ?_⟩
    refine ⟨_, rfl, v, t, rfl, x, _, rfl, ?_⟩
    cases hv : v with
    | int i =>
      rw [hv] at k
      refine iteT ⟨_, rfl, _, rfl, _, _, rfl, rfl, _, rfl, ite2 (fun h1 => ?_) (fun h1 => ?_)⟩
      · refine ⟨_, rfl, _, _, rfl, rfl, ?_⟩
        have h2 : decide (lo ≤ i) = true := h1
        have k' : Q (.bl (decide (lo ≤ i) && decide (i ≤ hi))) H := k
        rw [h2, Bool.true_and] at k'
        exact k'
      · have h2 : decide (lo ≤ i) = false := Bool.eq_false_iff.mpr h1
        have k' : Q (.bl (decide (lo ≤ i) && decide (i ≤ hi))) H := k
        rw [h2, Bool.false_and] at k'
        exact k'
    | _ =>
      rw [hv] at k
      exact iteF k
abbrev s_is_key : Stmt := top 12
theorem sc_is_key : FnScope ["thing"] ["thing"] (defScope s_is_key) := ⟨rfl, rfl, rfl, by decide +kernel, rfl, by decide +kernel, by decide +kernel⟩
def spIsK (K : PySem.W.Frag) : Sp := fun vs H Q _ => ∃ (v : V) (t : Value), vs = [v] ∧ Thg K H v t ∧ Q (.bl (keyV v)) H
theorem ok_isK (hd : ∃ f fd, Dn K mg "is_key" "is_key" s_is_key ["thing"] f fd) (T : Txt K mg) (h1 : OkD P w K mg base "is_whole" s_is_whole ["thing", "low", "high"] 2 (spIsW K)) :
    OkD P w K mg base "is_key" s_is_key ["thing"] 3 (spIsK K) := by
  obtain ⟨f, fd, D⟩ := hd
  obtain ⟨f1, fd1, Dis_whole, Gis_whole⟩ := h1
  obtain ⟨t_LEAST_KEY, c_LEAST_KEY⟩ := T.c_lo
  obtain ⟨t_GREATEST_KEY, c_GREATEST_KEY⟩ := T.c_hi
  refine ⟨f, fd, D, D.fn.ok sc_is_key (fun vs H Q E h => ?_) (fun cdv A outer s H vs Q E hr h => ?_)⟩
  · obtain ⟨_, _, rfl, _⟩ := h
    rfl
  · obtain ⟨v, t, rfl, x, k⟩ := h
    refine ⟨_, (pss_one (ps_ret (pe_call Gis_whole (hr.mono (by decide)) rfl Dis_whole.m Dis_whole.fn.kp Dis_whole.b .nil pass0 (pa_c (pv 0) (pa_c (pe_glob (v := .int (-999999999)) rfl c_LEAST_KEY ⟨t_LEAST_KEY, rfl⟩) (pa_c (pe_glob (v := .int (999999999)) rfl c_GREATEST_KEY ⟨t_GREATEST_KEY, rfl⟩) pa_nil)))))), ?_⟩
    exact ⟨_, rfl, v, t, _, _, rfl, x, k⟩
abbrev s_is_good : Stmt := top 13
theorem sc_is_good : FnScope ["thing"] ["thing"] (defScope s_is_good) := ⟨rfl, rfl, rfl, by decide +kernel, rfl, by decide +kernel, by decide +kernel⟩
theorem ok_isG (hd : ∃ f fd, Dn K mg "is_good" "is_good" s_is_good ["thing"] f fd) (T : Txt K mg) (h1 : OkD P w K mg base "is_whole" s_is_whole ["thing", "low", "high"] 2 (spIsW K)) :
    OkD P w K mg base "is_good" s_is_good ["thing"] 3 (spIsK K) := by
  obtain ⟨f, fd, D⟩ := hd
  obtain ⟨f1, fd1, Dis_whole, Gis_whole⟩ := h1
  obtain ⟨t_LEAST_KEY, c_LEAST_KEY⟩ := T.c_lo
  obtain ⟨t_GREATEST_KEY, c_GREATEST_KEY⟩ := T.c_hi
  refine ⟨f, fd, D, D.fn.ok sc_is_good (fun vs H Q E h => ?_) (fun cdv A outer s H vs Q E hr h => ?_)⟩
  · obtain ⟨_, _, rfl, _⟩ := h
    rfl
  · obtain ⟨v, t, rfl, x, k⟩ := h
    refine ⟨_, (pss_one (ps_ret (pe_call Gis_whole (hr.mono (by decide)) rfl Dis_whole.m Dis_whole.fn.kp Dis_whole.b .nil pass0 (pa_c (pv 0) (pa_c (pe_glob (v := .int (-999999999)) rfl c_LEAST_KEY ⟨t_LEAST_KEY, rfl⟩) (pa_c (pe_glob (v := .int (999999999)) rfl c_GREATEST_KEY ⟨t_GREATEST_KEY, rfl⟩) pa_nil)))))), ?_⟩
    exact ⟨_, rfl, v, t, _, _, rfl, x, k⟩
abbrev s_is_row : Stmt := top 15
theorem sc_is_row : FnScope ["thing"] ["thing"] (defScope s_is_row) := ⟨rfl, rfl, rfl, by decide +kernel, rfl, by decide +kernel, by decide +kernel⟩
def spIsR (K : PySem.W.Frag) : Sp := fun vs H Q _ => ∃ (v : V) (t : Value), vs = [v] ∧ Thg K H v t ∧ ∀ H', Same H H' → Q (.bl (isSq t)) H'
theorem tys2 : ∀ c ∈ ([V.ty "list", V.ty "tuple"] : List V), (∃ n, c = .ty n) ∨ ∃ a, c = .ref a := by
  intro c hc
  simp only [List.mem_cons, List.not_mem_nil, or_false] at hc
  rcases hc with rfl | rfl <;> exact .inl ⟨_, rfl⟩
theorem ok_isR (hd : ∃ f fd, Dn K mg "is_row" "is_row" s_is_row ["thing"] f fd) (T : Txt K mg) : OkD P w K mg base "is_row" s_is_row ["thing"] 1 (spIsR K) := by
  obtain ⟨f, fd, D⟩ := hd
  refine ⟨f, fd, D, D.fn.ok sc_is_row (fun vs H Q E h => ?_) (fun cdv A outer s H vs Q E hr h => ?_)⟩
  · obtain ⟨_, _, rfl, _⟩ := h
    rfl
  · obtain ⟨v, t, rfl, x, k⟩ := h
    refine ⟨_, (pss_one (ps_ret (pe_callB call_inst rfl T.n_isinstance bt_isinstance (pa_c (pv 0) (pa_c (pe_tup (pa_c (pe_bltn (v := .ty "list") rfl T.n_list bt_list rfl) (pa_c (pe_bltn (v := .ty "tuple") rfl T.n_tuple bt_tuple rfl) pa_nil))) pa_nil))))), ?_⟩
    refine ⟨_, rfl, (by show 2 ≤ sizeLine; decide), fun p hp => ?_⟩
    exact ⟨v, _, t, _, rfl, x.keep (Same.upd hp), .inr (.inr ⟨p, _, rfl, upd_same, tys2, inst_seq x⟩), k _ (Same.upd hp)⟩
abbrev s__law_is_key : Stmt := top 47
theorem sc__law_is_key : FnScope ["_law_thing"] ["_law_thing"] (defScope s__law_is_key) := ⟨rfl, rfl, rfl, by decide +kernel, rfl, by decide +kernel, by decide +kernel⟩
def spIsL (K : PySem.W.Frag) : Sp := fun vs H Q _ => ∃ v t, vs = [v] ∧ Thg K H v t ∧ Q (.bl (keyV v)) H
theorem ok_lN (hd : ∃ f fd, Dn K mg "_law_is_key" "_law_is_key" s__law_is_key ["_law_thing"] f fd) (T : Txt K mg) : OkD P w K mg base "_law_is_key" s__law_is_key ["_law_thing"] 1 (spIsL K) := by
  obtain ⟨f, fd, D⟩ := hd
  refine ⟨f, fd, D, D.fn.ok sc__law_is_key (fun vs H Q E h => ?_) (fun cdv A outer s H vs Q E hr h => ?_)⟩
  · obtain ⟨_, _, rfl, _⟩ := h
    rfl
  · obtain ⟨v, t, rfl, x, k⟩ := h
    have e9 : (10 : Int) ^ (9 : Int).toNat = 1000000000 := by decide +kernel
    refine ⟨_, (pss_one (ps_ret (pe_and (pe_callB call_inst rfl T.n_isinstance bt_isinstance (pa_c (pv 0) (pa_c (pe_bltn (v := .ty "int") rfl T.n_int bt_int rfl) pa_nil))) (pe_and (pe_cmpR op_isnotB (pv 0) pe_bl (nomark _)) (pe_and (pe_cmpR op_isnotB (pv 0) pe_bl (nomark _)) (pe_one (pe_chain op_lt op_lt (pe_un un_neg (pe_op op_pow pe_int pe_int)) (pv 0) (pe_op op_pow pe_int pe_int)))))))), ?_⟩
    refine ⟨_, rfl, v, _, t, _, rfl, x, .inl ⟨"int", rfl, inst_int x⟩, _, rfl, ?_⟩
    cases hv : v with
    | int i =>
      rw [hv] at k
      have k' : Q (.bl (decide (-999999999 ≤ i) && decide (i ≤ 999999999))) H := k
      refine iteT ⟨_, rfl, _, rfl, _, rfl, iteT ⟨_, rfl, _, rfl, _, rfl, iteT ⟨_, _, rfl, rfl, cp (by decide) (by decide), _, rfl, _, rfl, _, _, rfl, rfl, _, rfl, ite2 (fun h1 => ?_) (fun h1 => ?_)⟩⟩⟩
      · have h2 : -(10 : Int) ^ (9 : Int).toNat < i := of_decide_eq_true h1
        rw [e9] at h2
        refine ⟨_, _, rfl, rfl, cp (by decide) (by decide), _, _, rfl, rfl, ?_⟩
        show Q (.bl (decide (i < (10 : Int) ^ (9 : Int).toNat))) H
        rw [decide_eq_true (show -999999999 ≤ i by omega), Bool.true_and] at k'
        rw [e9, show decide (i < 1000000000) = decide (i ≤ 999999999) from decide_eq_decide.mpr (by omega)]
        exact k'
      · have h2 : ¬ -(10 : Int) ^ (9 : Int).toNat < i := fun z => h1 (decide_eq_true z)
        rw [e9] at h2
        rw [decide_eq_false (show ¬ -999999999 ≤ i by omega), Bool.false_and] at k'
        exact k'
    | bl b =>
      rw [hv] at k
      cases b with
      | true => exact iteT ⟨_, rfl, _, rfl, _, rfl, iteF k⟩
      | false => exact iteT ⟨_, rfl, _, rfl, _, rfl, iteT ⟨_, rfl, _, rfl, _, rfl, iteF k⟩⟩
    | _ =>
      rw [hv] at k
      exact iteF k
end
end K11

set_option Elab.async false
set_option linter.all false
set_option maxRecDepth 100000
set_option maxHeartbeats 2000000
namespace K11
open PySem L2
def okAt (xs : List V) (j : Nat) : Prop := ∃ i : Int, xs[j]? = some (.int i) ∧ -999999999 ≤ i ∧ i ≤ 999999999 ∧ (0 < j → ∃ i' : Int, xs[j - 1]? = some (.int i') ∧ i' < i)
def Rises (xs : List V) : Prop := ∀ j, j < xs.length → okAt xs j
open Classical in
noncomputable def rises (xs : List V) : Bool := decide (Rises xs)
open Classical in
theorem rises_t {xs : List V} (h : Rises xs) : rises xs = true := by unfold rises; exact decide_eq_true h
open Classical in
theorem rises_f {xs : List V} (h : ¬ Rises xs) : rises xs = false := by unfold rises; exact decide_eq_false h
theorem keyV_int {v : V} (h : keyV v = true) : ∃ i : Int, v = .int i ∧ -999999999 ≤ i ∧ i ≤ 999999999 := by
  cases v with
  | int i =>
    have h' : (decide (-999999999 ≤ i) && decide (i ≤ 999999999)) = true := h
    rw [Bool.and_eq_true] at h'
    exact ⟨i, rfl, of_decide_eq_true h'.1, of_decide_eq_true h'.2⟩
  | _ => exact absurd (show false = true from h) Bool.false_ne_true
theorem keyV_of {i : Int} (h1 : -999999999 ≤ i) (h2 : i ≤ 999999999) : keyV (.int i) = true := by
  show (decide (-999999999 ≤ i) && decide (i ≤ 999999999)) = true
  rw [decide_eq_true h1, decide_eq_true h2]
  rfl
def Things (K : PySem.W.Frag) (H : Hp) (xs : List V) : Prop := ∀ x ∈ xs, ∃ t, Thg K H x t
theorem Things.same {K : PySem.W.Frag} {H H' : Hp} {xs : List V} (h : Things K H xs) (s : Same H H') : Things K H' xs := fun x hx => let ⟨t, q⟩ := h x hx; ⟨t, q.keep s⟩
def RowAt (tp : Bool) (H : Hp) (a : Addr) (xs : List V) : Prop := H a = some (if tp then .tup xs else .lst xs)
theorem RowAt.sq {K : PySem.W.Frag} {tp : Bool} {H : Hp} {a : Addr} {xs : List V} (h : RowAt tp H a xs) : SqB K tp H a xs := by
  cases tp with
  | true => exact SqT.of h
  | false => exact SqL.of h
def spRise (K : PySem.W.Frag) : Sp := fun vs H Q _ => ∃ (v : V) (t : Value) (tp : Bool) (a : Addr) (xs : List V), vs = [v] ∧ Thg K H v t ∧ (isSq t = true → v = .ref a ∧ RowAt tp H a xs ∧ Things K H xs ∧ xs.length ≤ 2000) ∧
  ∀ H', Same H H' → Q (.bl (isSq t && rises xs)) H'
theorem rise_cases {K : PySem.W.Frag} {vs : List V} {H : Hp} {Q : VK} {E : XK} (h : spRise K vs H Q E) : ∃ (v : V) (t : Value) (tp : Bool), vs = [v] ∧ Thg K H v t ∧
    ((isSq t = false ∧ ∀ H', Same H H' → Q (.bl false) H') ∨ ∃ (a : Addr) (xs : List V), v = .ref a ∧ RowAt tp H a xs ∧ Things K H xs ∧ xs.length ≤ 2000 ∧ isSq t = true ∧ ∀ H', Same H H' → Q (.bl (rises xs)) H') := by
  obtain ⟨v, t, tp, a, xs, e, x, hr, k⟩ := h
  refine ⟨v, t, tp, e, x, ?_⟩
  cases hs : isSq t with
  | false => exact .inl ⟨rfl, fun H' S => by have := k H' S; rw [hs, Bool.false_and] at this; exact this⟩
  | true =>
    obtain ⟨e1, h1, h2, h3⟩ := hr hs
    exact .inr ⟨a, xs, e1, h1, h2, h3, rfl, fun H' S => by have := k H' S; rw [hs, Bool.true_and] at this; exact this⟩
section
variable {P : Program} {w : World} {K : PySem.W.Frag} {mg : Str → Option Value} {base : Heap}
abbrev s_is_rising : Stmt := top 16
theorem sc_is_rising : FnScope ["thing", "at", "key"] ["thing"] (defScope s_is_rising) := ⟨rfl, rfl, rfl, by decide +kernel, rfl, by decide +kernel, by decide +kernel⟩
theorem ok_rise (hd : ∃ f fd, Dn K mg "is_rising" "is_rising" s_is_rising ["thing"] f fd) (T : Txt K mg) (h1 : OkD P w K mg base "is_row" s_is_row ["thing"] 1 (spIsR K)) (h2 : OkD P w K mg base "is_key" s_is_key ["thing"] 3 (spIsK K)) :
    OkD P w K mg base "is_rising" s_is_rising ["thing"] 4 (spRise K) := by
  obtain ⟨f, fd, D⟩ := hd
  obtain ⟨f1, fd1, Dis_row, Gis_row⟩ := h1
  obtain ⟨f2, fd2, Dis_key, Gis_key⟩ := h2
  refine ⟨f, fd, D, D.fn.ok sc_is_rising (fun vs H Q E h => ?_) (fun cdv A outer s H vs Q E hr h => ?_)⟩
  · obtain ⟨_, _, _, _, _, rfl, _⟩ := h
    rfl
  · obtain ⟨v, t, tp, rfl, x, h⟩ := rise_cases h
    have sc := sc_is_rising
    refine ⟨_, (pss_cons (ps_if (pt_not (pt_val (pe_call Gis_row (hr.mono (by decide)) rfl Dis_row.m Dis_row.fn.kp Dis_row.b .nil pass0 (pa_c (pv 0) pa_nil))))
      (pss_one (ps_ret pe_bl))
      pss_nil)
    (pss_cons (ps_for PassesOwn.never rfl (pi_enum tp rfl T.n_enumerate bt_enumerate (pa_c (pv 0) pa_nil)) (pg_tup rfl (pgs_cons (pg_name (i := 1) sc.nd rfl (Or.inl rfl)) (pgs_cons (pg_name (i := 2) sc.nd rfl (Or.inl rfl)) pgs_nil)))
      (pss_cons (ps_if (pt_not (pt_val (pe_call Gis_key (hr.mono (by decide)) rfl Dis_key.m Dis_key.fn.kp Dis_key.b .nil pass0 (pa_c (pv 2) pa_nil))))
      (pss_one (ps_ret pe_bl))
      pss_nil)
    (pss_one (ps_if (PW.pt (pw_and (pt_cmpR op_gt (pv 1) pe_int (nomark _)) (pw_and1 (pt_cmpR op_le (pv 2) (pe_ix ix_seq (pv 0) (pe_op op_sub (pv 1) pe_int) (fun _ _ => rfl)) (nomark _)))))
      (pss_one (ps_ret pe_bl))
      pss_nil))))
    (pss_one (ps_ret pe_bl)))), ?_⟩
    refine ⟨_, rfl, v, t, rfl, x, fun H1 S1 => ⟨_, rfl, ?_⟩⟩
    rcases h with ⟨ht, k⟩ | ⟨a, xs, rfl, hR, hT, hz, ht, k⟩
    · rw [ht]
      exact iteT (k H1 S1)
    · rw [ht]
      refine iteF ?_
      have hR1 : ∀ {H2 : Hp}, Same H H2 → RowAt tp H2 a xs := fun S => S _ _ hR
      refine ⟨_, rfl, a, rfl, ⟨xs, (hR1 S1).sq⟩, for_enum (fun i σ H2 => Same H H2 ∧ (∃ o1 o2, σ = [some (.ref a), o1, o2]) ∧ ∀ j, j < i → okAt xs j) ⟨S1, ⟨none, none, rfl⟩, fun j hj => absurd hj (Nat.not_lt_zero _)⟩ (fun i σ H2 _ ⟨S2, _⟩ => (hR1 S2).sq) ?_ ?_⟩
      · rintro i y t0 σ H2 hi ⟨S2, ⟨o1, o2, rfl⟩, ok⟩ ht0
        have S3 : Same H (upd H2 t0 (.tup [.int i, y])) := S2.trans (Same.upd ht0)
        have hil : i < xs.length := (List.getElem?_eq_some_iff.mp hi).1
        obtain ⟨ty, hy⟩ := hT y (List.mem_of_getElem? hi)
        refine ⟨_, _, rfl, SqT.of upd_same, rfl, _, _, rfl, _, _, rfl, rfl, ?_⟩
        refine ⟨_, rfl, y, ty, rfl, hy.keep S3, _, rfl, ?_⟩
        cases hk : keyV y with
        | false =>
          refine iteT ?_
          have e : rises xs = false := rises_f fun hr => by
            obtain ⟨z, hz1, hz2, hz3, _⟩ := hr i hil
            rw [hi] at hz1
            cases hz1
            rw [keyV_of hz2 hz3] at hk
            cases hk
          have := k _ S3
          rw [e] at this
          exact this
        | true =>
          obtain ⟨z, rfl, hz1, hz2⟩ := keyV_int hk
          refine iteF ?_
          refine ⟨_, rfl, _, _, rfl, rfl, _, rfl, ite2 (fun hp => ?_) (fun hp => ?_)⟩
          · have hp' : (0 : Int) < (i : Int) := of_decide_eq_true hp
            have hi0 : 0 < i := by omega
            obtain ⟨z', q1, q2, q3, _⟩ := ok (i - 1) (by omega)
            have eix : atI xs ((i : Int) - 1) = some (.int z') := by
              have := atI_nat q1
              rwa [show ((i - 1 : Nat) : Int) = (i : Int) - 1 by omega] at this
            have ix : rIx K (.ref a) (.int ((i : Int) - 1)) (upd H2 t0 (.tup [.int i, .int z])) = fun Q' => rIx K (.ref a) (.int ((i : Int) - 1)) (upd H2 t0 (.tup [.int i, .int z])) Q' := rfl
            have ixk : ∀ Q' : VK, Q' (.int z') (upd H2 t0 (.tup [.int i, .int z])) → rIx K (.ref a) (.int ((i : Int) - 1)) (upd H2 t0 (.tup [.int i, .int z])) Q' := fun Q' q => by
              cases tp with
              | true => exact .inr (.inl ⟨_, _, _, _, rfl, rfl, SqT.of (hR1 S3), eix, q⟩)
              | false => exact .inl ⟨_, _, _, _, rfl, rfl, SqL.of (hR1 S3), eix, q⟩
            refine ⟨_, rfl, _, rfl, _, rfl, _, _, rfl, rfl, ixk _ ⟨_, _, rfl, rfl, _, rfl, ite2 (fun hc => ?_) (fun hc => ?_)⟩⟩
            · have hc' : z ≤ z' := of_decide_eq_true hc
              have e : rises xs = false := rises_f fun hr => by
                obtain ⟨u, hu1, _, _, hu4⟩ := hr i hil
                rw [hi] at hu1
                cases hu1
                obtain ⟨u', hu5, hu6⟩ := hu4 hi0
                rw [q1] at hu5
                cases hu5
                omega
              have := k _ S3
              rw [e] at this
              exact this
            · have hc' : ¬ z ≤ z' := fun q => hc (decide_eq_true q)
              refine ⟨S3, ⟨_, _, rfl⟩, fun j hj => ?_⟩
              by_cases hji : j < i
              · exact ok j hji
              · have ej : j = i := by omega
                subst ej
                exact ⟨z, hi, hz1, hz2, fun _ => ⟨z', q1, by omega⟩⟩
          · have hp' : ¬ (0 : Int) < (i : Int) := fun q => hp (decide_eq_true q)
            have hi0 : i = 0 := by omega
            refine iteF ?_
            refine ⟨S3, ⟨_, _, rfl⟩, fun j hj => ?_⟩
            have ej : j = i := by omega
            subst ej
            exact ⟨z, hi, hz1, hz2, fun q => by omega⟩
      · rintro σ H2 ⟨S2, ⟨o1, o2, rfl⟩, ok⟩
        have e : rises xs = true := rises_t ok
        have := k H2 S2
        rw [e] at this
        exact this
end
end K11

set_option Elab.async false
set_option linter.all false
set_option maxRecDepth 100000
set_option maxHeartbeats 2000000
namespace K11
open PySem L2
def rowD : PyData → Option (List PyData)
  | .list ds => some ds
  | .tuple ds => some ds
  | _ => none
def keyD : PyData → Bool
  | .int i => decide (-999999999 ≤ i) && decide (i ≤ 999999999)
  | _ => false
def placeD : PyData → Bool
  | .int i => decide (0 ≤ i)
  | _ => false
def okAtD (ds : List PyData) (j : Nat) : Prop := ∃ i : Int, ds[j]? = some (.int i) ∧ -999999999 ≤ i ∧ i ≤ 999999999 ∧ (0 < j → ∃ i' : Int, ds[j - 1]? = some (.int i') ∧ i' < i)
def RisesD (ds : List PyData) : Prop := ∀ j, j < ds.length → okAtD ds j
def PageKeys (d : PyData) : Prop := ∃ ds, rowD d = some ds ∧ RisesD ds ∧ ds.length ≤ 6
def PageGoods (d : PyData) (n : Int) : Prop := ∃ ds, rowD d = some ds ∧ (ds.length : Int) = n ∧ ∀ x ∈ ds, keyD x = true
def PagePlaces (d : PyData) (n : Int) : Prop := ∃ ns : List Int, rowD d = some (ns.map PyData.int) ∧ (ns.length : Int) = n ∧ (∀ i ∈ ns, 0 ≤ i) ∧ ns.Nodup
open Classical in
noncomputable def yes (p : Prop) : Bool := decide p
open Classical in
theorem yes_t {p : Prop} (h : p) : yes p = true := by unfold yes; exact decide_eq_true h
open Classical in
theorem yes_f {p : Prop} (h : ¬ p) : yes p = false := by unfold yes; exact decide_eq_false h
section
variable {N : Addr → Prop} {H : Hp} {v : V} {d : PyData}
theorem dv_row (x : DV N H v d) : (∃ (tp : Bool) (a : Addr) (xs : List V) (ds : List PyData), v = .ref a ∧ RowAt tp H a xs ∧ DVs N H xs ds ∧ rowD d = some ds ∧ isSq (tyD d) = true ∧ ¬ N a) ∨ (isSq (tyD d) = false ∧ rowD d = none) := by
  cases x with
  | lst na e r => exact .inl ⟨false, _, _, _, rfl, e, r, rfl, rfl, na⟩
  | tup na e r => exact .inl ⟨true, _, _, _, rfl, e, r, rfl, rfl, na⟩
  | _ => exact .inr ⟨rfl, rfl⟩
theorem keyV_D (x : DV N H v d) : keyV v = keyD d := by cases x <;> rfl
theorem int_D (x : DV N H v d) {i : Int} : v = .int i ↔ d = .int i := by
  cases x with
  | int j => exact ⟨fun h => by cases h; rfl, fun h => by cases h; rfl⟩
  | _ => exact ⟨(fun h => nomatch h), fun h => nomatch h⟩
theorem DVs.at_ {N : Addr → Prop} {H : Hp} : ∀ {xs : List V} {ds : List PyData} (j : Nat), DVs N H xs ds → (xs[j]? = none ∧ ds[j]? = none) ∨ ∃ x d, xs[j]? = some x ∧ ds[j]? = some d ∧ DV N H x d
  | _, _, _, .nil => .inl ⟨rfl, rfl⟩
  | _, _, 0, .cons r t => .inr ⟨_, _, rfl, rfl, r⟩
  | _, _, j + 1, .cons r t => by
    rcases DVs.at_ j t with ⟨a, b⟩ | ⟨x, d, a, b, c⟩
    · exact .inl ⟨by simpa using a, by simpa using b⟩
    · exact .inr ⟨x, d, by simpa using a, by simpa using b, c⟩
theorem at_int {xs : List V} {ds : List PyData} (x : DVs N H xs ds) {j : Nat} {i : Int} : xs[j]? = some (.int i) ↔ ds[j]? = some (.int i) := by
  rcases DVs.at_ j x with ⟨a, b⟩ | ⟨y, e, a, b, c⟩
  · rw [a, b]; exact ⟨(fun h => nomatch h), fun h => nomatch h⟩
  · rw [a, b, Option.some.injEq, Option.some.injEq]
    exact int_D c
theorem rises_D {xs : List V} {ds : List PyData} (x : DVs N H xs ds) : Rises xs ↔ RisesD ds := by
  have l := x.length
  constructor
  · intro h j hj
    obtain ⟨i, a, b, c, e⟩ := h j (by omega)
    exact ⟨i, (at_int x).mp a, b, c, fun z => let ⟨i', q, r⟩ := e z; ⟨i', (at_int x).mp q, r⟩⟩
  · intro h j hj
    obtain ⟨i, a, b, c, e⟩ := h j (by omega)
    exact ⟨i, (at_int x).mpr a, b, c, fun z => let ⟨i', q, r⟩ := e z; ⟨i', (at_int x).mpr q, r⟩⟩
end
section
variable {P : Program} {w : World} {K : PySem.W.Frag} {mg : Str → Option Value} {base : Heap}
def Short (d : PyData) : Prop := ∀ ds, rowD d = some ds → ds.length ≤ 100
abbrev s_are_page_keys : Stmt := top 23
theorem sc_are_page_keys : FnScope ["thing"] ["thing"] (defScope s_are_page_keys) := ⟨rfl, rfl, rfl, by decide +kernel, rfl, by decide +kernel, by decide +kernel⟩
def spAPK : Sp := fun vs H Q _ => ∃ (N : Addr → Prop) (v : V) (d : PyData), vs = [v] ∧ DV N H v d ∧ Short d ∧ ∀ H', Same H H' → Q (.bl (yes (PageKeys d))) H'
theorem ok_APK (hd : ∃ f fd, Dn K mg "are_page_keys" "are_page_keys" s_are_page_keys ["thing"] f fd) (T : Txt K mg) (h1 : OkD P w K mg base "is_rising" s_is_rising ["thing"] 4 (spRise K)) :
    OkD P w K mg base "are_page_keys" s_are_page_keys ["thing"] 5 spAPK := by
  obtain ⟨f, fd, D⟩ := hd
  obtain ⟨f1, fd1, Dis_rising, Gis_rising⟩ := h1
  obtain ⟨t_MOST_KEYS, c_MOST_KEYS⟩ := T.c_most
  refine ⟨f, fd, D, D.fn.ok sc_are_page_keys (fun vs H Q E h => ?_) (fun cdv A outer s H vs Q E hr h => ?_)⟩
  · obtain ⟨_, _, _, rfl, _⟩ := h
    rfl
  · obtain ⟨N, v, d, rfl, x, hz, k⟩ := h
    refine ⟨_, (pss_one (ps_ret (pe_and (pe_call Gis_rising (hr.mono (by decide)) rfl Dis_rising.m Dis_rising.fn.kp Dis_rising.b .nil pass0 (pa_c (pv 0) pa_nil)) (pe_one (pe_cmpR op_le (pe_callB call_len_seq rfl T.n_len bt_len (pa_c (pv 0) pa_nil)) (pe_glob (v := .int (6)) rfl c_MOST_KEYS ⟨t_MOST_KEYS, rfl⟩) (nomark _)))))), ?_⟩
    rcases dv_row x with ⟨tp, a, xs, ds, rfl, ra, rx, rd, sq, na⟩ | ⟨sq, rd⟩
    · have l := rx.length
      have hz' := hz ds rd
      refine ⟨_, rfl, .ref a, _, tp, a, xs, rfl, x.thg, (fun _ => ⟨rfl, ra, rx.things, by omega⟩), fun H1 S1 => ⟨_, rfl, ?_⟩⟩
      rw [sq, Bool.true_and]
      by_cases hr1 : Rises xs
      · rw [rises_t hr1]
        have ra1 : RowAt tp H1 a xs := S1 _ _ ra
        refine iteT ⟨_, rfl, a, xs, rfl, (by cases tp; exact .inl (SqL.of ra1); exact .inr (SqT.of ra1)), _, _, rfl, rfl, ?_⟩
        have e : decide ((xs.length : Int) ≤ 6) = yes (PageKeys d) := by
          by_cases c : xs.length ≤ 6
          · rw [decide_eq_true (by omega), yes_t ⟨ds, rd, (rises_D rx).mp hr1, by omega⟩]
          · rw [decide_eq_false (by omega), yes_f]
            rintro ⟨ds', a', _, c'⟩
            rw [rd] at a'
            cases a'
            omega
        show Q (.bl (decide ((xs.length : Int) ≤ 6))) H1
        rw [e]
        exact k H1 S1
      · rw [rises_f hr1]
        refine iteF ?_
        have := k H1 S1
        rw [yes_f (by
          rintro ⟨ds', a', b', _⟩
          rw [rd] at a'
          cases a'
          exact hr1 ((rises_D rx).mpr b'))] at this
        exact this
    · refine ⟨_, rfl, v, _, true, 0, [], rfl, x.thg, (fun h => by rw [sq] at h; cases h), fun H1 S1 => ⟨_, rfl, ?_⟩⟩
      rw [sq, Bool.false_and]
      refine iteF ?_
      have := k H1 S1
      rw [yes_f (by rintro ⟨ds', a', _⟩; rw [rd] at a'; cases a')] at this
      exact this
abbrev s_is_place : Stmt := top 14
theorem sc_is_place : FnScope ["thing"] ["thing"] (defScope s_is_place) := ⟨rfl, rfl, rfl, by decide +kernel, rfl, by decide +kernel, by decide +kernel⟩
def placeV : V → Bool | .int i => decide (0 ≤ i) | _ => false
theorem placeV_D {N : Addr → Prop} {H : Hp} {v : V} {d : PyData} (x : DV N H v d) : placeV v = placeD d := by cases x <;> rfl
def spIsP (K : PySem.W.Frag) : Sp := fun vs H Q _ => ∃ (v : V) (t : Value), vs = [v] ∧ Thg K H v t ∧ Q (.bl (placeV v)) H
theorem ok_isP (hd : ∃ f fd, Dn K mg "is_place" "is_place" s_is_place ["thing"] f fd) (T : Txt K mg) (h1 : OkD P w K mg base "is_number" s_is_number ["thing"] 1 (spIsN K)) :
    OkD P w K mg base "is_place" s_is_place ["thing"] 2 (spIsP K) := by
  obtain ⟨f, fd, D⟩ := hd
  obtain ⟨f1, fd1, Dis_number, Gis_number⟩ := h1
  refine ⟨f, fd, D, D.fn.ok sc_is_place (fun vs H Q E h => ?_) (fun cdv A outer s H vs Q E hr h => ?_)⟩
  · obtain ⟨_, _, rfl, _⟩ := h
    rfl
  · obtain ⟨v, t, rfl, x, k⟩ := h
    refine ⟨_, (pss_one (ps_ret (pe_and (pe_call Gis_number (hr.mono (by decide)) rfl Dis_number.m Dis_number.fn.kp Dis_number.b .nil pass0 (pa_c (pv 0) pa_nil)) (pe_one (pe_cmpR op_ge (pv 0) pe_int (nomark _)))))), ?_⟩
    refine ⟨_, rfl, v, t, rfl, x, _, rfl, ?_⟩
    cases hv : v with
    | int i =>
      rw [hv] at k
      exact iteT ⟨_, rfl, _, _, rfl, rfl, k⟩
    | _ =>
      rw [hv] at k
      exact iteF k
end
end K11

set_option Elab.async false
set_option linter.all false
set_option maxRecDepth 100000
set_option maxHeartbeats 2000000
namespace K11
open PySem L2
theorem itb_go {K : PySem.W.Frag} {tp : Bool} {H : Hp} {a : Addr} {xs : List V} {i : Nat} {x : V} (h : RowAt tp H a xs) (e : xs[i]? = some x) : (ItB K tp a).go i H := by
  cases tp with
  | true => exact ⟨xs, x, SqT.of h, e⟩
  | false => exact ⟨xs, x, SqL.of h, e⟩
theorem itb_yld {K : PySem.W.Frag} {tp : Bool} {H H' : Hp} {a : Addr} {xs : List V} {i : Nat} {v : V} (h : RowAt tp H a xs) (y : (ItB K tp a).yld i H v H') : H' = H ∧ xs[i]? = some v := by
  cases tp with
  | true => exact ⟨y.1, y.2 xs (SqT.of h)⟩
  | false => exact ⟨y.1, y.2 xs (SqL.of h)⟩
theorem itb_stop {K : PySem.W.Frag} {tp : Bool} {H : Hp} {a : Addr} {xs : List V} {i : Nat} (h : RowAt tp H a xs) (e : xs.length ≤ i) : (ItB K tp a).stop i H := by
  cases tp with
  | true => exact ⟨xs, SqT.of h, e⟩
  | false => exact ⟨xs, SqL.of h, e⟩
theorem row_len {K : PySem.W.Frag} {tp : Bool} {H : Hp} {a : Addr} {xs : List V} (h : RowAt tp H a xs) : SqL K H a xs ∨ SqT K H a xs := by
  cases tp with
  | true => exact .inr (SqT.of h)
  | false => exact .inl (SqL.of h)
theorem sameD {H1 H2 : Hp} {D : Addr} {o : HO} (s : Same H1 H2) (d : H1 D = none) : Same H1 (upd H2 D o) := fun b u q => by rw [upd_ne (ne_of_none q d)]; exact s b u q
theorem iteE {b c : Bool} {A B : Prop} (e : b = c) (h : if c = true then A else B) : if b = true then A else B := by subst e; exact h
theorem big1000 : (2001 : Nat) ≤ sizeLine := by decide
theorem comp_pure {J : It} {js : List Nat} {tc : TT} {te : TE} {σ : St} {H1 : Hp} {Q : VK} (xs : List V) (p : V → Bool) (g : V → V)
    (hJ : ∀ i H2, Same H1 H2 → (i < xs.length → J.go i H2) ∧ (∀ v H3, J.yld i H2 v H3 → i < xs.length → H3 = H2 ∧ xs[i]? = some v) ∧ (xs.length ≤ i → J.stop i H2))
    (hc : ∀ x ∈ xs, ∀ H2 (R : Bool → Hp → Prop), Same H1 H2 → (∀ H3, Same H2 H3 → R (p x) H3) → tc (blkSt js σ (some x)) H2 R)
    (he : ∀ x ∈ xs, p x = true → ∀ H2 (R : VK), Same H1 H2 → (∀ H3, Same H2 H3 → R (g x) H3) → te (blkSt js σ (some x)) H2 R)
    (hz : xs.length ≤ 2000) (q : ∀ d H2, H1 d = none → Same H1 H2 → H2 d = some (.lst ((xs.filter p).map g)) → Q (.ref d) H2) (D : Addr) (hD : H1 D = none) :
    ∃ W : Nat → Nat → Hp → Prop, (∃ m, W 0 m (upd H1 D (.lst []))) ∧ ∀ i m H2, W i m H2 →
      (J.stop i H2 ∧ Q (.ref D) H2) ∨ (J.go i H2 ∧ ∀ v H3, J.yld i H2 v H3 → tc (blkSt js σ (some v)) H3 fun b H4 =>
        if b = true then te (blkSt js σ (some v)) H4 fun y H5 => ∃ ys, H5 D = some (.lst ys) ∧ ys.length < sizeLine ∧ ∃ m', m' < m ∧ W (i + 1) m' (upd H5 D (.lst (ys ++ [y])))
        else ∃ m', m' < m ∧ W (i + 1) m' H4) := by
  refine ⟨fun i m H2 => i + m = xs.length ∧ Same H1 H2 ∧ H2 D = some (.lst (((xs.take i).filter p).map g)), ⟨xs.length, by omega, sameD (Same.refl _) hD, by simp [upd_same]⟩, ?_⟩
  rintro i m H2 ⟨hm, S2, e2⟩
  by_cases hi : i < xs.length
  · obtain ⟨j1, j2, j3⟩ := hJ i H2 S2
    refine .inr ⟨j1 hi, fun v H3 yl => ?_⟩
    obtain ⟨rfl, ev⟩ := j2 v H3 yl hi
    have hv : v ∈ xs := List.mem_of_getElem? ev
    have tk : xs.take (i + 1) = xs.take i ++ [v] := by
      rw [List.take_add_one, ev]
      rfl
    have len : (((xs.take i).filter p).map g).length ≤ 2000 := by
      rw [List.length_map]
      exact Nat.le_trans (List.length_filter_le _ _) (by rw [List.length_take]; omega)
    refine hc v hv H3 _ S2 fun H4 S4 => ?_
    cases hp : p v with
    | false => exact iteF ⟨m - 1, by omega, by omega, S2.trans S4, by rw [tk, List.filter_append]; simp [hp, S4 _ _ e2]⟩
    | true =>
      refine iteT (he v hv hp H4 _ (S2.trans S4) fun H5 S5 => ⟨_, S5 _ _ (S4 _ _ e2), by have := big1000; omega, m - 1, by omega, by omega, sameD ((S2.trans S4).trans S5) hD, ?_⟩)
      rw [upd_same, tk, List.filter_append]
      simp [hp]
  · refine .inl ⟨(hJ i H2 S2).2.2 (by omega), q D H2 hD S2 ?_⟩
    rw [e2, List.take_of_length_le (by omega)]
theorem tcb1 {r : List V → Hp → VK → Prop} {ta : TE} {σ : St} {H : Hp} {Q : VK} (h : ta σ H fun x H1 => r [x] H1 Q) : tCB r (tCons ta tNil) σ H Q := h
theorem tand1 {ta tb : TE} {σ : St} {H : Hp} {Q : VK} (h : ta σ H fun x H1 => ∃ c, x = .bl c ∧ if c = true then tb σ H1 Q else Q (.bl false) H1) : tAndV ta tb σ H Q := h
theorem tret1 {te : TE} {D : Ends} {σ : St} {H : Hp} (h : te σ H D.rt) : tRet te D σ H := h
theorem tasg1 {te : TE} {g : TG} {D : Ends} {σ : St} {H : Hp} (h : te σ H fun x H1 => g x σ H1 D.nx) : tAsg te g D σ H := h
theorem comp_f {J : It} {js : List Nat} {wi : TI} {tc : TT} {te : TE} {σ : St} {H H1 : Hp} {Q : VK} (xs : List V) (p : V → Bool) (g : V → V) (hw : ∀ R : It → Hp → Prop, R J H1 → wi σ H R)
    (hJ : ∀ i H2, Same H1 H2 → (i < xs.length → J.go i H2) ∧ (∀ v H3, J.yld i H2 v H3 → i < xs.length → H3 = H2 ∧ xs[i]? = some v) ∧ (xs.length ≤ i → J.stop i H2))
    (hc : ∀ x ∈ xs, ∀ H2 (R : Bool → Hp → Prop), Same H1 H2 → (∀ H3, Same H2 H3 → R (p x) H3) → tc (blkSt js σ (some x)) H2 R)
    (he : ∀ x ∈ xs, p x = true → ∀ H2 (R : VK), Same H1 H2 → (∀ H3, Same H2 H3 → R (g x) H3) → te (blkSt js σ (some x)) H2 R)
    (hz : xs.length ≤ 2000) (q : ∀ d H2, H1 d = none → Same H1 H2 → H2 d = some (.lst ((xs.filter p).map g)) → Q (.ref d) H2) : tComp js wi tc te σ H Q :=
  hw _ fun D hD => comp_pure xs p g hJ hc he hz q D hD
theorem it_row {K : PySem.W.Frag} {tp : Bool} {H1 : Hp} {a : Addr} {xs : List V} (h : RowAt tp H1 a xs) : ∀ i H2, Same H1 H2 →
    (i < xs.length → (ItB K tp a).go i H2) ∧ (∀ v H3, (ItB K tp a).yld i H2 v H3 → i < xs.length → H3 = H2 ∧ xs[i]? = some v) ∧ (xs.length ≤ i → (ItB K tp a).stop i H2) := fun i H2 S => by
  have h2 : RowAt tp H2 a xs := S _ _ h
  refine ⟨fun hi => ?_, fun v H3 y _ => itb_yld h2 y, fun hi => itb_stop h2 hi⟩
  exact itb_go h2 (x := xs[i]) (by simp [hi])
theorem comp_draw {js : List Nat} {te : TE} {σ : St} {H1 : Hp} {Q : VK} {lo : Int} {p : Addr} {m0 c : Nat} (n : Nat) (R : V → Prop) (B : Box H1 p m0) (hn : n ≤ 2000)
    (he : ∀ x H2 m (Z : VK), Box H2 p m → m ≤ m0 + c * n → (∀ v H3, R v → Box H3 p (m + c) → KB p H2 H3 → Z v H3) → te (blkSt js σ (some x)) H2 Z)
    (q : ∀ d H2 vs, H1 d = none → vs.length = n → (∀ v ∈ vs, R v) → Box H2 p (m0 + c * n) → KB p H1 H2 → H2 d = some (.lst vs) → Q (.ref d) H2) (D : Addr) (hD : H1 D = none) :
    ∃ W : Nat → Nat → Hp → Prop, (∃ m, W 0 m (upd H1 D (.lst []))) ∧ ∀ i m H2, W i m H2 →
      ((Itr lo n).stop i H2 ∧ Q (.ref D) H2) ∨ ((Itr lo n).go i H2 ∧ ∀ v H3, (Itr lo n).yld i H2 v H3 → (fun (_ : St) (H : Hp) (Z : Bool → Hp → Prop) => Z true H) (blkSt js σ (some v)) H3 fun b H4 =>
        if b = true then te (blkSt js σ (some v)) H4 fun y H5 => ∃ ys, H5 D = some (.lst ys) ∧ ys.length < sizeLine ∧ ∃ m', m' < m ∧ W (i + 1) m' (upd H5 D (.lst (ys ++ [y])))
        else ∃ m', m' < m ∧ W (i + 1) m' H4) := by
  have nD : D ≠ p := B.ne (H1 := H1) hD
  refine ⟨fun i m H2 => i + m = n ∧ KB p H1 H2 ∧ Box H2 p (m0 + c * i) ∧ ∃ vs, H2 D = some (.lst vs) ∧ vs.length = i ∧ ∀ v ∈ vs, R v, ⟨n, by omega, (Same.upd hD).kb, B.upd hD, [], upd_same, rfl, fun v h => absurd h (by simp)⟩, ?_⟩
  rintro i m H2 ⟨hm, k2, B2, vs, e2, l2, r2⟩
  by_cases hi : i < n
  · refine .inr ⟨hi, ?_⟩
    rintro v H3 ⟨rfl, rfl⟩
    have cm : c * i ≤ c * n := Nat.mul_le_mul_left _ (by omega)
    refine iteT (he _ _ _ _ B2 (by omega) fun y H5 hy B5 k5 => ⟨vs, k5 _ _ e2 nD, by have := big1000; omega, m - 1, by omega, by omega, fun b o z nb => ?_, ?_, vs ++ [y], upd_same, by simp [l2], fun u hu => ?_⟩)
    · rw [upd_ne (ne_of_none z hD)]
      exact k5 _ _ (k2 _ _ z nb) nb
    · have : Box H5 p (m0 + c * (i + 1)) := by
        have e : m0 + c * i + c = m0 + c * (i + 1) := by rw [Nat.mul_add, Nat.mul_one]; omega
        rw [← e]
        exact B5
      obtain ⟨a, b, c', h1, r⟩ := this
      exact ⟨a, b, c', by rw [upd_ne (Ne.symm nD)]; exact h1, r⟩
    · rcases List.mem_append.mp hu with hu | hu
      · exact r2 u hu
      · rw [List.mem_singleton.mp hu]; exact hy
  · have ei : i = n := by omega
    subst ei
    exact .inl ⟨Nat.le_refl _, q D H2 vs hD l2 r2 B2 k2 e2⟩
theorem comp_d {js : List Nat} {wi : TI} {te : TE} {σ : St} {H H1 : Hp} {Q : VK} {lo : Int} {p : Addr} {m0 c : Nat} (n : Nat) (R : V → Prop) (hw : ∀ R : It → Hp → Prop, R (Itr lo n) H1 → wi σ H R) (B : Box H1 p m0) (hn : n ≤ 2000)
    (he : ∀ x H2 m (Z : VK), Box H2 p m → m ≤ m0 + c * n → (∀ v H3, R v → Box H3 p (m + c) → KB p H2 H3 → Z v H3) → te (blkSt js σ (some x)) H2 Z)
    (q : ∀ d H2 vs, H1 d = none → vs.length = n → (∀ v ∈ vs, R v) → Box H2 p (m0 + c * n) → KB p H1 H2 → H2 d = some (.lst vs) → Q (.ref d) H2) : tComp js wi (fun _ H Q => Q true H) te σ H Q :=
  hw _ fun D hD => comp_draw n R B hn he q D hD
theorem wi_row {K : PySem.W.Frag} {tp : Bool} {i : Nat} {σ : St} {H : Hp} {a : Addr} {xs : List V} (e : σ[i]? = some (some (.ref a))) (h : RowAt tp H a xs) (R : It → Hp → Prop) (r : R (ItB K tp a) H) : iSeq K tp (tVar i) σ H R := ⟨_, e, a, rfl, ⟨xs, h.sq⟩, r⟩
theorem filt_all {xs : List V} : xs.filter (fun _ => true) = xs := List.filter_eq_self.mpr fun _ _ => rfl
theorem all_D {N : Addr → Prop} {H : Hp} {xs : List V} {ds : List PyData} {f : V → Bool} {g : PyData → Bool} (rx : DVs N H xs ds) (h : ∀ {v : V} {d : PyData}, DV N H v d → f v = g d) : (xs.map f).all id = true ↔ ∀ y ∈ ds, g y = true := by
  rw [List.all_eq_true]
  constructor
  · intro q y hy
    obtain ⟨j, hj, ej⟩ := List.getElem_of_mem hy
    rcases DVs.at_ j rx with ⟨_, b⟩ | ⟨y', e', b1, b2, b3⟩
    · simp at b; omega
    · have : e' = y := by simp [hj] at b2; rw [← b2, ej]
      subst this
      rw [← h b3]
      exact q _ (List.mem_map.mpr ⟨y', List.mem_of_getElem? b1, rfl⟩)
  · intro q b hb
    obtain ⟨y, hy, rfl⟩ := List.mem_map.mp hb
    obtain ⟨e', he', r⟩ := DVs.mem rx y hy
    show f y = true
    rw [h r]
    exact q _ he'
theorem ints_D {N : Addr → Prop} {H : Hp} : ∀ {xs : List V} {ds : List PyData}, DVs N H xs ds → (∀ y ∈ ds, placeD y = true) → ∃ ns : List Int, xs = ns.map V.int ∧ ds = ns.map PyData.int ∧ ∀ i ∈ ns, 0 ≤ i
  | _, _, .nil, _ => ⟨[], rfl, rfl, fun _ h => absurd h (by simp)⟩
  | _, _, .cons (d := d) r t, h => by
    obtain ⟨ns, e1, e2, e3⟩ := ints_D t fun y hy => h y (List.mem_cons_of_mem _ hy)
    have hd := h d (List.mem_cons_self ..)
    cases r with
    | int i => exact ⟨i :: ns, by rw [e1]; rfl, by rw [e2]; rfl, fun j hj => by rcases List.mem_cons.mp hj with rfl | hj; exact of_decide_eq_true hd; exact e3 j hj⟩
    | _ => exact absurd (show false = true from hd) Bool.false_ne_true
theorem once_len : ∀ (ns : List Int) (k : Nat), k ≤ ns.length → (onceOf ns k).length ≤ k ∧ ((onceOf ns k).length = k ↔ (ns.take k).Nodup) ∧ ∀ z, (onceOf ns k).any (· == z) = true ↔ z ∈ ns.take k
  | ns, 0, _ => by
    refine ⟨Nat.le_refl _, ?_, ?_⟩
    · simp [onceOf, PyProof.Rows.firstMet]
    · simp [onceOf, PyProof.Rows.firstMet]
  | ns, k + 1, h => by
    obtain ⟨h1, h2, h3⟩ := once_len ns k (by omega)
    have tk : ns.take (k + 1) = ns.take k ++ [ns[k]] := by rw [List.take_add_one]; simp [show k < ns.length by omega]
    have gd : ns.getD k 0 = ns[k] := by simp [List.getD, show k < ns.length by omega]
    have st : onceOf ns (k + 1) = PyProof.Rows.step_dedup (onceOf ns k) (ns[k]) := by
      show PyProof.Rows.firstMet _ _ = _
      rw [PyProof.Rows.firstMet_succ, gd]
    have sl := PyProof.Rows.step_length (onceOf ns k) ns[k]
    have sa := PyProof.Rows.step_any (onceOf ns k) ns[k]
    rw [st, sl, tk]
    have mem : ∀ z, (PyProof.Rows.step_dedup (onceOf ns k) ns[k]).any (· == z) = true ↔ z ∈ ns.take k ++ [ns[k]] := fun z => by
      rw [sa z, Bool.or_eq_true, h3 z, List.mem_append, List.mem_singleton, decide_eq_true_eq]
    by_cases c : (onceOf ns k).any (· == ns[k]) = true
    · rw [if_pos c]
      refine ⟨by omega, ⟨fun z => by omega, fun z => ?_⟩, mem⟩
      rw [List.nodup_append] at z
      exact absurd rfl (z.2.2 _ ((h3 _).mp c) _ (by simp))
    · rw [if_neg c]
      refine ⟨by omega, ⟨fun z => ?_, fun z => ?_⟩, mem⟩
      · rw [List.nodup_append]
        exact ⟨h2.mp (by omega), by simp, fun u hu v hv e => c ((h3 _).mpr (by rw [← List.mem_singleton.mp hv, ← e]; exact hu))⟩
      · rw [List.nodup_append] at z
        have := h2.mpr z.1
        omega
section
variable {P : Program} {w : World} {K : PySem.W.Frag} {mg : Str → Option Value} {base : Heap}
abbrev s_are_goods : Stmt := top 24
theorem sc_are_goods : FnScope ["thing", "many"] ["thing", "many"] (defScope s_are_goods) := ⟨rfl, rfl, rfl, by decide +kernel, rfl, by decide +kernel, by decide +kernel⟩
def spAG (p : PyData → Int → Prop) : Sp := fun vs H Q _ => ∃ (N : Addr → Prop) (v : V) (d : PyData) (n : Int), vs = [v, .int n] ∧ DV N H v d ∧ Short d ∧ ∀ H', Same H H' → Q (.bl (yes (p d n))) H'
theorem ok_AG (hd : ∃ f fd, Dn K mg "are_goods" "are_goods" s_are_goods ["thing", "many"] f fd) (T : Txt K mg) (h1 : OkD P w K mg base "is_row" s_is_row ["thing"] 1 (spIsR K)) (h2 : OkD P w K mg base "is_good" s_is_good ["thing"] 3 (spIsK K)) :
    OkD P w K mg base "are_goods" s_are_goods ["thing", "many"] 6 (spAG PageGoods) := by
  obtain ⟨f, fd, D⟩ := hd
  obtain ⟨f1, fd1, Dis_row, Gis_row⟩ := h1
  obtain ⟨f2, fd2, Dis_good, Gis_good⟩ := h2
  refine ⟨f, fd, D, D.fn.ok sc_are_goods (fun vs H Q E h => ?_) (fun cdv A outer s H vs Q E hr h => ?_)⟩
  · obtain ⟨_, _, _, _, rfl, _⟩ := h
    rfl
  · obtain ⟨N, v, d, n, rfl, x, hz, k⟩ := h
    have cut : ∃ tp : Bool, (∃ (a : Addr) (xs : List V) (ds : List PyData), v = .ref a ∧ RowAt tp H a xs ∧ DVs N H xs ds ∧ rowD d = some ds ∧ isSq (tyD d) = true ∧ ¬ N a) ∨ (isSq (tyD d) = false ∧ rowD d = none) := by
      rcases dv_row x with ⟨tp, r⟩ | r
      · exact ⟨tp, .inl r⟩
      · exact ⟨true, .inr r⟩
    obtain ⟨tp, cut⟩ := cut
    refine ⟨_, (pss_one (ps_ret (pe_and (pe_call Gis_row (hr.mono (by decide)) rfl Dis_row.m Dis_row.fn.kp Dis_row.b .nil pass0 (pa_c (pv 0) pa_nil)) (pe_and (pe_cmpR op_eq (pe_callB call_len_seq rfl T.n_len bt_len (pa_c (pv 0) pa_nil)) (pv 1) (nomark _)) (pe_one (pe_callB (call_allB hr.hd) rfl T.n_all bt_all (pa_c (pe_comp (blk_mk [] []) rfl (pi_seq tp (pv 0)) (fun _ _ _ _ _ => PTs.nil) (fun _ _ _ _ _ => (pe_call Gis_good (hr.mono (by decide)) rfl Dis_good.m Dis_good.fn.kp Dis_good.b .nil pass0 (pa_c (pv 0) pa_nil)))) pa_nil))))))), ?_⟩
    refine ⟨_, rfl, v, _, rfl, x.thg, fun H1 S1 => ⟨_, rfl, ?_⟩⟩
    rcases cut with ⟨a, xs, ds, rfl, ra, rx, rd, sq, na⟩ | ⟨sq, rd⟩
    · have l := rx.length
      have hz' := hz ds rd
      have ra1 : RowAt tp H1 a xs := S1 _ _ ra
      rw [sq]
      refine iteT ⟨_, rfl, a, xs, rfl, row_len ra1, _, rfl, rfl, _, rfl, ite2 (fun hn => ?_) (fun hn => ?_)⟩
      · have hn' : (V.int (xs.length : Int)) = .int n := of_decide_eq_true hn
        have en : (xs.length : Int) = n := by cases hn'; rfl
        refine tcb1 (comp_f xs (fun _ => true) (fun y => .bl (keyV y)) (wi_row rfl ra1) (it_row ra1) ?_ ?_ (by omega) ?_)
        · exact fun _ _ H2 R _ r => r H2 (Same.refl _)
        · intro y hy _ H2 R S2 r
          obtain ⟨t, ht⟩ := rx.things (K := K) y hy
          exact ⟨_, rfl, y, t, rfl, ht.keep (S1.trans S2), r H2 (Same.refl _)⟩
        · intro dd H2 f2 S2 e2
          refine ⟨dd, xs.map keyV, rfl, by rw [e2, filt_all, List.map_map]; rfl, ?_⟩
          have e : (xs.map keyV).all id = yes (PageGoods d n) := by
            have al : (xs.map keyV).all id = true ↔ ∀ y ∈ ds, keyD y = true := all_D rx fun r => keyV_D r
            by_cases c : ∀ y ∈ ds, keyD y = true
            · rw [al.mpr c, yes_t ⟨ds, rd, by omega, c⟩]
            · rw [Bool.eq_false_iff.mpr fun z => c (al.mp z), yes_f]
              rintro ⟨ds', a', _, c'⟩
              rw [rd] at a'
              cases a'
              exact c c'
          rw [e]
          exact k H2 (S1.trans S2)
      · have := k H1 S1
        rw [yes_f (by
          rintro ⟨ds', a', b', _⟩
          rw [rd] at a'
          cases a'
          apply hn
          rw [← b', ← l]
          exact decide_eq_true rfl)] at this
        exact this
    · rw [sq]
      refine iteF ?_
      have := k H1 S1
      rw [yes_f (by rintro ⟨ds', a', _⟩; rw [rd] at a'; cases a')] at this
      exact this
abbrev s_are_places : Stmt := top 25
theorem sc_are_places : FnScope ["thing", "many"] ["thing", "many"] (defScope s_are_places) := ⟨rfl, rfl, rfl, by decide +kernel, rfl, by decide +kernel, by decide +kernel⟩
theorem ok_AP (hd : ∃ f fd, Dn K mg "are_places" "are_places" s_are_places ["thing", "many"] f fd) (T : Txt K mg) (h1 : OkD P w K mg base "is_row" s_is_row ["thing"] 1 (spIsR K)) (h2 : OkD P w K mg base "is_place" s_is_place ["thing"] 2 (spIsP K)) :
    OkD P w K mg base "are_places" s_are_places ["thing", "many"] 6 (spAG PagePlaces) := by
  obtain ⟨f, fd, D⟩ := hd
  obtain ⟨f1, fd1, Dis_row, Gis_row⟩ := h1
  obtain ⟨f2, fd2, Dis_place, Gis_place⟩ := h2
  refine ⟨f, fd, D, D.fn.ok sc_are_places (fun vs H Q E h => ?_) (fun cdv A outer s H vs Q E hr h => ?_)⟩
  · obtain ⟨_, _, _, _, rfl, _⟩ := h
    rfl
  · obtain ⟨N, v, d, n, rfl, x, hz, k⟩ := h
    have cut : ∃ tp : Bool, (∃ (a : Addr) (xs : List V) (ds : List PyData), v = .ref a ∧ RowAt tp H a xs ∧ DVs N H xs ds ∧ rowD d = some ds ∧ isSq (tyD d) = true ∧ ¬ N a) ∨ (isSq (tyD d) = false ∧ rowD d = none) := by
      rcases dv_row x with ⟨tp, r⟩ | r
      · exact ⟨tp, .inl r⟩
      · exact ⟨true, .inr r⟩
    obtain ⟨tp, cut⟩ := cut
    refine ⟨_, (pss_cons (ps_if (PW.pt (pw_or (pt_not (pt_val (pe_call Gis_row (hr.mono (by decide)) rfl Dis_row.m Dis_row.fn.kp Dis_row.b .nil pass0 (pa_c (pv 0) pa_nil)))) (pw_or1 (pt_cmpR op_ne (pe_callB call_len_seq rfl T.n_len bt_len (pa_c (pv 0) pa_nil)) (pv 1) (nomark _)))))
      (pss_one (ps_ret pe_bl))
      pss_nil)
    (pss_one (ps_ret (pe_and (pe_callB (call_allB hr.hd) rfl T.n_all bt_all (pa_c (pe_comp (blk_mk [] []) rfl (pi_seq tp (pv 0)) (fun _ _ _ _ _ => PTs.nil) (fun _ _ _ _ _ => (pe_call Gis_place (hr.mono (by decide)) rfl Dis_place.m Dis_place.fn.kp Dis_place.b .nil pass0 (pa_c (pv 0) pa_nil)))) pa_nil)) (pe_one (pe_cmpR op_eq (pe_callB call_lenS rfl T.n_len bt_len (pa_c (pe_callTy (call_setI hr.hd) rfl T.n_set bt_set (pa_c (pv 0) pa_nil)) pa_nil)) (pv 1) (nomark _))))))), ?_⟩
    refine ⟨_, rfl, v, _, rfl, x.thg, fun H1 S1 => ⟨_, rfl, ?_⟩⟩
    rcases cut with ⟨a, xs, ds, rfl, ra, rx, rd, sq, na⟩ | ⟨sq, rd⟩
    · have l := rx.length
      have hz' := hz ds rd
      have ra1 : RowAt tp H1 a xs := S1 _ _ ra
      have no : ¬ PagePlaces d n → ∀ H', Same H H' → Q (.bl false) H' := fun c H' S => by
        have := k H' S
        rw [yes_f c] at this
        exact this
      rw [sq]
      refine iteF ⟨_, rfl, a, xs, rfl, row_len ra1, _, rfl, rfl, _, rfl, ite2 (fun hn => ?_) (fun hn => ?_)⟩
      · refine no ?_ H1 S1
        rintro ⟨ns, a', b', _⟩
        rw [rd] at a'
        cases a'
        rw [List.length_map] at l
        have e : decide (V.int (xs.length : Int) = V.int n) = true := by rw [decide_eq_true_eq, l, b']
        have hn2 : (!decide (V.int (xs.length : Int) = V.int n)) = true := hn
        rw [e] at hn2
        cases hn2
      · have en : (xs.length : Int) = n := by
          have hn2 : ¬ (!decide (V.int (xs.length : Int) = V.int n)) = true := hn
          cases c : decide (V.int (xs.length : Int) = V.int n) with
          | true => have := of_decide_eq_true c; cases this; rfl
          | false => rw [c] at hn2; exact absurd rfl hn2
        dsimp only [tNext]
        refine tret1 (tand1 (tcb1 (comp_f xs (fun _ => true) (fun y => .bl (placeV y)) (wi_row rfl ra1) (it_row ra1) ?_ ?_ (by omega) ?_)))
        · exact fun _ _ H2 R _ r => r H2 (Same.refl _)
        · intro y hy _ H2 R S2 r
          obtain ⟨t, ht⟩ := rx.things (K := K) y hy
          exact ⟨_, rfl, y, t, rfl, ht.keep (S1.trans S2), r H2 (Same.refl _)⟩
        · intro dd H2 f2 S2 e2
          have ra2 : RowAt tp H2 a xs := S2 _ _ ra1
          refine ⟨dd, xs.map placeV, rfl, by rw [e2, filt_all, List.map_map]; rfl, _, rfl, ?_⟩
          have al : (xs.map placeV).all id = true ↔ ∀ y ∈ ds, placeD y = true := all_D rx fun r => placeV_D r
          by_cases c : ∀ y ∈ ds, placeD y = true
          · rw [al.mpr c]
            obtain ⟨ns, e1, e3, e4⟩ := ints_D rx c
            have ln : ns.length = xs.length := by rw [e1, List.length_map]
            have two : H2 a = some (.lst (ns.map V.int)) ∨ H2 a = some (.tup (ns.map V.int)) := by
              rw [← e1]
              cases tp with
              | true => exact .inr ra2
              | false => exact .inl ra2
            obtain ⟨o1, o2, _⟩ := once_len ns ns.length (Nat.le_refl _)
            rw [List.take_length] at o2
            refine iteT ⟨_, rfl, a, ns, rfl, two, by omega, fun l hl => ⟨l, _, _, rfl, upd_same, by omega, _, rfl, rfl, ?_⟩⟩
            have e : decide (V.int ((onceOf ns ns.length).length : Int) = V.int n) = yes (PagePlaces d n) := by
              by_cases nd : ns.Nodup
              · rw [yes_t ⟨ns, by rw [rd, e3], by omega, e4, nd⟩, decide_eq_true_eq]
                have := o2.mpr nd
                rw [this, ← en, ln]
              · rw [yes_f, decide_eq_false_iff_not]
                · intro z
                  have z2 : ((onceOf ns ns.length).length : Int) = n := by cases z; rfl
                  exact nd (o2.mp (by omega))
                · rintro ⟨ms, a', _, _, c'⟩
                  rw [rd, e3, Option.some.injEq] at a'
                  have : ns = ms := List.map_inj_right (fun _ _ z => PyData.int.inj z) |>.mp a'
                  exact nd (this ▸ c')
            show Q (.bl (decide (V.int ((onceOf ns ns.length).length : Int) = V.int n))) _
            rw [e]
            exact k _ ((S1.trans S2).trans (Same.upd hl))
          · rw [Bool.eq_false_iff.mpr fun z => c (al.mp z)]
            refine iteF (no ?_ H2 (S1.trans S2))
            rintro ⟨ns, a', _, c', _⟩
            rw [rd, Option.some.injEq] at a'
            refine c fun y hy => ?_
            rw [a'] at hy
            obtain ⟨i, hi, rfl⟩ := List.mem_map.mp hy
            exact decide_eq_true (c' i hi)
    · rw [sq]
      refine iteT ?_
      have := k H1 S1
      rw [yes_f (by rintro ⟨ns, a', _⟩; rw [rd] at a'; cases a')] at this
      exact this
end
end K11

set_option Elab.async false
set_option linter.all false
set_option maxRecDepth 100000
set_option maxHeartbeats 2000000
namespace K11
open PySem L2
theorem Fun_okX {P : Program} {w : World} {K : PySem.W.Frag} {mg : Str → Option Value} {base : Heap} {x qual : Str} {st : Stmt} {f : Addr} {fd : FuncData} {N ps : List Str} {k : Nat} {sp : Sp} (F : Fun K x qual st f fd) (S : FnScope N ps (defScope st)) (len : ∀ vs H Q E, sp vs H Q E → vs.length = ps.length)
    (hbody : ∀ (cdv : Value) (A : Around) (outer : List Env) (s : Shared) (H : Hp) (vs : List V) (Q : VK) (E : XK), Room k (A.deeper (PyProof.Rows.envOfC qual (defScope st) s.heap.objs.size f cdv)) → sp vs H Q E →
      ∃ t, PSs (cxOf (CXo P w) P w K mg base N qual (defScope st) f cdv A outer s H E) (defBody st) t ∧ t { nx := fun _ H' => Q .non H', rt := Q } (start N vs) H) : FnOk P w K mg base (CXo P w) (k + 1) f fd ps sp := by
  obtain ⟨oc, od, kV, doc, pm, an, cdv, ct, osl, rfl, lk, hcd⟩ := F.ex
  exact fn_of lk hcd S len fun A outer s H vs Q E hr hsp => hbody cdv A outer s H vs Q E hr hsp
structure ErN (K : PySem.W.Frag) (mg : Str → Option Value) (nm q : Str) (st : Stmt) (fld : Str) (C T fI : Addr) (fd : FuncData) : Prop where
  f : ExF K C T fI
  g : ExG K C
  b : BaseInit K T
  r : ExR K C
  fn : Fun K "__init__" q st fI fd
  bi : Binds K fd ["self", fld] []
  mC : mg nm = some (.ref C)
  mT : mg "TreeError" = some (.ref T)
  no : NoAttr K C fld
  xC : ExM K C
  self : PySem.W.mroIn K C (.ref C) = some true
def spErr (C : Addr) (fld : Str) : Sp := fun vs H Q _ => ∃ (e : Addr) (v : V), vs = [.ref e, v] ∧ H e = some (ExO C e none none none) ∧
  ∀ (dx t : Addr) (H' : Hp), H dx = none → H t = none → dx ≠ e → t ≠ e → dx ≠ t → H' e = some (ExO C e (some dx) (some t) none) → H' dx = some (XdO dx [(fld, v)]) → (∀ b, b ≠ e → b ≠ dx → b ≠ t → H' b = H b) → Q .non H'
section
variable {P : Program} {w : World} {K : PySem.W.Frag} {mg : Str → Option Value} {base : Heap}
theorem sc_NoKey : FnScope ["self", "found"] ["self", "found"] (defScope (inClass (top 3) 0)) := ⟨rfl, rfl, rfl, by decide +kernel, rfl, by decide +kernel, by decide +kernel⟩
theorem ok_NoKey {C TT fI : Addr} {fd : FuncData} (x : ErN K mg "NoKey" "NoKey.__init__" (inClass (top 3) 0) "found" C TT fI fd) : FnOk P w K mg base CX0 1 fI fd ["self", "found"] (spErr C "found") := by
  refine x.fn.ok sc_NoKey (fun vs H Q E h => ?_) (fun cdv A outer s H vs Q E hr h => ?_)
  · obtain ⟨_, _, rfl, _⟩ := h
    rfl
  · obtain ⟨e, v, rfl, he, k⟩ := h
    refine ⟨_, (pss_cons (ps_expr (pe_baseInit x.f x.b rfl x.mT (pa_cons (pv 0) (pa_cons pe_str pa_nil)))) (pss_one (ps_exf x.f (pv 0) (pv 1) rfl))), ?_⟩
    refine ⟨_, rfl, e, none, none, none, _, rfl, (by show 1 ≤ sizeLine; decide), he, fun t f1 f2 => ?_⟩
    refine ⟨_, rfl, _, rfl, e, _, none, rfl, upd_same, x.no, fun dx h1 h2 => ?_⟩
    rw [upd_ne h2] at h1
    have h3 : dx ≠ t := (ne_of_none upd_same h1).symm
    rw [upd_ne h3] at h1
    refine k dx t _ h1 f1 h2 f2 h3 upd_same (by rw [upd_ne h2, upd_same]) fun b hb1 hb2 hb3 => ?_
    rw [upd_ne hb1, upd_ne hb2, upd_ne hb1, upd_ne hb3]
theorem sc_NoPage : FnScope ["self", "found"] ["self", "found"] (defScope (inClass (top 4) 0)) := ⟨rfl, rfl, rfl, by decide +kernel, rfl, by decide +kernel, by decide +kernel⟩
theorem ok_NoPage {C TT fI : Addr} {fd : FuncData} (x : ErN K mg "NoPage" "NoPage.__init__" (inClass (top 4) 0) "found" C TT fI fd) : FnOk P w K mg base CX0 1 fI fd ["self", "found"] (spErr C "found") := by
  refine x.fn.ok sc_NoPage (fun vs H Q E h => ?_) (fun cdv A outer s H vs Q E hr h => ?_)
  · obtain ⟨_, _, rfl, _⟩ := h
    rfl
  · obtain ⟨e, v, rfl, he, k⟩ := h
    refine ⟨_, (pss_cons (ps_expr (pe_baseInit x.f x.b rfl x.mT (pa_cons (pv 0) (pa_cons pe_str pa_nil)))) (pss_one (ps_exf x.f (pv 0) (pv 1) rfl))), ?_⟩
    refine ⟨_, rfl, e, none, none, none, _, rfl, (by show 1 ≤ sizeLine; decide), he, fun t f1 f2 => ?_⟩
    refine ⟨_, rfl, _, rfl, e, _, none, rfl, upd_same, x.no, fun dx h1 h2 => ?_⟩
    rw [upd_ne h2] at h1
    have h3 : dx ≠ t := (ne_of_none upd_same h1).symm
    rw [upd_ne h3] at h1
    refine k dx t _ h1 f1 h2 f2 h3 upd_same (by rw [upd_ne h2, upd_same]) fun b hb1 hb2 hb3 => ?_
    rw [upd_ne hb1, upd_ne hb2, upd_ne hb1, upd_ne hb3]
def Err (C : Addr) (fld : Str) (v : V) (H : Hp) (e : Addr) : Prop := ∃ (dx : Addr) (ar : Option Addr) (b : Addr), Fly C e (some dx) ar (some b) H ∧ H dx = some (XdO dx [(fld, v)]) ∧ dx ≠ e ∧ dx ≠ b
theorem raise_err {nm q fld : Str} {st : Stmt} {C TT fI : Addr} {fd : FuncData} (x : ErN K mg nm q st fld C TT fI fd) {v : V} {H : Hp} {E : XK} {te : TE} {σ : St} {D : Ends} (hv : ∀ R : List V → Hp → Prop, R [v] H → tCons te tNil σ H R)
    (q : ∀ e H', H e = none → Same H H' → Err C fld v H' e → E (.ref e) none H') : tRaise K E (tEx C (spErr C fld) (tCons te tNil)) D σ H := by
  delta tRaise tEx
  dsimp only
  refine hv _ ?_
  refine ⟨(by show 1 ≤ sizeLine; decide), fun e he => ⟨e, v, rfl, upd_same, fun dx t H' h1 h2 h3 h4 h5 a1 a2 a3 => ⟨rfl, C, e, some dx, some t, rfl, x.r, ⟨a1, fun b z => nomatch z⟩, fun b fb nb => ?_⟩⟩⟩
  rw [upd_ne h3] at h1
  rw [upd_ne h4] at h2
  have hdb : dx ≠ b := ne_of_none a2 fb
  refine q e _ he (fun c o z => ?_) ⟨dx, some t, b, fly_past nb, ?_, h3, hdb⟩
  · have n1 : c ≠ e := ne_of_none z he
    have n2 : c ≠ dx := ne_of_none z h1
    have n3 : c ≠ t := ne_of_none z h2
    have hc : H' c = some o := by rw [a3 c n1 n2 n3, upd_ne n1]; exact z
    have n4 : c ≠ b := ne_of_none hc fb
    show upd (upd H' b _) e _ c = _
    rw [upd_ne n1, upd_ne n4]
    exact hc
  · show upd (upd H' b _) e _ dx = _
    rw [upd_ne h3, upd_ne hdb]
    exact a2
end
structure PgN (K : PySem.W.Frag) (mg : Str → Option Value) (cP fP : Addr) (fdP : FuncData) : Prop where
  fn : Fun K "__init__" "Page.__init__" (inClass (top 27) 0) fP fdP
  bi : Binds K fdP ["self", "keys", "goods"] []
  b : BaseFn K cP "__init__" fP
  m : mg "Page" = some (.ref cP)
structure KdN (K : PySem.W.Frag) (mg : Str → Option Value) (nm q : Str) (st : Stmt) (C f : Addr) (fd : FuncData) (fK fG : Addr) : Prop where
  mak : Mk K C f
  fn : Fun K "__init__" q st f fd
  bi : Binds K fd ["self", "keys", "goods"] []
  m : mg nm = some (.ref C)
  ins : InsC K C
  n1 : NoAttr K C "key_row"
  n2 : NoAttr K C "good_row"
  k : Meth K C "all_keys" fK
  g : Meth K C "goods" fG
def Pg (C dx : Addr) (H : Hp) (x : Addr) (xs ys : List V) : Prop := ∃ tk tg, H x = some (.ins C dx [("key_row", .ref tk), ("good_row", .ref tg)]) ∧ H tk = some (.tup xs) ∧ H tg = some (.tup ys)
def But (x : Addr) (H H' : Hp) : Prop := ∀ b o, H b = some o → b ≠ x → H' b = some o
section
variable {P : Program} {w : World} {K : PySem.W.Frag} {mg : Str → Option Value} {base : Heap}
theorem sc_page : FnScope ["self", "keys", "goods"] ["self", "keys", "goods"] (defScope (inClass (top 27) 0)) := ⟨rfl, rfl, rfl, by decide +kernel, rfl, by decide +kernel, by decide +kernel⟩
def spPage (K : PySem.W.Frag) (C : Addr) : Sp := fun vs H Q _ => ∃ (x dx a b : Addr) (tp tp' : Bool) (xs ys : List V), vs = [.ref x, .ref a, .ref b] ∧ H x = some (.ins C dx []) ∧ RowAt tp H a xs ∧ RowAt tp' H b ys ∧
  ∀ H', But x H H' → Pg C dx H' x xs ys → Q .non H'
theorem CallR_imp {X : Cx} {f : Value} {r r' : List V → Hp → VK → Prop} (h : CallR X f r) (i : ∀ xs H Q, r' xs H Q → r xs H Q) : CallR X f r' := fun pins s σ H xs us Q I rs q => h pins s σ H xs us Q I rs (i xs H Q q)
theorem call_tupR {X : Cx} : CallR X (.type "tuple") (fun xs H Q => ∃ (tp : Bool) (a : Addr) (ys : List V), xs = [.ref a] ∧ RowAt tp H a ys ∧ ∀ t H', Same H H' → H' t = some (.tup ys) → Q (.ref t) H') := CallR_imp call_tuple_of fun xs H Q h => by
  obtain ⟨tp, a, ys, rfl, r, q⟩ := h
  cases tp with
  | true => exact ⟨a, ys, rfl, .inr ⟨SqT.of r, q a H (Same.refl _) r⟩⟩
  | false => exact ⟨a, ys, rfl, .inl ⟨SqL.of r, fun l hl => q l _ (Same.upd hl) upd_same⟩⟩
theorem ok_page {fP C : Addr} {fd : FuncData} (hf : Fun K "__init__" "Page.__init__" (inClass (top 27) 0) fP fd) (T : Txt K mg) (c : Cls K C) (n1 : NoAttr K C "key_row") (n2 : NoAttr K C "good_row") : FnOk P w K mg base CX0 1 fP fd ["self", "keys", "goods"] (spPage K C) := by
  refine hf.ok sc_page (fun vs H Q E h => ?_) (fun cdv A outer s H vs Q E hr h => ?_)
  · obtain ⟨_, _, _, _, _, _, _, _, rfl, _⟩ := h
    rfl
  · obtain ⟨x, dx, a, b, tp, tp', xs, ys, rfl, hx, ra, rb, k⟩ := h
    refine ⟨_, (pss_cons (ps_fld (pv 0) (pe_callTy call_tupR rfl T.n_tuple bt_tuple (pa_c (pv 1) pa_nil)) rfl) (pss_one (ps_fld (pv 0) (pe_callTy call_tupR rfl T.n_tuple bt_tuple (pa_c (pv 2) pa_nil)) rfl))), ?_⟩
    refine ⟨_, rfl, tp, a, xs, rfl, ra, fun tk H1 S1 e1 => ⟨_, rfl, x, C, dx, _, rfl, S1 _ _ hx, c, n1, by decide, ?_⟩⟩
    have nb : b ≠ x := ne_of rb hx (by cases tp' <;> (intro z; cases z))
    have nk : tk ≠ x := ne_of e1 (S1 _ _ hx) (by intro z; cases z)
    have rb1 : RowAt tp' (upd H1 x (.ins C dx (putF "key_row" (.ref tk) []))) b ys := by
      show upd _ _ _ _ = _
      rw [upd_ne nb]
      exact S1 _ _ rb
    refine ⟨_, rfl, tp', b, ys, rfl, rb1, fun tg H2 S2 e2 => ⟨_, rfl, x, C, dx, _, rfl, S2 _ _ upd_same, c, n2, (by show 1 < 1000; decide), ?_⟩⟩
    have ng : tg ≠ x := ne_of e2 (S2 _ _ upd_same) (by intro z; cases z)
    have ek : H2 tk = some (.tup xs) := S2 _ _ (by rw [upd_ne nk]; exact e1)
    refine k _ (fun c' o z n => ?_) ⟨tk, tg, upd_same, by rw [upd_ne nk]; exact ek, by rw [upd_ne ng]; exact e2⟩
    rw [upd_ne n]
    refine S2 _ _ ?_
    rw [upd_ne n]
    exact S1 _ _ z
def spMake (C cE : Addr) (p : PyData → PyData → Prop) : Sp := fun vs H Q E => ∃ (N : Addr → Prop) (x dx : Addr) (vk vg : V) (dk dg : PyData), vs = [.ref x, vk, vg] ∧ H x = some (.ins C dx []) ∧ DV N H vk dk ∧ DV N H vg dg ∧ Short dk ∧ Short dg ∧
  (¬ PageKeys dk → ∀ e H', H e = none → But x H H' → Err cE "found" vk H' e → E (.ref e) none H') ∧
  (PageKeys dk → ¬ p dk dg → ∀ e H', H e = none → But x H H' → Err cE "found" vg H' e → E (.ref e) none H') ∧
  (PageKeys dk → p dk dg → ∀ H' a b tp tp' xs ys, But x H H' → vk = .ref a → vg = .ref b → RowAt tp H a xs → RowAt tp' H b ys → Pg C dx H' x xs ys → Q .non H')
def lenD (d : PyData) : Int := match rowD d with | some ds => ds.length | none => 0
theorem sc_leaf : FnScope ["self", "keys", "goods"] ["self", "keys", "goods"] (defScope (inClass (top 28) 0)) := ⟨rfl, rfl, rfl, by decide +kernel, rfl, by decide +kernel, by decide +kernel⟩
theorem same_but {x : Addr} {H H' : Hp} (s : Same H H') : But x H H' := fun b o z _ => s b o z
theorem dv_of_yes {N : Addr → Prop} {H : Hp} {v : V} {d : PyData} (x : DV N H v d) (h : rowD d ≠ none) : ∃ tp a xs, v = .ref a ∧ RowAt tp H a xs ∧ (xs.length : Int) = lenD d := by
  rcases dv_row x with ⟨tp, a, xs, ds, e, ra, rx, rd, _⟩ | ⟨_, rd⟩
  · exact ⟨tp, a, xs, e, ra, by unfold lenD; rw [rd]; show (xs.length : Int) = ds.length; rw [rx.length]⟩
  · exact absurd rd h
theorem ok_leaf {C f fK fG cE TT fI cP fP : Addr} {fd fdI fdP : FuncData} (X : KdN K mg "Leaf" "Leaf.__init__" (inClass (top 28) 0) C f fd fK fG) (x : ErN K mg "NoPage" "NoPage.__init__" (inClass (top 4) 0) "found" cE TT fI fdI) (y : PgN K mg cP fP fdP) (T : Txt K mg)
    (h1 : OkD P w K mg base "are_page_keys" s_are_page_keys ["thing"] 5 spAPK) (h2 : OkD P w K mg base "are_goods" s_are_goods ["thing", "many"] 6 (spAG PageGoods)) :
    FnOk P w K mg base (CXo P w) 8 f fd ["self", "keys", "goods"] (spMake C cE fun dk dg => PageGoods dg (lenD dk)) := by
  obtain ⟨f1, fd1, D1, G1⟩ := h1
  obtain ⟨f2, fd2, D2, G2⟩ := h2
  have GE : FnOk P w K mg base CX0 1 fI fdI ["self", "found"] (spErr cE "found") := ok_NoPage x
  have GP : FnOk P w K mg base CX0 1 fP fdP ["self", "keys", "goods"] (spPage K C) := ok_page y.fn T X.ins.cl X.n1 X.n2
  refine Fun_okX X.fn sc_leaf (fun vs H Q E h => ?_) (fun cdv A outer s H vs Q E hr h => ?_)
  · obtain ⟨_, _, _, _, _, _, _, rfl, _⟩ := h
    rfl
  · obtain ⟨N, x', dx, vk, vg, dk, dg, rfl, hx, Dk, Dg, sk, sg, b1, b2, b3⟩ := h
    refine ⟨_, (pss_cons (ps_if (pt_not (pt_val (pe_call G1 (hr.mono (by decide)) rfl D1.m D1.fn.kp D1.b .nil pass0 (pa_c (pv 1) pa_nil)))) (pss_one (ps_raise outs_def rfl (pe_exc x.f GE (hr.mono (by decide)) rfl x.mC x.bi (pa_c (pv 1) pa_nil)))) pss_nil)
      (pss_cons (ps_if (pt_not (pt_val (pe_call G2 (hr.mono (by decide)) rfl D2.m D2.fn.kp D2.b .nil pass0 (pa_c (pv 2) (pa_c (pe_callB call_len_seq rfl T.n_len bt_len (pa_c (pv 1) pa_nil)) pa_nil))))) (pss_one (ps_raise outs_def rfl (pe_exc x.f GE (hr.mono (by decide)) rfl x.mC x.bi (pa_c (pv 2) pa_nil)))) pss_nil)
      (pss_one (ps_expr (pe_base y.b GP (hr.mono (by decide)) rfl y.m y.bi pass0 (pa_c (pv 0) (pa_c (pv 1) (pa_c (pv 2) pa_nil)))))))), ?_⟩
    refine ⟨_, rfl, N, vk, dk, rfl, Dk, sk, fun H1 S1 => ⟨_, rfl, ?_⟩⟩
    by_cases ck : PageKeys dk
    · rw [yes_t ck]
      refine iteF ?_
      obtain ⟨tp, a, xs, rfl, ra, la⟩ := dv_of_yes Dk (by obtain ⟨ds, e, _⟩ := ck; rw [e]; exact fun z => nomatch z)
      refine ⟨_, rfl, _, rfl, a, xs, rfl, row_len (S1 _ _ ra), N, vg, dg, _, rfl, Dg.keep (fun a o _ z => S1 a o z) (fun _ z => z), sg, fun H2 S2 => ⟨_, rfl, ?_⟩⟩
      rw [la]
      by_cases cg : PageGoods dg (lenD dk)
      · rw [yes_t cg]
        refine iteF ?_
        obtain ⟨tp', b, ys, rfl, rb, _⟩ := dv_of_yes Dg (by obtain ⟨ds, e, _⟩ := cg; rw [e]; exact fun z => nomatch z)
        refine ⟨_, rfl, _, rfl, _, rfl, x', dx, a, b, tp, tp', xs, ys, rfl, S2 _ _ (S1 _ _ hx), S2 _ _ (S1 _ _ ra), S2 _ _ (S1 _ _ rb), fun H3 B3 p3 => ?_⟩
        exact b3 ck cg H3 a b tp tp' xs ys (fun c o z n => B3 c o (S2 _ _ (S1 _ _ z)) n) rfl rfl ra rb p3
      · rw [yes_f cg]
        refine iteT (raise_err x (v := vg) (fun R r => ⟨_, rfl, r⟩) fun e H3 he S3 r => b2 ck cg e H3 ((S1.trans S2).free he) (same_but ((S1.trans S2).trans S3)) r)
    · rw [yes_f ck]
      refine iteT (raise_err x (v := vk) (fun R r => ⟨_, rfl, r⟩) fun e H3 he S3 r => b1 ck e H3 (S1.free he) (same_but (S1.trans S3)) r)
theorem sc_inner : FnScope ["self", "keys", "goods"] ["self", "keys", "goods"] (defScope (inClass (top 29) 0)) := ⟨rfl, rfl, rfl, by decide +kernel, rfl, by decide +kernel, by decide +kernel⟩
theorem ok_inner {C f fK fG cE TT fI cP fP : Addr} {fd fdI fdP : FuncData} (X : KdN K mg "Inner" "Inner.__init__" (inClass (top 29) 0) C f fd fK fG) (x : ErN K mg "NoPage" "NoPage.__init__" (inClass (top 4) 0) "found" cE TT fI fdI) (y : PgN K mg cP fP fdP) (T : Txt K mg)
    (h1 : OkD P w K mg base "are_page_keys" s_are_page_keys ["thing"] 5 spAPK) (h2 : OkD P w K mg base "are_places" s_are_places ["thing", "many"] 6 (spAG PagePlaces)) :
    FnOk P w K mg base (CXo P w) 8 f fd ["self", "keys", "goods"] (spMake C cE fun dk dg => PagePlaces dg (lenD dk + 1)) := by
  obtain ⟨f1, fd1, D1, G1⟩ := h1
  obtain ⟨f2, fd2, D2, G2⟩ := h2
  have GE : FnOk P w K mg base CX0 1 fI fdI ["self", "found"] (spErr cE "found") := ok_NoPage x
  have GP : FnOk P w K mg base CX0 1 fP fdP ["self", "keys", "goods"] (spPage K C) := ok_page y.fn T X.ins.cl X.n1 X.n2
  refine Fun_okX X.fn sc_inner (fun vs H Q E h => ?_) (fun cdv A outer s H vs Q E hr h => ?_)
  · obtain ⟨_, _, _, _, _, _, _, rfl, _⟩ := h
    rfl
  · obtain ⟨N, x', dx, vk, vg, dk, dg, rfl, hx, Dk, Dg, sk, sg, b1, b2, b3⟩ := h
    refine ⟨_, (pss_cons (ps_if (pt_not (pt_val (pe_call G1 (hr.mono (by decide)) rfl D1.m D1.fn.kp D1.b .nil pass0 (pa_c (pv 1) pa_nil)))) (pss_one (ps_raise outs_def rfl (pe_exc x.f GE (hr.mono (by decide)) rfl x.mC x.bi (pa_c (pv 1) pa_nil)))) pss_nil)
      (pss_cons (ps_if (pt_not (pt_val (pe_call G2 (hr.mono (by decide)) rfl D2.m D2.fn.kp D2.b .nil pass0 (pa_c (pv 2) (pa_c (pe_op op_add (pe_callB call_len_seq rfl T.n_len bt_len (pa_c (pv 1) pa_nil)) pe_int) pa_nil))))) (pss_one (ps_raise outs_def rfl (pe_exc x.f GE (hr.mono (by decide)) rfl x.mC x.bi (pa_c (pv 2) pa_nil)))) pss_nil)
      (pss_one (ps_expr (pe_base y.b GP (hr.mono (by decide)) rfl y.m y.bi pass0 (pa_c (pv 0) (pa_c (pv 1) (pa_c (pv 2) pa_nil)))))))), ?_⟩
    refine ⟨_, rfl, N, vk, dk, rfl, Dk, sk, fun H1 S1 => ⟨_, rfl, ?_⟩⟩
    by_cases ck : PageKeys dk
    · rw [yes_t ck]
      refine iteF ?_
      obtain ⟨tp, a, xs, rfl, ra, la⟩ := dv_of_yes Dk (by obtain ⟨ds, e, _⟩ := ck; rw [e]; exact fun z => nomatch z)
      refine ⟨_, rfl, _, rfl, a, xs, rfl, row_len (S1 _ _ ra), _, _, rfl, rfl, N, vg, dg, _, rfl, Dg.keep (fun a o _ z => S1 a o z) (fun _ z => z), sg, fun H2 S2 => ⟨_, rfl, ?_⟩⟩
      rw [la]
      by_cases cg : PagePlaces dg (lenD dk + 1)
      · rw [yes_t cg]
        refine iteF ?_
        obtain ⟨tp', b, ys, rfl, rb, _⟩ := dv_of_yes Dg (by obtain ⟨ds, e, _⟩ := cg; rw [e]; exact fun z => nomatch z)
        refine ⟨_, rfl, _, rfl, _, rfl, x', dx, a, b, tp, tp', xs, ys, rfl, S2 _ _ (S1 _ _ hx), S2 _ _ (S1 _ _ ra), S2 _ _ (S1 _ _ rb), fun H3 B3 p3 => ?_⟩
        exact b3 ck cg H3 a b tp tp' xs ys (fun c o z n => B3 c o (S2 _ _ (S1 _ _ z)) n) rfl rfl ra rb p3
      · rw [yes_f cg]
        refine iteT (raise_err x (v := vg) (fun R r => ⟨_, rfl, r⟩) fun e H3 he S3 r => b2 ck cg e H3 ((S1.trans S2).free he) (same_but ((S1.trans S2).trans S3)) r)
    · rw [yes_f ck]
      refine iteT (raise_err x (v := vk) (fun R r => ⟨_, rfl, r⟩) fun e H3 he S3 r => b1 ck e H3 (S1.free he) (same_but (S1.trans S3)) r)
theorem sc_ak : FnScope ["self"] ["self"] (defScope (inClass (top 27) 1)) := ⟨rfl, rfl, rfl, by decide +kernel, rfl, by decide +kernel, by decide +kernel⟩
theorem sc_gs : FnScope ["self"] ["self"] (defScope (inClass (top 27) 2)) := ⟨rfl, rfl, rfl, by decide +kernel, rfl, by decide +kernel, by decide +kernel⟩
def spRow (C : Addr) (fst : Bool) : Sp := fun vs H Q _ => ∃ (x dx : Addr) (xs ys : List V), vs = [.ref x] ∧ Pg C dx H x xs ys ∧ ∀ l, H l = none → Q (.ref l) (upd H l (.lst (if fst then xs else ys)))
theorem ok_ak {C fK : Addr} {fd : FuncData} (hf : Fun K "all_keys" "Page.all_keys" (inClass (top 27) 1) fK fd) (T : Txt K mg) (c : Cls K C) (n : NoAttr K C "key_row") : FnOk P w K mg base CX0 1 fK fd ["self"] (spRow C true) := by
  refine hf.ok sc_ak (fun vs H Q E h => ?_) (fun cdv A outer s H vs Q E hr h => ?_)
  · obtain ⟨_, _, _, _, rfl, _⟩ := h
    rfl
  · obtain ⟨x, dx, xs, ys, rfl, ⟨tk, tg, h1, h2, h3⟩, k⟩ := h
    exact ⟨_, (pss_one (ps_ret (pe_callTy call_list_of rfl T.n_list bt_list (pa_c (pe_fld (pv 0) rfl) pa_nil)))), _, rfl, x, C, dx, _, _, rfl, h1, c, n, rfl, tk, xs, rfl, .inr (SqT.of h2), k⟩
theorem ok_gs {C fG : Addr} {fd : FuncData} (hf : Fun K "goods" "Page.goods" (inClass (top 27) 2) fG fd) (T : Txt K mg) (c : Cls K C) (n : NoAttr K C "good_row") : FnOk P w K mg base CX0 1 fG fd ["self"] (spRow C false) := by
  refine hf.ok sc_gs (fun vs H Q E h => ?_) (fun cdv A outer s H vs Q E hr h => ?_)
  · obtain ⟨_, _, _, _, rfl, _⟩ := h
    rfl
  · obtain ⟨x, dx, xs, ys, rfl, ⟨tk, tg, h1, h2, h3⟩, k⟩ := h
    exact ⟨_, (pss_one (ps_ret (pe_callTy call_list_of rfl T.n_list bt_list (pa_c (pe_fld (pv 0) rfl) pa_nil)))), _, rfl, x, C, dx, _, _, rfl, h1, c, n, rfl, tg, ys, rfl, .inr (SqT.of h3), k⟩
end
end K11

set_option Elab.async false
set_option linter.all false
set_option maxRecDepth 100000
set_option maxHeartbeats 2000000
namespace K11
open PySem L2
structure Small (d : PyData) : Prop where
  ok : Okd 150 d
  lo : ∀ i : Int, d = .int i → i.natAbs ≤ 10 ^ 30
  dp : d.depth ≤ 2
theorem log_le {z : Int} {k : Nat} (h : z.natAbs < 2 ^ k) (hk : 0 < k) : z.natAbs.log2 < k := by
  by_cases e : z.natAbs = 0
  · rw [e]; simpa using hk
  · exact (Nat.log2_lt e).mpr h
theorem small_int {i : Int} (h : i.natAbs ≤ 10 ^ 30) : Small (.int i) := by
  have b : i.natAbs < 2 ^ 101 := by omega
  have l := log_le b (by decide)
  refine ⟨⟨?_, ?_, by simp [PyData.depth], ?_⟩, fun j z => by cases z; exact h, by simp [PyData.depth]⟩
  · simp only [PyData.showable, decide_eq_true_eq]; omega
  · simp only [PyData.leavesShort, decide_eq_true_eq]
    have e := int_text_length_le10 (k := 31) (by decide) (a := i) (by omega)
    show (Str.ofString (toString i)).length ≤ 40
    rw [ofString_length]
    omega
  · simp only [PyData.weight]
    split <;> omega
theorem small_bool {b : Bool} : Small (.bool b) := ⟨⟨rfl, rfl, by simp [PyData.depth], by simp [PyData.weight]⟩, (fun _ z => nomatch z), by simp [PyData.depth]⟩
theorem small_none : Small .none := ⟨⟨rfl, rfl, by simp [PyData.depth], by simp [PyData.weight]⟩, (fun _ z => nomatch z), by simp [PyData.depth]⟩
theorem small_e : Small (.str "") := ⟨⟨rfl, by decide +kernel, by simp [PyData.depth], by decide +kernel⟩, (fun _ z => nomatch z), by simp [PyData.depth]⟩
theorem small_0 : Small (.str "0") := ⟨⟨rfl, by decide +kernel, by simp [PyData.depth], by decide +kernel⟩, (fun _ z => nomatch z), by simp [PyData.depth]⟩
theorem small_l : Small (.list [.int 0]) := ⟨⟨by decide +kernel, by decide +kernel, by decide +kernel, by decide +kernel⟩, (fun _ z => nomatch z), by decide +kernel⟩
theorem small_t : Small (.tuple [.int 0]) := ⟨⟨by decide +kernel, by decide +kernel, by decide +kernel, by decide +kernel⟩, (fun _ z => nomatch z), by decide +kernel⟩
theorem small_d : Small (.dict []) := ⟨⟨by decide +kernel, by decide +kernel, by decide +kernel, by decide +kernel⟩, (fun _ z => nomatch z), by decide +kernel⟩
theorem kb_free {H H1 : Hp} {p l : Addr} {m : Nat} (k : KB p H H1) (b : Box H1 p m) (h : H1 l = none) : H l = none ∧ l ≠ p := by
  obtain ⟨xs, e⟩ := b.lst
  have nl : l ≠ p := (ne_of_none e h).symm
  refine ⟨?_, nl⟩
  cases c : H l with
  | none => rfl
  | some o => rw [k l o c nl] at h; cases h
theorem box_updQ {H : Hp} {p q : Addr} {n : Nat} {o : HO} (x : Box H p n) (h : q ≠ p) : Box (upd H q o) p n := by
  obtain ⟨a, b, c, h1, r⟩ := x
  exact ⟨a, b, c, by rw [upd_ne (Ne.symm h)]; exact h1, r⟩
section
variable {P : Program} {w : World} {K : PySem.W.Frag} {mg : Str → Option Value} {base : Heap}
abbrev s__law_keys : Stmt := top 34
theorem sc__law_keys : FnScope ["_law_box_here", "_law_many", "_law_way", "_law_step", "_law_number", "_law_found", "_law_k"] ["_law_box_here", "_law_many"] (defScope s__law_keys) := ⟨rfl, rfl, rfl, by decide +kernel, rfl, by decide +kernel, by decide +kernel⟩
theorem mul7 {m st : Int} (h0 : 0 ≤ m) (h1 : m ≤ 7) (h2 : 0 ≤ st) (h3 : st ≤ 50000000) : 0 ≤ m * st ∧ m * st ≤ 350000000 := by
  refine ⟨Int.mul_nonneg h0 h2, ?_⟩
  have := Int.mul_le_mul h1 h3 h2 (by decide)
  omega
end
end K11

set_option Elab.async false
set_option linter.all false
set_option maxRecDepth 100000
set_option maxHeartbeats 2000000
namespace K11
open PySem L2
theorem Box.same {H H' : Hp} {p : Addr} {n : Nat} (x : Box H p n) (s : Same H H') : Box H' p n := let ⟨a, b, c, h1, r⟩ := x; ⟨a, b, c, s _ _ h1, r⟩
theorem swaps_list {es : List Expr} {p : Pos} {t : Option Expr} {l : Nat} {env : Env} : swapsWith (.List es p) t l env = pure false := by rfl
section
variable {P : Program} {w : World} {K : PySem.W.Frag} {mg : Str → Option Value} {base : Heap}
abbrev s__law_good : Stmt := top 35
theorem sc__law_good : FnScope ["_law_box_here", "_law_way"] ["_law_box_here"] (defScope s__law_good) := ⟨rfl, rfl, rfl, by decide +kernel, rfl, by decide +kernel, by decide +kernel⟩
theorem small_ll : Small (.list [.list [.int 1]]) := ⟨⟨by decide +kernel, by decide +kernel, by decide +kernel, by decide +kernel⟩, (fun _ z => nomatch z), by decide +kernel⟩
def Told (p : Addr) (H : Hp) (v : V) (d : PyData) : Prop := DV (· = p) H v d ∧ Small d
theorem Told.keep {p : Addr} {H H' : Hp} {v : V} {d : PyData} (x : Told p H v d) (k : KB p H H') : Told p H' v d := ⟨x.1.keep (fun a o n z => k a o z n) fun _ z => z, x.2⟩
abbrev s__law_odd : Stmt := top 38
theorem sc__law_odd : FnScope ["_law_box_here", "_law_some"] ["_law_box_here"] (defScope s__law_odd) := ⟨rfl, rfl, rfl, by decide +kernel, rfl, by decide +kernel, by decide +kernel⟩
def spOdd : Sp := fun vs H Q _ => ∃ (p : Addr) (n : Nat), vs = [.ref p] ∧ Box H p n ∧ n ≤ 950000 ∧ ∀ (v : V) (d : PyData) (H' : Hp), DV (fun b => b = p ∨ H b ≠ none) H' v d → Small d → d.weight ≤ 110 → keyV v = false → Box H' p (n + 1) → KB p H H' → Q v H'
theorem ok_odd (hd : ∃ f fd, Dn K mg "_law_odd" "_law_odd" s__law_odd ["_law_box_here"] f fd) (T : Txt K mg) (h1 : OkD P w K mg base "_law_take" s__law_take ["_law_box_here", "_law_many"] 1 spTake) :
    OkD P w K mg base "_law_odd" s__law_odd ["_law_box_here"] 2 spOdd := by
  obtain ⟨f, fd, D⟩ := hd
  obtain ⟨f1, fd1, D_law_take, G_law_take⟩ := h1
  refine ⟨f, fd, D, D.fn.ok sc__law_odd (fun vs H Q E h => ?_) (fun cdv A outer s H vs Q E hr h => ?_)⟩
  · obtain ⟨_, _, rfl, _⟩ := h
    rfl
  · obtain ⟨p, n, rfl, B, hn, k⟩ := h
    have sc := sc__law_odd
    have hP : ∀ (i j : Int) (a b : Nat) (q1 q2 q3 : Pos), PE (cxOf CX0 P w K mg base ["_law_box_here", "_law_some"] "_law_odd" (defScope s__law_odd) f cdv A outer s H E).nox (.BinOp (.Constant (.int i) a q1) .Pow (.Constant (.int j) b q2) q3) _ := fun i j a b q1 q2 q3 => pe_op op_pow pe_int pe_int
    have hN : ∀ (i j : Int) (a b : Nat) (q1 q2 q3 q4 : Pos), PE (cxOf CX0 P w K mg base ["_law_box_here", "_law_some"] "_law_odd" (defScope s__law_odd) f cdv A outer s H E).nox (.UnaryOp .USub (.BinOp (.Constant (.int i) a q1) .Pow (.Constant (.int j) b q2) q3) q4) _ := fun i j a b q1 q2 q3 q4 => pe_un un_neg (pe_op op_pow pe_int pe_int)
    have hS : ∀ (i j l : Int) (a b c : Nat) (q1 q2 q3 q4 q5 : Pos), PE (cxOf CX0 P w K mg base ["_law_box_here", "_law_some"] "_law_odd" (defScope s__law_odd) f cdv A outer s H E).nox (.BinOp (.BinOp (.Constant (.int i) a q1) .Pow (.Constant (.int j) b q2) q3) .Sub (.Constant (.int l) c q5) q4) _ := fun i j l a b c q1 q2 q3 q4 q5 => pe_op op_sub (pe_op op_pow pe_int pe_int) pe_int
    refine' ⟨_, ?h, ?r⟩
    case h =>
      refine' pss_cons ?a ?b
      case b => exact pss_one (ps_ret (pe_ix ix_list (pv 1) (pe_call G_law_take (hr.mono (by decide)) rfl D_law_take.m D_law_take.fn.kp D_law_take.b .nil pass0 (pa_c (pv 0) (pa_c pe_int pa_nil))) (fun _ _ => rfl)))
      case a =>
        with_reducible refine' ps_set (i := 1) ?h0 ?h1 ?h2 ?e swaps_list ?h3
        case h0 => exact sc.nd
        case h1 => rfl
        case h2 => exact Or.inl rfl
        case h3 => exact Or.inr rfl
        case e => with_reducible exact pe_lst (pa_bl (pa_bl (pa_str (pa_str (pa_lst (pa_int pa_nil) (pa_tup (pa_int pa_nil) (pa_dnew (pa_ofE (hP _ _ _ _ _ _ _) rfl (pa_ofE (hN _ _ _ _ _ _ _ _) rfl (pa_ofE (hS _ _ _ _ _ _ _ _ _ _ _) rfl (pa_lst (pa_lst (pa_int pa_nil) pa_nil) (pa_non pa_nil))))))))))))
    case r =>
    refine ⟨(by show 1 ≤ sizeLine; decide), fun l1 n1 => ⟨(by show 1 ≤ sizeLine; decide), fun t1 n2 => ?_⟩⟩
    intro d1 n3
    refine ⟨_, _, rfl, rfl, cp (by decide) (by decide), _, _, rfl, rfl, cp (by decide) (by decide), _, rfl, _, _, rfl, rfl, cp (by decide) (by decide), _, _, rfl, rfl, (by show 1 ≤ sizeLine; decide), fun m1 n5 => ⟨(by show 1 ≤ sizeLine; decide), fun m2 n6 => ⟨(by show 12 ≤ sizeLine; decide), fun l n4 => ?_⟩⟩⟩
    have e9 : (10 : Int) ^ (9 : Int).toNat = 1000000000 := by decide +kernel
    have e30 : (10 : Int) ^ (30 : Int).toNat = 1000000000000000000000000000000 := by decide +kernel
    have S1 : Same H (upd H l1 (.lst [.int 0])) := Same.upd n1
    have S2 : Same (upd H l1 (.lst [.int 0])) (upd (upd H l1 (.lst [.int 0])) t1 (.tup [.int 0])) := Same.upd n2
    have S3 : Same (upd (upd H l1 (.lst [.int 0])) t1 (.tup [.int 0])) (upd (upd (upd H l1 (.lst [.int 0])) t1 (.tup [.int 0])) d1 (.dK [])) := Same.upd n3
    have g1 := S3 _ _ (S2 _ _ (upd_same (H := H) (a := l1) (o := .lst [.int 0])))
    have g2 := S3 _ _ (upd_same (H := upd H l1 (.lst [.int 0])) (a := t1) (o := .tup [.int 0]))
    have g3 := upd_same (H := upd (upd H l1 (.lst [.int 0])) t1 (.tup [.int 0])) (a := d1) (o := .dK [])
    have S := (S1.trans S2).trans S3
    have w2 := S1.free n2
    have w3 := (S1.trans S2).free n3
    generalize upd (upd (upd H l1 (.lst [.int 0])) t1 (.tup [.int 0])) d1 (.dK []) = H3 at *
    have p1 : l1 ≠ p := (kb_free KB.refl B n1).2
    have p2 : t1 ≠ p := (kb_free S1.kb (Box.same B S1) n2).2
    have p3 : d1 ≠ p := (kb_free (S1.trans S2).kb (Box.same B (S1.trans S2)) n3).2
    have B3 : Box H3 p n := Box.same B S
    have T1 := Same.upd (o := .lst [.int 1]) n5
    have T2 := Same.upd (o := .lst [.ref m1]) n6
    have p5 : m1 ≠ p := (kb_free KB.refl B3 n5).2
    have w6 := (S.trans T1).free n6
    have w5 := S.free n5
    have p6 : m2 ≠ p := (kb_free T1.kb (Box.same B3 T1) n6).2
    have g5 := T2 _ _ (upd_same (H := H3) (a := m1) (o := .lst [.int 1]))
    have g6 := upd_same (H := upd H3 m1 (.lst [.int 1])) (a := m2) (o := .lst [.ref m1])
    replace g1 := T2 _ _ (T1 _ _ g1)
    replace g2 := T2 _ _ (T1 _ _ g2)
    replace g3 := T2 _ _ (T1 _ _ g3)
    replace S := S.trans (T1.trans T2)
    replace B3 := Box.same B3 (T1.trans T2)
    generalize upd (upd H3 m1 (.lst [.int 1])) m2 (.lst [.ref m1]) = H5 at *
    clear T1 T2
    have pl : l ≠ p := (kb_free KB.refl B3 n4).2
    rw [e9, e30] at *
    generalize hL : ([V.bl true, .bl false, .str "", .str "0", .ref l1, .ref t1, .ref d1, .int 1000000000, .int (-1000000000), .int (1000000000000000000000000000000 - 1), .ref m2, .non] : List V) = L at *
    have np : ∀ {q : Addr}, q ≠ p → H q = none → ¬ (q = p ∨ H q ≠ none) := fun {q} a b z => z.elim a fun c => c b
    have all : ∀ v ∈ L, ∃ d, DV (fun b => b = p ∨ H b ≠ none) H5 v d ∧ Small d ∧ d.weight ≤ 110 ∧ keyV v = false := by
      rw [← hL]
      intro v hv
      simp only [List.mem_cons, List.not_mem_nil, or_false] at hv
      rcases hv with rfl | rfl | rfl | rfl | rfl | rfl | rfl | rfl | rfl | rfl | rfl | rfl
      · exact ⟨.bool true, .bl _, small_bool, (by first | decide +kernel | simp [PyData.weight]), (by first | rfl | decide +kernel)⟩
      · exact ⟨.bool false, .bl _, small_bool, (by first | decide +kernel | simp [PyData.weight]), (by first | rfl | decide +kernel)⟩
      · exact ⟨.str "", .str _, small_e, (by first | decide +kernel | simp [PyData.weight]), (by first | rfl | decide +kernel)⟩
      · exact ⟨.str "0", .str _, small_0, (by first | decide +kernel | simp [PyData.weight]), (by first | rfl | decide +kernel)⟩
      · exact ⟨.list [.int 0], .lst (np p1 n1) g1 (.cons (.int 0) .nil), small_l, (by first | decide +kernel | simp [PyData.weight]), (by first | rfl | decide +kernel)⟩
      · exact ⟨.tuple [.int 0], .tup (np p2 w2) g2 (.cons (.int 0) .nil), small_t, (by first | decide +kernel | simp [PyData.weight]), (by first | rfl | decide +kernel)⟩
      · exact ⟨.dict [], .dct (np p3 w3) g3 .nil, small_d, (by first | decide +kernel | simp [PyData.weight]), (by first | rfl | decide +kernel)⟩
      · exact ⟨.int 1000000000, .int _, small_int (by decide), (by first | decide +kernel | simp [PyData.weight]), (by first | rfl | decide +kernel)⟩
      · exact ⟨.int (-1000000000), .int _, small_int (by decide), (by first | decide +kernel | simp [PyData.weight]), (by first | rfl | decide +kernel)⟩
      · exact ⟨.int (1000000000000000000000000000000 - 1), .int _, small_int (by decide), (by show (PyData.int _).weight ≤ 110; unfold PyData.weight; decide +kernel), (by first | rfl | decide +kernel)⟩
      · exact ⟨.list [.list [.int 1]], .lst (np p6 w6) g6 (.cons (.lst (np p5 w5) g5 (.cons (.int 1) .nil)) .nil), small_ll, (by first | decide +kernel | simp [PyData.weight]), (by first | rfl | decide +kernel)⟩
      · exact ⟨.none, .non, small_none, (by first | decide +kernel | simp [PyData.weight]), (by first | rfl | decide +kernel)⟩
    have hlen : L.length = 12 := by rw [← hL]; rfl
    refine ⟨_, rfl, _, rfl, p, 12, n, rfl, B3.upd n4, by omega, by decide, by decide, fun r H4 r0 r1 B4 k4 => ?_⟩
    obtain ⟨v, hv, ev⟩ := atI_mem (xs := L) r0 (by rw [hlen]; exact r1)
    obtain ⟨d, hd, sd, wd, kd⟩ := all v hv
    have K4 : KB p H5 H4 := (Same.upd n4).kb.trans k4
    exact ⟨_, _, _, _, rfl, rfl, SqL.of (k4 l _ upd_same pl), (by rw [← hL] at ev; exact ev), k v d H4 (hd.keep (fun a o na z => K4 a o z fun e => na (.inl e)) fun _ z => z) sd wd kd B4 (S.kb.trans K4)⟩
end
end K11

set_option Elab.async false
set_option linter.all false
set_option maxRecDepth 100000
set_option maxHeartbeats 1000000
namespace K11
open PySem L2
def OkX (P : Program) (w : World) (K : PySem.W.Frag) (mg : Str → Option Value) (base : Heap) (x : Str) (st : Stmt) (ps : List Str) (k : Nat) (sp : Sp) : Prop :=
  ∃ f fd, Dn K mg x x st ps f fd ∧ FnOk P w K mg base (CXo P w) k f fd ps sp
section
variable {P : Program} {w : World} {K : PySem.W.Frag} {mg : Str → Option Value} {base : Heap}
abbrev s_need_key : Stmt := top 22
theorem sc_need_key : FnScope ["thing"] ["thing"] (defScope s_need_key) := ⟨rfl, rfl, rfl, by decide +kernel, rfl, by decide +kernel, by decide +kernel⟩
def spNeed (K : PySem.W.Frag) (cE : Addr) : Sp := fun vs H Q E => ∃ v t, vs = [v] ∧ Thg K H v t ∧ (keyV v = true → Q .non H) ∧ (keyV v = false → ∀ e H', H e = none → Same H H' → Err cE "found" v H' e → E (.ref e) none H')
theorem ok_need {cE TT fI : Addr} {fdI : FuncData} (hd : ∃ f fd, Dn K mg "need_key" "need_key" s_need_key ["thing"] f fd) (T : Txt K mg) (x : ErN K mg "NoKey" "NoKey.__init__" (inClass (top 3) 0) "found" cE TT fI fdI) (h1 : OkD P w K mg base "is_key" s_is_key ["thing"] 3 (spIsK K)) :
    OkX P w K mg base "need_key" s_need_key ["thing"] 4 (spNeed K cE) := by
  obtain ⟨f, fd, D⟩ := hd
  obtain ⟨f1, fd1, D1, G1⟩ := h1
  have GE : FnOk P w K mg base CX0 1 fI fdI ["self", "found"] (spErr cE "found") := ok_NoKey x
  refine ⟨f, fd, D, Fun_okX D.fn sc_need_key (fun vs H Q E h => ?_) (fun cdv A outer s H vs Q E hr h => ?_)⟩
  · obtain ⟨_, _, rfl, _⟩ := h
    rfl
  · obtain ⟨v, t, rfl, th, b1, b2⟩ := h
    refine ⟨_, (pss_one (ps_if (pt_not (pt_val (pe_call G1 (hr.mono (by decide)) rfl D1.m D1.fn.kp D1.b .nil pass0 (pa_c (pv 0) pa_nil)))) (pss_one (ps_raise outs_def rfl (pe_exc x.f GE (hr.mono (by decide)) rfl x.mC x.bi (pa_c (pv 0) pa_nil)))) pss_nil)), ?_⟩
    refine ⟨_, rfl, v, t, rfl, th, _, rfl, ?_⟩
    cases c : keyV v with
    | true => exact iteF (b1 c)
    | false => exact iteT (raise_err x (v := v) (fun R r => ⟨_, rfl, r⟩) fun e H' he S r => b2 c e H' he S r)
end
end K11

set_option Elab.async false
set_option linter.all false
set_option maxRecDepth 100000
set_option maxHeartbeats 1000000
namespace K11
open PySem L2
theorem err_on {C : Addr} {fld : Str} {v : V} {H0 H : Hp} {e : Addr} {E : XK} (he : H0 e = none) (S : Same H0 H) (r : Err C fld v H e) (q : ∀ H', Same H0 H' → Err C fld v H' e → E (.ref e) none H') : goOn E (.ref e) none H := by
  obtain ⟨dx, ar, b, fl, hdx, n1, n2⟩ := r
  refine ⟨C, e, some dx, ar, some b, rfl, fl, fun b2 f2 nb => q _ (fun c o z => ?_) ⟨dx, ar, b2, fly_past nb, ?_, n1, ne_of_none hdx f2⟩⟩
  · have c1 : c ≠ e := ne_of_none z he
    have c2 : c ≠ b2 := ne_of_none (S _ _ z) f2
    show upd (upd H b2 _) e _ c = _
    rw [upd_ne c1, upd_ne c2]
    exact S _ _ z
  · show upd (upd H b2 _) e _ dx = _
    rw [upd_ne n1, upd_ne (ne_of_none hdx f2)]
    exact hdx
def Up (ks : List Int) : Prop := ks.Pairwise (· < ·) ∧ ∀ k ∈ ks, -999999999 ≤ k ∧ k ≤ 999999999
theorem dvs_ints {N : Addr → Prop} {H : Hp} : ∀ (ns : List Int), DVs N H (ns.map V.int) (ns.map PyData.int)
  | [] => .nil
  | n :: ns => .cons (.int n) (dvs_ints ns)
theorem up_rises {ks : List Int} (h : Up ks) : RisesD (ks.map PyData.int) := by
  intro j hj
  rw [List.length_map] at hj
  have hm := h.2 ks[j] (List.getElem_mem hj)
  refine ⟨ks[j], by simp [hj], hm.1, hm.2, fun j0 => ⟨ks[j - 1]'(by omega), by simp [show j - 1 < ks.length by omega], ?_⟩⟩
  exact List.pairwise_iff_getElem.mp h.1 (j - 1) j (by omega) hj (by omega)
end K11

set_option Elab.async false
set_option linter.all false
set_option maxRecDepth 100000
set_option maxHeartbeats 1000000
namespace K11
open PySem L2
theorem inV_int {i : Int} {ns : List Int} : inV (.int i) (ns.map V.int) = true ↔ i ∈ ns := by
  unfold inV
  rw [List.any_eq_true]
  constructor
  · rintro ⟨y, hy, e⟩
    obtain ⟨j, hj, rfl⟩ := List.mem_map.mp hy
    have : j = i := by simpa [eqV] using e
    exact this ▸ hj
  · intro h
    exact ⟨.int i, List.mem_map.mpr ⟨i, h, rfl⟩, by simp [eqV]⟩
theorem flat_ints {ns : List Int} : (ns.map V.int).all flatV = true := by
  rw [List.all_eq_true]
  intro y hy
  obtain ⟨j, _, rfl⟩ := List.mem_map.mp hy
  rfl
theorem keys_page {ks : List Int} (h : Up ks) (hz : ks.length ≤ 6) : PageKeys (.tuple (ks.map PyData.int)) := ⟨_, rfl, up_rises h, by rw [List.length_map]; exact hz⟩
theorem goods_page {gs : List Int} {n : Int} (h : ∀ g ∈ gs, -999999999 ≤ g ∧ g ≤ 999999999) (hz : (gs.length : Int) = n) : PageGoods (.tuple (gs.map PyData.int)) n := ⟨_, rfl, by rw [List.length_map]; exact hz, fun x hx => by
  obtain ⟨g, hg, rfl⟩ := List.mem_map.mp hx
  have := h g hg
  show (decide (-999999999 ≤ g) && decide (g ≤ 999999999)) = true
  rw [decide_eq_true this.1, decide_eq_true this.2]
  rfl⟩
section
variable {P : Program} {w : World} {K : PySem.W.Frag} {mg : Str → Option Value} {base : Heap}
structure PgI (C dx : Addr) (H : Hp) (x : Addr) (ks gs : List Int) : Prop where
  pg : Pg C dx H x (ks.map V.int) (gs.map V.int)
  len : gs.length = ks.length
  few : ks.length ≤ 6
  up : Up ks
  ok : ∀ g ∈ gs, -999999999 ≤ g ∧ g ≤ 999999999
theorem PgI.keep {C dx x : Addr} {H H' : Hp} {ks gs : List Int} (p : PgI C dx H x ks gs) (S : Same H H') : PgI C dx H' x ks gs := ⟨(let ⟨tk, tg, a, b, c⟩ := p.pg; ⟨tk, tg, S _ _ a, S _ _ b, S _ _ c⟩), p.len, p.few, p.up, p.ok⟩
end
end K11

set_option Elab.async false
set_option linter.all false
set_option maxRecDepth 100000
set_option maxHeartbeats 1000000
namespace K11
open PySem L2
section
variable {P : Program} {w : World} {K : PySem.W.Frag} {mg : Str → Option Value} {base : Heap}
abbrev s__law_near : Stmt := top 37
theorem sc__law_near : FnScope ["_law_keys_here", "_law_found", "_law_key"] ["_law_keys_here"] (defScope s__law_near) := ⟨rfl, rfl, rfl, by decide +kernel, rfl, by decide +kernel, by decide +kernel⟩
def spNear : Sp := fun vs H Q _ => ∃ (a : Addr) (ks : List Int), vs = [.ref a] ∧ H a = some (.lst (ks.map V.int)) ∧ ks.length ≤ 20 ∧ (∀ k ∈ ks, -999999999 ≤ k ∧ k ≤ 999999999) ∧
  ∀ l H' ns, H l = none → Same H H' → H' l = some (.lst (ns.map V.int)) → (∀ k ∈ ns, -999999999 ≤ k ∧ k ≤ 999999999) → ns ≠ [] → ns.length ≤ 63 → Q (.ref l) H'
theorem ok_near (hd : ∃ f fd, Dn K mg "_law_near" "_law_near" s__law_near ["_law_keys_here"] f fd) (T : Txt K mg) : OkD P w K mg base "_law_near" s__law_near ["_law_keys_here"] 1 spNear := by
  obtain ⟨f, fd, D⟩ := hd
  refine ⟨f, fd, D, D.fn.ok sc__law_near (fun vs H Q E h => ?_) (fun cdv A outer s H vs Q E hr h => ?_)⟩
  · obtain ⟨_, _, rfl, _⟩ := h
    rfl
  · obtain ⟨a, ks, rfl, ha, hz, hb, k⟩ := h
    have sc := sc__law_near
    refine' ⟨_, (pss_cons (ps_set (i := 1) sc.nd rfl (Or.inl rfl) (pe_lst (pa_c (pe_op op_sub pe_int (pe_op op_pow pe_int pe_int)) (pa_c (pe_op op_sub (pe_op op_pow pe_int pe_int) pe_int) (pa_c pe_int pa_nil)))))
    (pss_cons (ps_for PassesOwn.never rfl (pi_list (pv 0)) (pg_name (i := 2) sc.nd rfl (Or.inl rfl))
      (pss_one (ps_expr (pe_bm PySem.F.plainAttrs_list PySem.F.slot_list_extend PySem.F.type_list_extend mt_extend (pv 1) (pa_c (pe_lst (pa_c (pe_op op_sub (pv 2) pe_int) (pa_c (pv 2) (pa_c (pe_op op_add (pv 2) pe_int) pa_nil)))) pa_nil)))))
    (pss_one (ps_ret (pe_comp (blk_mk [] []) rfl (pi_list (pv 1)) (fun _ _ _ _ _ => (PTs.one (pt_chain op_lt op_lt (pe_un un_neg (pe_op op_pow pe_int pe_int)) (pv 0) (pe_op op_pow pe_int pe_int)))) (fun _ _ _ _ _ => (pv 0))))))), ?_⟩
    have e9 : (10 : Int) ^ (9 : Int).toNat = 1000000000 := by decide +kernel
    refine ⟨_, _, rfl, rfl, cp (by decide) (by decide), _, _, rfl, rfl, _, _, rfl, rfl, cp (by decide) (by decide), _, _, rfl, rfl, (by show 3 ≤ sizeLine; decide), fun lf ff => ?_⟩
    have S1 := Same.upd (o := .lst [.int (1 - 10 ^ (9 : Int).toNat), .int (10 ^ (9 : Int).toNat - 1), .int 0]) ff
    have na : a ≠ lf := ne_of_none ha ff
    refine ⟨_, rfl, a, rfl, ⟨_, SqL.of (S1 _ _ ha)⟩, for_list (fun i σ H2 => ∃ o ns, σ = [some (.ref a), some (.ref lf), o] ∧ H2 lf = some (.lst (ns.map V.int)) ∧ ns.length = 3 + 3 * i ∧ (0 : Int) ∈ ns ∧ Same H H2) ⟨none, [1 - 10 ^ (9 : Int).toNat, 10 ^ (9 : Int).toNat - 1, 0], rfl, upd_same, rfl, by simp, S1⟩ (fun i σ H2 _ ⟨_, _, _, _, _, _, S⟩ => SqL.of (S _ _ ha)) ?_ ?_⟩
    · rintro i y σ H2 hi ⟨o, ns, rfl, e2, l2, z2, S2⟩
      have hil : i < ks.length := by
        have := (List.getElem?_eq_some_iff.mp hi).1
        rwa [List.length_map] at this
      rw [List.getElem?_map] at hi
      obtain ⟨k', hk', rfl⟩ := Option.map_eq_some_iff.mp hi
      refine ⟨_, rfl, .inl ⟨rfl, _, SqL.of e2⟩, _, rfl, _, _, rfl, rfl, _, rfl, _, rfl, _, _, rfl, rfl, (by show 3 ≤ sizeLine; decide), fun l3 f3 => ?_⟩
      have S3 := Same.upd (o := .lst [.int (k' - 1), .int k', .int (k' + 1)]) f3
      refine ⟨lf, l3, ns.map V.int, _, rfl, rfl, S3 _ _ e2, upd_same, ?_, ?_⟩
      · rw [List.length_map, l2, show sizeLine = 16777216 by decide]
        show 3 + 3 * i + 3 ≤ _
        omega
      · refine ⟨_, ns ++ [k' - 1, k', k' + 1], rfl, ?_, ?_, List.mem_append_left _ z2, fun c u hc => ?_⟩
        · rw [upd_same, List.map_append]
          rfl
        · rw [List.length_append, l2]
          show 3 + 3 * i + 3 = _
          omega
        · rw [upd_ne (ne_of_none hc ff)]
          exact S3 _ _ (S2 _ _ hc)
    · rintro σ H2 ⟨o, ns, rfl, e2, l2, z2, S2⟩
      rw [List.length_map] at l2
      have ra : RowAt false H2 lf (ns.map V.int) := e2
      dsimp only
      refine tret1 (comp_f (ns.map V.int) keyV (fun y => y) (J := ItB K false lf) (H1 := H2) (fun R r => ⟨_, rfl, lf, rfl, ⟨_, SqL.of e2⟩, r⟩) (it_row ra) ?_ ?_ (by rw [List.length_map]; omega) ?_)
      · intro y hy H3 R S3 r
        obtain ⟨z, _, rfl⟩ := List.mem_map.mp hy
        have r' : R (decide (-999999999 ≤ z) && decide (z ≤ 999999999)) H3 := r H3 (Same.refl _)
        refine ⟨_, _, rfl, rfl, cp (by decide) (by decide), _, rfl, _, rfl, _, _, rfl, rfl, _, rfl, ite2 (fun h1 => ?_) (fun h1 => ?_)⟩
        · have h2 : -(10 : Int) ^ (9 : Int).toNat < z := of_decide_eq_true h1
          rw [e9] at h2
          refine ⟨_, _, rfl, rfl, cp (by decide) (by decide), _, _, rfl, rfl, _, rfl, ?_⟩
          show R (decide (z < (10 : Int) ^ (9 : Int).toNat)) H3
          rw [decide_eq_true (show -999999999 ≤ z by omega), Bool.true_and] at r'
          rw [e9, show decide (z < 1000000000) = decide (z ≤ 999999999) from decide_eq_decide.mpr (by omega)]
          exact r'
        · have h2 : ¬ -(10 : Int) ^ (9 : Int).toNat < z := fun q => h1 (decide_eq_true q)
          rw [e9] at h2
          rw [decide_eq_false (show ¬ -999999999 ≤ z by omega), Bool.false_and] at r'
          exact ⟨_, rfl, r'⟩
      · exact fun y hy _ H3 R S3 r => ⟨_, rfl, r H3 (Same.refl _)⟩
      · intro d H3 f3 S3 e3
        rw [List.filter_map, List.map_map] at e3
        have fd : H d = none := S2.free f3
        refine k d H3 (ns.filter (keyV ∘ V.int)) fd (S2.trans S3) e3 (fun z hz' => ?_) (fun e => ?_) ?_
        · obtain ⟨_, h2⟩ := List.mem_filter.mp hz'
          have h3 : (decide (-999999999 ≤ z) && decide (z ≤ 999999999)) = true := h2
          rw [Bool.and_eq_true] at h3
          exact ⟨of_decide_eq_true h3.1, of_decide_eq_true h3.2⟩
        · have : (0 : Int) ∈ ns.filter (keyV ∘ V.int) := List.mem_filter.mpr ⟨z2, rfl⟩
          rw [e] at this
          cases this
        · have := List.length_filter_le (keyV ∘ V.int) ns
          omega
end
end K11

set_option Elab.async false
set_option linter.all false
set_option maxRecDepth 100000
set_option maxHeartbeats 1000000
namespace K11
open PySem L2
section
variable {K : PySem.W.Frag} {mg : Str → Option Value}
theorem caught_of {th : TH} {C : Addr} {fld : Str} {v : V} {H H' : Hp} {e : Addr} {D : Ends} {n : Nat} (he : H e = none) (S : Same H H') (r : Err C fld v H' e)
    (q : ∀ σ : St, σ.length = n → ∀ dx ar b H2, Same H H2 → H2 e = some (ExO C e (some dx) ar (some b)) → H2 dx = some (XdO dx [(fld, v)]) → th C e (some dx) ar b D σ H2) : caught n th D (.ref e) none H' := by
  obtain ⟨dx, ar, b, fl, hdx, n1, n2⟩ := r
  refine ⟨C, e, some dx, ar, some b, rfl, fl, fun σ hσ b2 f2 nb2 => q σ hσ dx ar b2 _ (fun c o z => ?_) upd_same ?_⟩
  · have c1 : c ≠ e := ne_of_none z he
    have c2 : c ≠ b2 := ne_of_none (S _ _ z) f2
    show upd (upd H' b2 _) e _ c = _
    rw [upd_ne c1, upd_ne c2]
    exact S _ _ z
  · show upd (upd H' b2 _) e _ dx = _
    rw [upd_ne n1, upd_ne (ne_of_none hdx f2)]
    exact hdx
end
end K11

set_option Elab.async false
set_option linter.all false
set_option maxRecDepth 100000
set_option maxHeartbeats 1000000
namespace K11
open PySem L2
def isL : PyData → Bool
  | .list _ => true
  | _ => false
theorem inst_lst {K : PySem.W.Frag} {N : Addr → Prop} {H : Hp} {v : V} {d : PyData} (x : DV N H v d) : PySem.W.kitOne K (tyD d) (.type "list") = some (isL d) := by
  cases x <;> kernel_rfl
theorem okd_mono {n m : Nat} {d : PyData} (x : Okd n d) (h : n ≤ m) : Okd m d := ⟨x.sh, x.lv, x.dp, Nat.le_trans x.wt h⟩
theorem more_row : ∀ (ds : List PyData), PyData.showableAll (ds ++ [.str "more"]) = PyData.showableAll ds ∧ PyData.leavesShortAll 40 (ds ++ [.str "more"]) = PyData.leavesShortAll 40 ds ∧ PyData.depthAll (ds ++ [.str "more"]) = PyData.depthAll ds ∧ PyData.weightAll (ds ++ [.str "more"]) = PyData.weightAll ds + 5
  | [] => ⟨rfl, by decide +kernel, by decide +kernel, by decide +kernel⟩
  | d :: ds => by
    obtain ⟨a, b, c, e⟩ := more_row ds
    refine ⟨?_, ?_, ?_, ?_⟩
    · simp only [List.cons_append, PyData.showableAll, a]
    · simp only [List.cons_append, PyData.leavesShortAll, b]
    · simp only [List.cons_append, PyData.depthAll, c]
    · simp only [List.cons_append, PyData.weightAll, e]
      omega
theorem okd_pair {w : Str} {d : PyData} (hw : (PyData.str w).leavesShort 40 = true) (hl : w.cps.size ≤ 100) (x : Okd 150 d) (dx : d.depth ≤ 2) : Okd 100000 (.list [.str w, d]) := by
  refine ⟨?_, ?_, ?_, ?_⟩
  · simp only [PyData.showable, PyData.showableAll, x.sh, Bool.and_self]
  · simp only [PyData.leavesShort, PyData.leavesShortAll, x.lv, Bool.and_true]
    simpa only [PyData.leavesShort] using hw
  · simp only [PyData.depth, PyData.depthAll]; omega
  · have := x.wt
    simp only [PyData.weight, PyData.weightAll]; omega
theorem okd_pair2 {w : Str} {ds : List PyData} (hw : (PyData.str w).leavesShort 40 = true) (hl : w.cps.size ≤ 100) (x : Okd 150 (.list ds)) (dx : (PyData.list ds).depth ≤ 2) : Okd 100000 (.list [.str w, .list (ds ++ [.str "more"])]) := by
  obtain ⟨a, b, c, e⟩ := more_row ds
  obtain ⟨x1, x2, x3, x4⟩ := x
  simp only [PyData.showable, PyData.leavesShort, PyData.depth, PyData.weight] at x1 x2 x3 x4 dx
  refine ⟨?_, ?_, ?_, ?_⟩
  · simp only [PyData.showable, PyData.showableAll, a, x1, Bool.and_self]
  · simp only [PyData.leavesShort, PyData.leavesShortAll, b, x2, Bool.and_true]
    simpa only [PyData.leavesShort] using hw
  · simp only [PyData.depth, PyData.depthAll, c]; omega
  · simp only [PyData.weight, PyData.weightAll, e]; omega
theorem val_mem {kvs : List (Key × V)} {ks : List Int} (e : kvs.map (·.1) = ks.map Sum.inl) (k : Int) : (valV kvs (Sum.inl k)).isSome = decide (k ∈ ks) := by
  unfold valV
  rw [Option.isSome_map, Bool.eq_iff_iff, List.find?_isSome, decide_eq_true_iff]
  constructor
  · rintro ⟨kv, h1, h2⟩
    have h3 : kv.1 ∈ kvs.map (·.1) := List.mem_map.mpr ⟨kv, h1, rfl⟩
    rw [e, of_decide_eq_true h2] at h3
    obtain ⟨k', h4, h5⟩ := List.mem_map.mp h3
    cases h5
    exact h4
  · intro h
    have h3 : (Sum.inl k : Key) ∈ kvs.map (·.1) := by rw [e]; exact List.mem_map.mpr ⟨k, h, rfl⟩
    obtain ⟨kv, h4, h5⟩ := List.mem_map.mp h3
    exact ⟨kv, h4, decide_eq_true h5⟩
def Knows (kvs : List (Key × V)) (ks gs : List Int) : Prop := (∃ ks0 : List Int, kvs.map (·.1) = ks0.map Sum.inl ∧ ks0.Perm ks) ∧ ∀ (j : Nat) (k g : Int), ks[j]? = some k → gs[j]? = some g → valV kvs (Sum.inl k) = some (.int g)
theorem Up.le {ks : List Int} (h : Up ks) : ks.Pairwise (· ≤ ·) := h.1.imp fun h => Int.le_of_lt h
theorem smalls_row : ∀ {ds : List PyData}, (∀ d ∈ ds, Small d) → PyData.showableAll ds = true ∧ PyData.leavesShortAll 40 ds = true ∧ PyData.depthAll ds ≤ 2 ∧ PyData.weightAll ds ≤ 151 * ds.length
  | [], _ => ⟨rfl, rfl, by simp [PyData.depthAll], by simp [PyData.weightAll]⟩
  | d :: ds, h => by
    obtain ⟨a, b, c, e⟩ := smalls_row fun y hy => h y (List.mem_cons_of_mem _ hy)
    have s := h d (List.mem_cons_self ..)
    refine ⟨?_, ?_, ?_, ?_⟩
    · simp only [PyData.showableAll, s.ok.sh, a, Bool.and_self]
    · simp only [PyData.leavesShortAll, s.ok.lv, b, Bool.and_self]
    · simp only [PyData.depthAll]
      have := s.dp
      omega
    · simp only [PyData.weightAll, List.length_cons]
      have := s.ok.wt
      omega
theorem plain_ints {ns : List Int} : (ns.map V.int).all plainV = true := by
  rw [List.all_eq_true]
  intro y hy
  obtain ⟨j, _, rfl⟩ := List.mem_map.mp hy
  rfl
theorem Up.nd {ks : List Int} (h : Up ks) : ks.Nodup := h.1.imp fun h => Int.ne_of_lt h
theorem knows_none {kvs : List (Key × V)} {ks gs : List Int} (kn : Knows kvs ks gs) (a : Int) : valV kvs (Sum.inl a) = none ↔ a ∉ ks := by
  obtain ⟨ks0, e0, pm⟩ := kn.1
  have v := val_mem e0 a
  rw [← pm.mem_iff]
  constructor
  · intro h m
    rw [h, decide_eq_true m] at v
    cases v
  · intro h
    rw [decide_eq_false h] at v
    exact Option.not_isSome_iff_eq_none.mp (by rw [v]; exact Bool.false_ne_true)
theorem pairs_get : ∀ {ks gs : List Int}, ks.Nodup → ∀ (j : Nat) (k g : Int), ks[j]? = some k → gs[j]? = some g → valV ((ks.map (Sum.inl : Int → Key)).zip (gs.map V.int)) (Sum.inl k) = some (.int g)
  | [], _, _, _, _, _, h, _ => by simp at h
  | _ :: _, [], _, _, _, _, _, h => by simp at h
  | x :: ks, y :: gs, nd, 0, k, g, h1, h2 => by
    cases h1
    cases h2
    exact valV_pos rfl
  | x :: ks, y :: gs, nd, j + 1, k, g, h1, h2 => by
    rw [List.getElem?_cons_succ] at h1 h2
    have ne : x ≠ k := fun e => (List.nodup_cons.mp nd).1 (e ▸ List.mem_of_getElem? h1)
    rw [List.map_cons, List.map_cons, List.zip_cons_cons, valV_neg (by intro e; cases e; exact ne rfl)]
    exact pairs_get (List.nodup_cons.mp nd).2 j k g h1 h2
theorem knows_zip {ks gs : List Int} (nd : ks.Nodup) (hl : gs.length = ks.length) : Knows ((ks.map (Sum.inl : Int → Key)).zip (gs.map V.int)) ks gs := by
  refine ⟨⟨ks, List.map_fst_zip (by simp [hl]), List.Perm.refl _⟩, pairs_get nd⟩
theorem bt_dict : bootBuiltins "dict" = some (.type "dict") := by decide +kernel
theorem bt_zip : bootBuiltins "zip" = some (.type "zip") := by decide +kernel
theorem keysL_page {ks : List Int} (h : Up ks) (hz : ks.length ≤ 6) : PageKeys (.list (ks.map PyData.int)) := ⟨_, rfl, up_rises h, by rw [List.length_map]; exact hz⟩
theorem goodsL_page {gs : List Int} {n : Int} (h : ∀ g ∈ gs, -999999999 ≤ g ∧ g ≤ 999999999) (hz : (gs.length : Int) = n) : PageGoods (.list (gs.map PyData.int)) n := ⟨_, rfl, by rw [List.length_map]; exact hz, fun x hx => by
  obtain ⟨g, hg, rfl⟩ := List.mem_map.mp hx
  have := h g hg
  show (decide (-999999999 ≤ g) && decide (g ≤ 999999999)) = true
  rw [decide_eq_true this.1, decide_eq_true this.2]
  rfl⟩
theorem kv_ints {ks : List Int} : (ks.map (Sum.inl : Int → Key)).map kV = ks.map V.int := by
  rw [List.map_map]
  rfl
theorem inl_nd {ks : List Int} (h : ks.Nodup) : (ks.map (Sum.inl : Int → Key)).Nodup := by
  refine List.Pairwise.map _ (fun a b ne e => ?_) h
  cases e
  exact ne rfl
end K11

set_option Elab.async false
set_option linter.all false
set_option maxRecDepth 100000
set_option maxHeartbeats 2000000
namespace K11
open PySem L2
section
variable {P : Program} {w : World} {K : PySem.W.Frag} {mg : Str → Option Value} {base : Heap}
def spKeysU : Sp := fun vs H Q _ => ∃ (p : Addr) (m : Int) (n : Nat), vs = [.ref p, .int m] ∧ Box H p n ∧ n ≤ 950000 ∧ 0 ≤ m ∧ m ≤ 6 ∧
  ∀ (l : Addr) (H' : Hp) (ns : List Int), H l = none → l ≠ p → H' l = some (.lst (ns.map V.int)) → (ns.length : Int) = m → Up ns → Box H' p (n + 10) → KB p H H' → Q (.ref l) H'
theorem ok_keysU (hd : ∃ f fd, Dn K mg "_law_keys" "_law_keys" s__law_keys ["_law_box_here", "_law_many"] f fd) (T : Txt K mg) (h1 : OkD P w K mg base "_law_take" s__law_take ["_law_box_here", "_law_many"] 1 spTake) :
    OkD P w K mg base "_law_keys" s__law_keys ["_law_box_here", "_law_many"] 3 spKeysU := by
  obtain ⟨f, fd, D⟩ := hd
  obtain ⟨f1, fd1, D_law_take, G_law_take⟩ := h1
  refine ⟨f, fd, D, D.fn.ok sc__law_keys (fun vs H Q E h => ?_) (fun cdv A outer s H vs Q E hr h => ?_)⟩
  · obtain ⟨_, _, _, rfl, _⟩ := h
    rfl
  · obtain ⟨p, m, n, rfl, B, hn, m0, m1, k⟩ := h
    have sc := sc__law_keys
    refine ⟨_, (pss_cons (ps_set (i := 2) sc.nd rfl (Or.inl rfl) (pe_call G_law_take (hr.mono (by decide)) rfl D_law_take.m D_law_take.fn.kp D_law_take.b .nil pass0 (pa_c (pv 0) (pa_c pe_int pa_nil))))
    (pss_cons (ps_set (i := 3) sc.nd rfl (Or.inl rfl) (pe_ix ix_list (pe_lst (pa_c pe_int (pa_c pe_int (pa_c pe_int (pa_c (pe_op op_mul pe_int (pe_op op_pow pe_int pe_int)) pa_nil))))) (pe_call G_law_take (hr.mono (by decide)) rfl D_law_take.m D_law_take.fn.kp D_law_take.b .nil pass0 (pa_c (pv 0) (pa_c pe_int pa_nil))) (fun _ _ => rfl)))
    (pss_cons (ps_set (i := 4) sc.nd rfl (Or.inl rfl) (pe_op op_sub (pe_call G_law_take (hr.mono (by decide)) rfl D_law_take.m D_law_take.fn.kp D_law_take.b .nil pass0 (pa_c (pv 0) (pa_c pe_int pa_nil))) pe_int))
    (pss_cons (ps_if (pt_cmpR op_eq (pv 2) pe_int (nomark _))
      (pss_one (ps_set (i := 4) sc.nd rfl (Or.inl rfl) (pe_un un_neg (pe_op op_pow pe_int pe_int))))
      pss_nil)
    (pss_cons (ps_if (pt_cmpR op_eq (pv 2) pe_int (nomark _))
      (pss_one (ps_set (i := 4) sc.nd rfl (Or.inl rfl) (pe_op op_sub (pe_op op_sub (pe_op op_pow pe_int pe_int) pe_int) (pe_op op_mul (pv 1) (pv 3)))))
      pss_nil)
    (pss_cons (ps_set (i := 5) sc.nd rfl (Or.inl rfl) (pe_lst pa_nil))
    (pss_cons (ps_for PassesOwn.never rfl (pi_range1 rfl T.n_range (pa_c (pv 1) pa_nil)) (pg_name (i := 6) sc.nd rfl (Or.inl rfl))
      (pss_cons (ps_set (i := 4) sc.nd rfl (Or.inl rfl) (pe_op op_add (pe_op op_add (pv 4) pe_int) (pe_call G_law_take (hr.mono (by decide)) rfl D_law_take.m D_law_take.fn.kp D_law_take.b .nil pass0 (pa_c (pv 0) (pa_c (pv 3) pa_nil)))))
    (pss_one (ps_expr (pe_bm PySem.F.plainAttrs_list PySem.F.slot_list_append PySem.F.type_list_append mt_append (pv 5) (pa_c (pv 4) pa_nil))))))
    (pss_one (ps_ret (pv 5)))))))))), ?_⟩
    refine ⟨_, rfl, p, 4, n, rfl, B, by omega, by decide, by decide, fun way H1 a0 a1 B1 k1 => ?_⟩
    refine ⟨_, _, rfl, rfl, cp (by decide) (by decide), _, _, rfl, rfl, .inl ⟨by decide, by decide⟩, (by show 4 ≤ sizeLine; decide), fun l0 f0 => ?_⟩
    refine ⟨_, rfl, p, 4, n + 1, rfl, B1.upd f0, by omega, by decide, by decide, fun r2 H2 b0 b1 B2 k2 => ?_⟩
    obtain ⟨st, hst, e⟩ := atI_ints (ns := [1, 2, 5, 5 * 10 ^ (7 : Int).toNat]) (r := r2) b0 (by show r2 < 4; exact b1)
    have s0 : 0 < st ∧ st ≤ 50000000 := by
      have e7 : (10 : Int) ^ (7 : Int).toNat = 10000000 := by decide +kernel
      rw [e7] at hst
      simp only [List.mem_cons, List.not_mem_nil, or_false] at hst
      omega
    refine ⟨_, _, _, _, rfl, rfl, SqL.of (k2 l0 _ upd_same (B1.ne (H1 := H1) f0)), e, ?_⟩
    refine ⟨_, rfl, p, 60, n + 2, rfl, B2, by omega, by decide, by decide, fun r3 H3 c0 c1 B3 k3 => ⟨_, _, rfl, rfl, ?_⟩⟩
    have K3 : KB p H H3 := ((k1.updN f0).trans k2).trans k3
    have e9 : (10 : Int) ^ (9 : Int).toNat = 1000000000 := by decide +kernel
    have ms := mul7 m0 (by omega) (Int.le_of_lt s0.1) s0.2
    refine ⟨_, rfl, rfl, _, rfl, ite2 (fun _ => ⟨_, _, rfl, rfl, cp (by decide) (by decide), _, rfl, _, rfl, rfl, _, rfl, ite2 (fun _ => ⟨_, _, rfl, rfl, cp (by decide) (by decide), _, _, rfl, rfl, _, rfl, _, rfl, _, _, rfl, rfl, .inl ⟨by omega, by omega⟩, _, _, rfl, rfl, ?_⟩) (fun _ => ?_)⟩) (fun _ => ⟨_, rfl, rfl, _, rfl, ite2 (fun _ => ⟨_, _, rfl, rfl, cp (by decide) (by decide), _, _, rfl, rfl, _, rfl, _, rfl, _, _, rfl, rfl, .inl ⟨by omega, by omega⟩, _, _, rfl, rfl, ?_⟩) (fun _ => ?_)⟩)⟩
    all_goals (
      refine ⟨(by show 0 ≤ sizeLine; decide), fun l fl => ?_⟩
      have nl : l ≠ p := B3.ne (H1 := H3) fl
      have fl' : H l = none := (kb_free K3 B3 fl).1
      refine ⟨_, rfl, m, rfl, by omega, by omega, for_range (fun i σ H4 => ∃ (x : Int) (o : Option V) (ns : List Int) (xs : Int), σ = [some (.ref p), some (.int m), some (.int way), some (.int st), some (.int x), some (.ref l), o] ∧ -1000000000 ≤ xs ∧ xs + m * st ≤ 999999999 ∧ xs ≤ x ∧ x ≤ xs + (i : Int) * st ∧ (∀ z ∈ ns, xs < z ∧ z ≤ x) ∧ ns.Pairwise (· < ·) ∧ Box H4 p (n + 3 + i) ∧ KB p H H4 ∧ ns.length = i ∧ H4 l = some (.lst (ns.map V.int))) ⟨_, none, [], _, rfl, by omega, by omega, Int.le_refl _, by omega, (fun z h => absurd h (by simp)), List.Pairwise.nil, B3.upd fl, fun b u z nb => by rw [upd_ne (fun e => by rw [e, fl'] at z; cases z)]; exact K3 b u z nb, rfl, upd_same⟩ ?_ ?_⟩
      · rintro i σ H4 hi ⟨x, o, ns, xs, rfl, x0, x1, x2, x3, z4, w4, B4, k4, l4, e4⟩
        refine ⟨_, rfl, _, _, rfl, rfl, _, rfl, _, rfl, p, st, n + 3 + i, rfl, B4, by omega, s0.1, by omega, fun r5 H5 d0 d1 B5 k5 => ⟨_, _, rfl, rfl, ?_⟩⟩
        have e5 : H5 l = some (.lst (ns.map V.int)) := k5 l _ e4 nl
        have mul : ((i + 1 : Nat) : Int) * st = (i : Int) * st + st := by rw [show ((i + 1 : Nat) : Int) = (i : Int) + 1 by omega, Int.add_mul, Int.one_mul]
        refine ⟨_, rfl, .inl ⟨rfl, _, SqL.of e5⟩, _, rfl, l, _, _, rfl, rfl, e5, (by rw [List.length_map]; have := big1000; omega), _, _, ns ++ [x + 1 + r5], xs, rfl, x0, x1, by omega, by rw [mul]; omega, ?_, ?_, ?_, ?_, by simp [l4], by rw [upd_same]; simp⟩
        · intro z hz
          rcases List.mem_append.mp hz with hz | hz
          · have := z4 z hz; omega
          · rw [List.mem_singleton.mp hz]; omega
        · rw [List.pairwise_append]
          refine ⟨w4, List.pairwise_singleton .., fun a ha b hb => ?_⟩
          have := z4 a ha
          rw [List.mem_singleton.mp hb]
          omega
        · exact (box_updQ B5 nl).mono (by omega)
        · exact fun b u z nb => by rw [upd_ne (fun e => by rw [e, fl'] at z; cases z)]; exact k5 _ _ (k4 b u z nb) nb
      · rintro σ H4 ⟨x, o, ns, xs, rfl, x0, x1, x2, x3, z4, w4, B4, k4, l4, e4⟩
        have em : ((m.toNat : Nat) : Int) * st = m * st := by rw [Int.toNat_of_nonneg m0]
        rw [em] at x3
        exact ⟨_, rfl, k l H4 ns fl' nl e4 (by omega) ⟨w4, fun z hz => by have := z4 z hz; omega⟩ (B4.mono (by omega)) k4⟩)
end
end K11

set_option Elab.async false
set_option linter.all false
set_option maxRecDepth 100000
set_option maxHeartbeats 1000000
namespace K11
open PySem L2
theorem passX {X : Cx} : Passes (CXo X.prog X.w) X E0 := fun pins σ H s e s' I h => by
  obtain ⟨v, H', I', rv, q⟩ := I.after h
  exact q.2.elim
theorem kb_back {H H1 : Hp} {p l : Addr} (k : KB p H H1) (h : H1 l = none) (n : l ≠ p) : H l = none := by
  cases c : H l with
  | none => rfl
  | some o => rw [k l o c n] at h; cases h
theorem tseq1 {t u : TS} {D : Ends} {σ : St} {H : Hp} (h : t { D with nx := fun σ' H' => u D σ' H' } σ H) : tSeq t u D σ H := h
theorem both2 {tA : TT} {ta tb : TE} {σ : St} {H : Hp} {Q : VK} (R : V → Hp → Prop) (mk : ∀ Q : VK, (∀ v H', R v H' → Q v H') → tIf tA ta tb σ H Q) (q : ∀ v H', R v H' → Q v H') : tIf tA ta tb σ H Q := mk Q q
theorem seq2 {t u : TS} {D : Ends} {σ : St} {H : Hp} (R : St → Hp → Prop) (mk : ∀ N : St → Hp → Prop, (∀ σ' H', R σ' H' → N σ' H') → t { D with nx := N } σ H) (q : ∀ σ' H', R σ' H' → u D σ' H') : tSeq t u D σ H := tseq1 (mk _ q)
theorem eqPs_ints {xs ys : List Int} : eqPs (xs.map V.int) (ys.map V.int) = decide (xs = ys) := by
  induction xs generalizing ys with
  | nil => cases ys <;> rfl
  | cons x xs ih =>
    cases ys with
    | nil => rfl
    | cons y ys =>
      have h := ih (ys := ys)
      unfold eqPs at h ⊢
      simp only [List.map_cons, List.length_cons, List.zipWith_cons_cons, List.all_cons, id_eq, List.length_map, Nat.add_right_cancel_iff, List.cons.injEq] at h ⊢
      have e : eqP (V.int x) (V.int y) = decide (x = y) := by
        unfold eqP eqV
        by_cases c : x = y
        · simp [c]
        · have c' : ¬ y = x := fun z => c z.symm
          simp [c]
      rw [e]
      by_cases c : x = y
      · simp only [c, decide_true, Bool.true_and, true_and]
        exact h
      · simp [c]
theorem okP_ints {xs ys : List Int} : ∀ (j : Nat) (x y : V), (xs.map V.int)[j]? = some x → (ys.map V.int)[j]? = some y → okP x y := fun j x y hx hy => by
  rw [List.getElem?_map] at hx hy
  obtain ⟨a, _, rfl⟩ := Option.map_eq_some_iff.mp hx
  obtain ⟨b, _, rfl⟩ := Option.map_eq_some_iff.mp hy
  exact .inr ⟨rfl, rfl⟩
inductive Prs (H : Hp) : List V → List (Int × Int) → Prop
  | nil : Prs H [] []
  | cons {t : Addr} {k g : Int} {vs : List V} {ps : List (Int × Int)} : H t = some (.tup [.int k, .int g]) → Prs H vs ps → Prs H (.ref t :: vs) ((k, g) :: ps)
theorem Prs.keep {H H' : Hp} (s : Same H H') : ∀ {vs : List V} {ps : List (Int × Int)}, Prs H vs ps → Prs H' vs ps
  | _, _, .nil => .nil
  | _, _, .cons e r => .cons (s _ _ e) (Prs.keep s r)
theorem Prs.upd {H : Hp} {l : Addr} {xs ys : List V} (h : H l = some (.lst xs)) : ∀ {vs : List V} {ps : List (Int × Int)}, Prs H vs ps → Prs (upd H l (.lst ys)) vs ps
  | _, _, .nil => .nil
  | _, _, .cons e r => .cons (by rw [upd_ne (ne_of e h (by intro z; cases z))]; exact e) (Prs.upd h r)
theorem Prs.snoc {H : Hp} {t : Addr} {k g : Int} (e : H t = some (.tup [.int k, .int g])) : ∀ {vs : List V} {ps : List (Int × Int)}, Prs H vs ps → Prs H (vs ++ [.ref t]) (ps ++ [(k, g)])
  | _, _, .nil => .cons e .nil
  | _, _, .cons a r => .cons a (Prs.snoc e r)
theorem Prs.length {H : Hp} : ∀ {vs : List V} {ps : List (Int × Int)}, Prs H vs ps → vs.length = ps.length
  | _, _, .nil => rfl
  | _, _, .cons _ r => by rw [List.length_cons, List.length_cons, r.length]
def prD (p : Int × Int) : PyData := .tuple [.int p.1, .int p.2]
theorem Prs.dvs {H : Hp} : ∀ {vs : List V} {ps : List (Int × Int)}, Prs H vs ps → DVs (fun _ => False) H vs (ps.map prD)
  | _, _, .nil => .nil
  | _, _, .cons e r => .cons (.tup (fun z => z) e (.cons (.int _) (.cons (.int _) .nil))) r.dvs
def endOk (v : V) : Bool := match v with | .non => true | v => keyV v
def inS (lo hi : V) (k : Int) : Bool := (match lo with | .int i => decide (i ≤ k) | _ => true) && (match hi with | .int i => decide (k < i) | _ => true)
section
variable {P : Program} {w : World} {K : PySem.W.Frag} {mg : Str → Option Value} {base : Heap}
theorem sc_many : FnScope ["self"] ["self"] (defScope (inClass (top 27) 3)) := ⟨rfl, rfl, rfl, by decide +kernel, rfl, by decide +kernel, by decide +kernel⟩
def spMany (C : Addr) : Sp := fun vs H Q _ => ∃ (x dx : Addr) (xs ys : List V), vs = [.ref x] ∧ Pg C dx H x xs ys ∧ Q (.int xs.length) H
theorem ok_many {C fK : Addr} {fd : FuncData} (hf : Fun K "many" "Page.many" (inClass (top 27) 3) fK fd) (T : Txt K mg) (c : Cls K C) (n : NoAttr K C "key_row") : FnOk P w K mg base CX0 1 fK fd ["self"] (spMany C) := by
  refine hf.ok sc_many (fun vs H Q E h => ?_) (fun cdv A outer s H vs Q E hr h => ?_)
  · obtain ⟨_, _, _, _, rfl, _⟩ := h
    rfl
  · obtain ⟨x, dx, xs, ys, rfl, ⟨tk, tg, h1, h2, h3⟩, k⟩ := h
    exact ⟨_, (pss_one (ps_ret (pe_callB call_len_seq rfl T.n_len bt_len (pa_c (pe_fld (pv 0) rfl) pa_nil)))), _, rfl, x, C, dx, _, _, rfl, h1, c, n, rfl, tk, xs, rfl, .inr (SqT.of h2), k⟩
theorem sc_good : FnScope ["self", "key"] ["self", "key"] (defScope (inClass (top 28) 1)) := ⟨rfl, rfl, rfl, by decide +kernel, rfl, by decide +kernel, by decide +kernel⟩
def spLGood (K : PySem.W.Frag) (C cK : Addr) : Sp := fun vs H Q E => ∃ (x dx : Addr) (v : V) (t : Value) (ks gs : List Int), vs = [.ref x, v] ∧ PgI C dx H x ks gs ∧ Thg K H v t ∧
  (keyV v = false → ∀ e H', H e = none → Same H H' → Err cK "found" v H' e → E (.ref e) none H') ∧
  (∀ k : Int, v = .int k → keyV v = true → k ∉ ks → Q .non H) ∧ (∀ (k g : Int) (j : Nat), v = .int k → ks[j]? = some k → gs[j]? = some g → Q (.int g) H)
theorem ok_lgood {C f fK fG cK fW : Addr} {fd fdW : FuncData} (hf : Fun K "good" "Leaf.good" (inClass (top 28) 1) fW fdW) (T : Txt K mg) (X : KdN K mg "Leaf" "Leaf.__init__" (inClass (top 28) 0) C f fd fK fG)
    (h1 : OkX P w K mg base "need_key" s_need_key ["thing"] 4 (spNeed K cK)) : FnOk P w K mg base (CXo P w) 6 fW fdW ["self", "key"] (spLGood K C cK) := by
  obtain ⟨f1, fd1, D1, G1⟩ := h1
  refine Fun_okX hf sc_good (fun vs H Q E h => ?_) (fun cdv A outer s H vs Q E hr h => ?_)
  · obtain ⟨_, _, _, _, _, _, rfl, _⟩ := h
    rfl
  · obtain ⟨x, dx, v, t, ks, gs, rfl, pg, th, b1, b2, b3⟩ := h
    have sc := sc_good
    refine' ⟨_, pss_cons (ps_expr (pe_call G1 (hr.mono (by decide)) rfl D1.m D1.fn.kp D1.b .nil outs_def.pass (pa_c (pv 1) pa_nil)))
      (pss_cons (ps_if (pt_cmpR op_notIn_seq (pv 1) (pe_fld (pv 0) rfl) rfl) (pss_one (ps_ret pe_non)) pss_nil)
      (pss_one (ps_ret (pe_ix ix_tup (pe_fld (pv 0) rfl) (pe_bmT PySem.F.slot_tuple_index PySem.F.type_tuple_index mt_indexT (pe_fld (pv 0) rfl) (pa_c (pv 1) pa_nil)) (fun _ _ => rfl))))), ?_⟩
    obtain ⟨tk, tg, hx, hk, hg⟩ := pg.pg
    refine ⟨_, rfl, v, t, rfl, th, fun c1 => ?_, fun c1 e H' he S r => err_on he S r fun H2 S2 r2 => b1 c1 e H2 he S2 r2⟩
    obtain ⟨k, rfl, _, _⟩ := keyV_int c1
    refine ⟨_, rfl, _, rfl, x, C, dx, _, _, rfl, hx, X.ins.cl, X.n1, rfl, tk, _, rfl, .inr (SqT.of hk), rfl, flat_ints, _, rfl, ?_⟩
    by_cases cm : k ∈ ks
    · refine iteE (c := false) (by show (!inV (.int k) (ks.map V.int)) = false; rw [inV_int.mpr cm]; rfl) (iteF ?_)
      obtain ⟨j, hj⟩ := List.getElem?_of_mem cm
      have jl : j < ks.length := (List.getElem?_eq_some_iff.mp hj).1
      have jg : j < gs.length := by rw [pg.len]; exact jl
      have hjg : gs[j]? = some gs[j] := List.getElem?_eq_getElem jg
      refine ⟨_, rfl, x, C, dx, _, _, rfl, hx, X.ins.cl, X.n2, rfl, _, rfl, x, C, dx, _, _, rfl, hx, X.ins.cl, X.n1, rfl, ⟨tk, _, rfl, hk⟩, _, rfl, tk, _, .int k, j, rfl, rfl, hk, rfl, flat_ints, ⟨.int k, by rw [List.getElem?_map, hj]; rfl, by simp [eqV]⟩, fun m z hm hz => ?_, ?_⟩
      · rw [List.getElem?_map] at hz
        obtain ⟨k', h1, rfl⟩ := Option.map_eq_some_iff.mp hz
        obtain ⟨m1, m2⟩ := List.getElem?_eq_some_iff.mp h1
        obtain ⟨_, j2⟩ := List.getElem?_eq_some_iff.mp hj
        have := List.pairwise_iff_getElem.mp pg.up.1 m j m1 jl hm
        rw [m2, j2] at this
        have ne : k' ≠ k := by omega
        simp [eqV, ne]
      · exact ⟨tg, _, _, _, rfl, rfl, SqT.of hg, atI_nat (by rw [List.getElem?_map, hjg]; rfl), b3 k _ j rfl hj hjg⟩
    · exact iteE (c := true) (by show (!inV (.int k) (ks.map V.int)) = true; cases hh : inV (.int k) (ks.map V.int) with | false => rfl | true => exact absurd (inV_int.mp hh) cm) (iteT (b2 k rfl c1 cm))
abbrev s_in_stretch : Stmt := top 17
theorem sc_in_stretch : FnScope ["key", "low", "high"] ["key", "low", "high"] (defScope s_in_stretch) := ⟨rfl, rfl, rfl, by decide +kernel, rfl, by decide +kernel, by decide +kernel⟩
def spInS : Sp := fun vs H Q _ => ∃ (k : Int) (lo hi : V), vs = [.int k, lo, hi] ∧ endOk lo = true ∧ endOk hi = true ∧ Q (.bl (inS lo hi k)) H
theorem endOk_two {v : V} (h : endOk v = true) : v = .non ∨ ∃ i : Int, v = .int i := by
  cases v with
  | non => exact .inl rfl
  | int i => exact .inr ⟨i, rfl⟩
  | _ => cases h
theorem ok_ins (hd : ∃ f fd, Dn K mg "in_stretch" "in_stretch" s_in_stretch ["key", "low", "high"] f fd) (T : Txt K mg) : OkD P w K mg base "in_stretch" s_in_stretch ["key", "low", "high"] 1 spInS := by
  obtain ⟨f, fd, D⟩ := hd
  refine ⟨f, fd, D, D.fn.ok sc_in_stretch (fun vs H Q E h => ?_) (fun cdv A outer s H vs Q E hr h => ?_)⟩
  · obtain ⟨_, _, _, rfl, _⟩ := h
    rfl
  · obtain ⟨k, lo, hi, rfl, h1, h2, q⟩ := h
    refine ⟨_, (pss_one (ps_ret (pe_and (pe_or (pe_cmpR op_isN (pv 1) pe_non (nomark _)) (pe_one (pe_cmpR op_le (pv 1) (pv 0) (nomark _)))) (pe_one (pe_or (pe_cmpR op_isN (pv 2) pe_non (nomark _)) (pe_one (pe_cmpR op_lt (pv 0) (pv 2) (nomark _)))))))), ?_⟩
    rcases endOk_two h1 with rfl | ⟨i, rfl⟩ <;> rcases endOk_two h2 with rfl | ⟨j, rfl⟩
    · exact ⟨_, rfl, rfl, _, rfl, iteT ⟨_, rfl, iteT ⟨_, rfl, rfl, _, rfl, iteT q⟩⟩⟩
    · exact ⟨_, rfl, rfl, _, rfl, iteT ⟨_, rfl, iteT ⟨_, rfl, rfl, _, rfl, iteF ⟨_, rfl, _, rfl, _, _, rfl, rfl, q⟩⟩⟩⟩
    · refine ⟨_, rfl, rfl, _, rfl, iteF ⟨_, rfl, _, rfl, _, _, rfl, rfl, _, rfl, ite2 (fun c => ⟨_, rfl, rfl, _, rfl, iteT ?_⟩) (fun c => ?_)⟩⟩
      · have q' : Q (.bl (decide (i ≤ k) && true)) H := q
        rw [show decide (i ≤ k) = true from c] at q'
        exact q'
      · have q' : Q (.bl (decide (i ≤ k) && true)) H := q
        rw [show decide (i ≤ k) = false from Bool.eq_false_iff.mpr c] at q'
        exact q'
    · refine ⟨_, rfl, rfl, _, rfl, iteF ⟨_, rfl, _, rfl, _, _, rfl, rfl, _, rfl, ite2 (fun c => ⟨_, rfl, rfl, _, rfl, iteF ⟨_, rfl, _, rfl, _, _, rfl, rfl, ?_⟩⟩) (fun c => ?_)⟩⟩
      · have q' : Q (.bl (decide (i ≤ k) && decide (k < j))) H := q
        rw [show decide (i ≤ k) = true from c, Bool.true_and] at q'
        exact q'
      · have q' : Q (.bl (decide (i ≤ k) && decide (k < j))) H := q
        rw [show decide (i ≤ k) = false from Bool.eq_false_iff.mpr c] at q'
        exact q'
end
end K11

set_option Elab.async false
set_option linter.all false
set_option maxRecDepth 100000
set_option maxHeartbeats 1000000
namespace K11
open PySem L2
theorem comp_prs {K : PySem.W.Frag} {js : List Nat} {wi : TI} {tc : TT} {te : TE} {σ : St} {H : Hp} {Q : VK} {tp : Bool} {a b : Addr} {ks gs : List Int} (p : Int → Bool) (hw : ∀ R : It → Hp → Prop, R (Itz K tp a b) H → wi σ H R) (ha : RowAt tp H a (ks.map V.int)) (hb : RowAt tp H b (gs.map V.int)) (hl : gs.length = ks.length) (hz : ks.length ≤ 100)
    (hc : ∀ (k g : Int) H2 (R : Bool → Hp → Prop), Same H H2 → R (p k) H2 → tc (blkSt2 js σ (some (.int k)) (some (.int g))) H2 R)
    (he : ∀ (k g : Int) H2 (R : VK), Same H H2 → (∀ t, H2 t = none → R (.ref t) (upd H2 t (.tup [.int k, .int g]))) → te (blkSt2 js σ (some (.int k)) (some (.int g))) H2 R)
    (q : ∀ d H2 vs, H d = none → Same H H2 → H2 d = some (.lst vs) → Prs H2 vs ((ks.zip gs).filter fun x => p x.1) → Q (.ref d) H2) : tComp2 K js wi tc te σ H Q := by
  refine hw _ fun D hD => ?_
  have lz : (ks.zip gs).length = ks.length := by rw [List.length_zip, hl, Nat.min_self]
  refine ⟨fun i m H2 => i + m = ks.length ∧ Same H H2 ∧ ∃ vs, H2 D = some (.lst vs) ∧ Prs H2 vs (((ks.zip gs).take i).filter fun x => p x.1), ⟨ks.length, by omega, Same.upd hD, [], upd_same, .nil⟩, ?_⟩
  rintro i m H2 ⟨hm, S2, vs, e2, r2⟩
  have ra : RowAt tp H2 a (ks.map V.int) := S2 _ _ ha
  have rb : RowAt tp H2 b (gs.map V.int) := S2 _ _ hb
  by_cases hi : i < ks.length
  · have hi' : i < gs.length := by omega
    refine .inr ⟨⟨_, _, .int ks[i], .int gs[i], ra.sq, rb.sq, by simp [hi], by simp [hi']⟩, ?_⟩
    rintro v H3 ⟨t, x, y, rfl, ft, hy, rfl⟩
    obtain ⟨ex, ey⟩ := hy _ _ ra.sq rb.sq
    rw [List.getElem?_map, List.getElem?_eq_getElem hi] at ex
    rw [List.getElem?_map, List.getElem?_eq_getElem hi'] at ey
    cases ex
    cases ey
    have S3 := Same.upd (o := .tup [.int ks[i], .int gs[i]]) ft
    have tk : (ks.zip gs).take (i + 1) = (ks.zip gs).take i ++ [(ks[i], gs[i])] := by
      rw [List.take_add_one, List.getElem?_eq_getElem (by omega)]
      simp
    have lv := r2.length
    have lf : (((ks.zip gs).take i).filter fun x => p x.1).length ≤ 100 := Nat.le_trans (List.length_filter_le _ _) (by rw [List.length_take]; omega)
    refine ⟨t, _, _, rfl, SqT.of upd_same, hc _ _ _ _ (S2.trans S3) ?_⟩
    cases hp : p ks[i] with
    | false => exact iteF ⟨m - 1, by omega, by omega, S2.trans S3, vs, S3 _ _ e2, by rw [tk, List.filter_append]; simpa [hp] using r2.keep S3⟩
    | true =>
      refine iteT (he _ _ _ _ (S2.trans S3) fun t' ft' => ?_)
      have S4 := Same.upd (o := .tup [.int ks[i], .int gs[i]]) ft'
      have e4 := S4 _ _ (S3 _ _ e2)
      refine ⟨vs, e4, by have := big1000; omega, m - 1, by omega, by omega, fun c o z => ?_, vs ++ [.ref t'], upd_same, ?_⟩
      · rw [upd_ne (ne_of_none z hD)]
        exact S4 _ _ (S3 _ _ (S2 _ _ z))
      · rw [tk, List.filter_append]
        have r4 := ((r2.keep (S3.trans S4)).snoc (t := t') (k := ks[i]) (g := gs[i]) upd_same).upd (ys := vs ++ [.ref t']) e4
        simpa [hp] using r4
  · refine .inl ⟨⟨_, ra.sq, by rw [List.length_map]; omega⟩, q D H2 vs hD S2 e2 ?_⟩
    rw [List.take_of_length_le (by omega)] at r2
    exact r2
section
variable {P : Program} {w : World} {K : PySem.W.Frag} {mg : Str → Option Value} {base : Heap}
theorem sc_part : FnScope ["self", "low", "high"] ["self", "low", "high"] (defScope (inClass (top 28) 4)) := ⟨rfl, rfl, rfl, by decide +kernel, rfl, by decide +kernel, by decide +kernel⟩
def spPart (K : PySem.W.Frag) (C cK : Addr) : Sp := fun vs H Q E => ∃ (x dx : Addr) (lo hi : V) (t t' : Value) (ks gs : List Int), vs = [.ref x, lo, hi] ∧ PgI C dx H x ks gs ∧ Thg K H lo t ∧ Thg K H hi t' ∧
  (endOk lo = false → ∀ e H', H e = none → Same H H' → Err cK "found" lo H' e → E (.ref e) none H') ∧
  (endOk lo = true → endOk hi = false → ∀ e H', H e = none → Same H H' → Err cK "found" hi H' e → E (.ref e) none H') ∧
  (endOk lo = true → endOk hi = true → ∀ l H' vs, H l = none → Same H H' → H' l = some (.lst vs) → Prs H' vs ((ks.zip gs).filter fun x => inS lo hi x.1) → Q (.ref l) H')
theorem bt_zip' : bootBuiltins "zip" = some (.type "zip") := by decide +kernel
theorem end_non {v : V} (h : v ≠ .non) : endOk v = keyV v := by
  cases v with
  | non => exact absurd rfl h
  | _ => rfl
theorem ok_part {C f fK fG cK fW : Addr} {fd fdW : FuncData} (hf : Fun K "part" "Leaf.part" (inClass (top 28) 4) fW fdW) (T : Txt K mg) (X : KdN K mg "Leaf" "Leaf.__init__" (inClass (top 28) 0) C f fd fK fG)
    (h1 : OkX P w K mg base "need_key" s_need_key ["thing"] 4 (spNeed K cK)) (h2 : OkD P w K mg base "in_stretch" s_in_stretch ["key", "low", "high"] 1 spInS) : FnOk P w K mg base (CXo P w) 6 fW fdW ["self", "low", "high"] (spPart K C cK) := by
  obtain ⟨f1, fd1, D1, G1⟩ := h1
  obtain ⟨f2, fd2, D2, G2⟩ := h2
  refine Fun_okX hf sc_part (fun vs H Q E h => ?_) (fun cdv A outer s H vs Q E hr h => ?_)
  · obtain ⟨_, _, _, _, _, _, _, _, rfl, _⟩ := h
    rfl
  · obtain ⟨x, dx, lo, hi, t, t', ks, gs, rfl, pg, th, th', b1, b2, b3⟩ := h
    have sc := sc_part
    refine' ⟨_, pss_cons (ps_if (pt_cmpR op_notN (pv 1) pe_non (nomark _)) (pss_one (ps_expr (pe_call G1 (hr.mono (by decide)) rfl D1.m D1.fn.kp D1.b .nil outs_def.pass (pa_c (pv 1) pa_nil)))) pss_nil)
      (pss_cons (ps_if (pt_cmpR op_notN (pv 2) pe_non (nomark _)) (pss_one (ps_expr (pe_call G1 (hr.mono (by decide)) rfl D1.m D1.fn.kp D1.b .nil outs_def.pass (pa_c (pv 2) pa_nil)))) pss_nil)
      (pss_one (ps_ret (pe_comp2 (blk_mk2 ["low", "high"] [1, 2]) rfl (pi_zip true rfl T.n_zip bt_zip' (pa_c (pe_fld (pv 0) rfl) (pa_c (pe_fld (pv 0) rfl) pa_nil))) (fun _ _ _ _ _ => PTs.one (pt_val (pe_call G2 (hr.mono (by decide)) rfl D2.m D2.fn.kp D2.b .nil pass0 (pa_c (pv 0) (pa_c (pv 2) (pa_c (pv 3) pa_nil)))))) (fun _ _ _ _ _ => pe_tup (pa_c (pv 0) (pa_c (pv 1) pa_nil))))))), ?_⟩
    obtain ⟨tk, tg, hx, hk, hg⟩ := pg.pg
    refine seq2 (fun σ H' => σ = [some (.ref x), some lo, some hi] ∧ H = H' ∧ endOk lo = true) ?a ?b
    case a =>
      intro N q
      refine ⟨_, rfl, rfl, _, rfl, ?_⟩
      by_cases c : lo = .non
      · exact iteE (c := false) (by rw [decide_eq_true c]; rfl) (iteF (q _ _ ⟨rfl, rfl, by rw [c]; rfl⟩))
      · refine iteE (c := true) (by rw [decide_eq_false c]; rfl) (iteT ⟨_, rfl, lo, t, rfl, th, fun c1 => q _ _ ⟨rfl, rfl, by rw [end_non c]; exact c1⟩, fun c1 e H' he S r => err_on he S r fun H2 S2 r2 => b1 (by rw [end_non c]; exact c1) e H2 he S2 r2⟩)
    case b =>
    rintro _ _ ⟨rfl, rfl, c1⟩
    refine seq2 (fun σ H2 => σ = [some (.ref x), some lo, some hi] ∧ H = H2 ∧ endOk hi = true) ?c ?d
    case c =>
      intro N q
      refine ⟨_, rfl, rfl, _, rfl, ?_⟩
      by_cases c : hi = .non
      · exact iteE (c := false) (by rw [decide_eq_true c]; rfl) (iteF (q _ _ ⟨rfl, rfl, by rw [c]; rfl⟩))
      · refine iteE (c := true) (by rw [decide_eq_false c]; rfl) (iteT ⟨_, rfl, hi, t', rfl, th', fun c2 => q _ _ ⟨rfl, rfl, by rw [end_non c]; exact c2⟩, fun c2 e H' he S r => err_on he S r fun H2 S2 r2 => b2 c1 (by rw [end_non c]; exact c2) e H2 he S2 r2⟩)
    case d =>
    rintro _ _ ⟨rfl, rfl, c2⟩
    refine tret1 (comp_prs (K := K) (tp := true) (a := tk) (b := tg) (ks := ks) (gs := gs) (inS lo hi) (fun R r => ⟨_, rfl, x, C, dx, _, _, rfl, hx, X.ins.cl, X.n1, rfl, _, rfl, x, C, dx, _, _, rfl, hx, X.ins.cl, X.n2, rfl, tk, tg, rfl, ⟨_, SqT.of hk⟩, ⟨_, SqT.of hg⟩, r⟩) hk hg pg.len (by have := pg.few; omega) ?_ ?_ ?_)
    · exact fun k g H2 R S r => ⟨_, rfl, _, rfl, _, rfl, k, lo, hi, rfl, c1, c2, _, rfl, r⟩
    · exact fun k g H2 R S r => ⟨_, rfl, _, rfl, (by show 2 ≤ sizeLine; decide), r⟩
    · exact fun d H2 vs fd S e r => b3 c1 c2 d H2 vs fd S e r
theorem sc_kin : FnScope ["self", "thing"] ["self", "thing"] (defScope (inClass (top 28) 5)) := ⟨rfl, rfl, rfl, by decide +kernel, rfl, by decide +kernel, by decide +kernel⟩
def spKin (K : PySem.W.Frag) (C : Addr) : Sp := fun vs H Q _ => ∃ (x : Addr) (v : V) (t : Value) (b : Bool), vs = [.ref x, v] ∧ Any1 K H v t ∧ PySem.W.kitOne K t (.ref C) = some b ∧ Q (.bl b) H
theorem ok_kin {C fW : Addr} {fdW : FuncData} (hf : Fun K "is_kin" "Leaf.is_kin" (inClass (top 28) 5) fW fdW) (T : Txt K mg) (mC : mg "Leaf" = some (.ref C)) : FnOk P w K mg base CX0 1 fW fdW ["self", "thing"] (spKin K C) := by
  refine hf.ok sc_kin (fun vs H Q E h => ?_) (fun cdv A outer s H vs Q E hr h => ?_)
  · obtain ⟨_, _, _, _, rfl, _⟩ := h
    rfl
  · obtain ⟨x, v, t, b, rfl, a, e, k⟩ := h
    exact ⟨_, (pss_one (ps_ret (pe_callB call_instA rfl T.n_isinstance bt_isinstance (pa_c (pv 1) (pa_c (pe_glob (v := .ref C) rfl mC rfl) pa_nil))))), _, rfl, v, .ref C, t, b, rfl, a, .inr (.inl ⟨C, rfl, e⟩), k⟩
theorem sc_same : FnScope ["self", "thing"] ["self", "thing"] (defScope (inClass (top 27) 4)) := ⟨rfl, rfl, rfl, by decide +kernel, rfl, by decide +kernel, by decide +kernel⟩
def spSame (K : PySem.W.Frag) (C : Addr) : Sp := fun vs H Q _ => ∃ (x dx : Addr) (v : V) (t : Value) (ks gs : List Int) (b : Bool), vs = [.ref x, v] ∧ PgI C dx H x ks gs ∧ Any1 K H v t ∧ PySem.W.kitOne K t (.ref C) = some b ∧ (b = true → ∃ y dy, v = .ref y ∧ ∃ ks' gs' : List Int, Pg C dy H y (ks'.map V.int) (gs'.map V.int) ∧ Q (.bl (decide (ks = ks') && decide (gs = gs'))) H) ∧ (b = false → Q (.bl false) H)
theorem ok_same {C f fK fG fN fW : Addr} {fd fdN fdW : FuncData} (hf : Fun K "same" "Page.same" (inClass (top 27) 4) fW fdW) (T : Txt K mg) (X : KdN K mg "Leaf" "Leaf.__init__" (inClass (top 28) 0) C f fd fK fG)
    (mN : Meth K C "is_kin" fN) (bN : Binds K fdN ["self", "thing"] []) (gN : FnOk P w K mg base CX0 1 fN fdN ["self", "thing"] (spKin K C)) : FnOk P w K mg base CX0 3 fW fdW ["self", "thing"] (spSame K C) := by
  refine hf.ok sc_same (fun vs H Q E h => ?_) (fun cdv A outer s H vs Q E hr h => ?_)
  · obtain ⟨_, _, _, _, _, _, _, rfl, _⟩ := h
    rfl
  · obtain ⟨x, dx, v, t, ks, gs, b, rfl, pg, a, e, b1, b2⟩ := h
    have hu := hr.units0
    refine ⟨_, (pss_one (ps_ret (pe_and (pe_meth (pv 0) X.ins.cl mN gN (hr.mono (by decide)) bN .nil pass0 (pa_c (pv 1) pa_nil)) (pe_and (pe_cmpR (op_eqTT hu) (pe_fld (pv 0) rfl) (pe_fld (pv 1) rfl) (nomark _)) (pe_one (pe_cmpR (op_eqTT hu) (pe_fld (pv 0) rfl) (pe_fld (pv 1) rfl) (nomark _))))))), ?_⟩
    obtain ⟨tk, tg, hx, hk, hg⟩ := pg.pg
    refine ⟨_, rfl, x, dx, _, rfl, hx, rfl, _, rfl, x, v, t, b, rfl, a, e, b, rfl, ?_⟩
    cases b with
    | false => exact iteF (b2 rfl)
    | true =>
      obtain ⟨y, dy, rfl, ks', gs', ⟨tk', tg', hy, hk', hg'⟩, q⟩ := b1 rfl
      refine iteT ⟨_, rfl, x, C, dx, _, _, rfl, hx, X.ins.cl, X.n1, rfl, _, rfl, y, C, dy, _, _, rfl, hy, X.ins.cl, X.n1, rfl, tk, tk', _, _, rfl, rfl, SqT.of hk, SqT.of hk', okP_ints, _, rfl, ?_⟩
      rw [eqPs_ints]
      by_cases c : ks = ks'
      · rw [decide_eq_true c, Bool.true_and] at q
        rw [decide_eq_true c]
        refine iteT ⟨_, rfl, x, C, dx, _, _, rfl, hx, X.ins.cl, X.n2, rfl, _, rfl, y, C, dy, _, _, rfl, hy, X.ins.cl, X.n2, rfl, tg, tg', _, _, rfl, rfl, SqT.of hg, SqT.of hg', okP_ints, ?_⟩
        rw [eqPs_ints]
        exact q
      · rw [decide_eq_false c, Bool.false_and] at q
        rw [decide_eq_false c]
        exact iteF q
end
end K11

set_option Elab.async false
set_option linter.all false
set_option maxRecDepth 100000
set_option maxHeartbeats 1000000
namespace K11
open PySem L2
theorem keysB_page {tp : Bool} {ks : List Int} (h : Up ks) (hz : ks.length ≤ 6) : PageKeys (if tp then .tuple (ks.map PyData.int) else .list (ks.map PyData.int)) := by
  cases tp with
  | true => exact keys_page h hz
  | false => exact keysL_page h hz
theorem goodsB_page {tp : Bool} {gs : List Int} {n : Int} (h : ∀ g ∈ gs, -999999999 ≤ g ∧ g ≤ 999999999) (hz : (gs.length : Int) = n) : PageGoods (if tp then .tuple (gs.map PyData.int) else .list (gs.map PyData.int)) n := by
  cases tp with
  | true => exact goods_page h hz
  | false => exact goodsL_page h hz
theorem dv_row_ints {tp : Bool} {H : Hp} {a : Addr} {ks : List Int} (h : RowAt tp H a (ks.map V.int)) : DV (fun _ => False) H (.ref a) (if tp then .tuple (ks.map PyData.int) else .list (ks.map PyData.int)) := by
  cases tp with
  | true => exact .tup (fun z => z) h (dvs_ints _)
  | false => exact .lst (fun z => z) h (dvs_ints _)
theorem row_same {tp tp' : Bool} {H : Hp} {a : Addr} {xs ys : List V} (h : RowAt tp H a xs) (h' : RowAt tp' H a ys) : xs = ys := by
  have e := (show H a = _ from h).symm.trans (show H a = _ from h')
  cases tp <;> cases tp' <;> (injection e with e; first | (injection e) | (cases e))
theorem make_ok {C y dy cE a b : Addr} {H : Hp} {tp tp' : Bool} {ks gs : List Int} {Q : VK} {E : XK} (ha : RowAt tp H a (ks.map V.int)) (hb : RowAt tp' H b (gs.map V.int)) (u : Up ks) (few : ks.length ≤ 6) (ok : ∀ g ∈ gs, -999999999 ≤ g ∧ g ≤ 999999999) (len : gs.length = ks.length) (fy : H y = none) (fdy : H dy = none)
    (q : ∀ H3, Same H H3 → PgI C dy H3 y ks gs → Q .non H3) : spMake C cE (fun dk dg => PageGoods dg (lenD dk)) [.ref y, .ref a, .ref b] (upd (upd H dy (.own y)) y (.ins C dy [])) Q E := by
  have K1 : Same H (upd (upd H dy (.own y)) y (.ins C dy [])) := fun c o hc => by
    rw [upd_ne (ne_of_none hc fy), upd_ne (ne_of_none hc fdy)]
    exact hc
  have PK := keysB_page (tp := tp) u few
  have lk : lenD (if tp then .tuple (ks.map PyData.int) else .list (ks.map PyData.int)) = (ks.length : Int) := by
    cases tp with
    | true => show ((ks.map PyData.int).length : Int) = _; rw [List.length_map]
    | false => show ((ks.map PyData.int).length : Int) = _; rw [List.length_map]
  have PG := goodsB_page (tp := tp') (n := lenD (if tp then .tuple (ks.map PyData.int) else .list (ks.map PyData.int))) ok (by rw [lk, len])
  have ha' : RowAt tp (upd (upd H dy (.own y)) y (.ins C dy [])) a (ks.map V.int) := K1 _ _ ha
  have hb' : RowAt tp' (upd (upd H dy (.own y)) y (.ins C dy [])) b (gs.map V.int) := K1 _ _ hb
  have sh : ∀ (tp : Bool) (ns : List Int), ns.length ≤ 6 → Short (if tp then .tuple (ns.map PyData.int) else .list (ns.map PyData.int)) := fun tp ns hn ds z => by
    cases tp <;> (cases z; rw [List.length_map]; omega)
  refine ⟨fun _ => False, y, dy, .ref a, .ref b, _, _, rfl, upd_same, dv_row_ints ha', dv_row_ints hb', sh _ _ few, sh _ _ (by omega), fun c => absurd PK c, fun _ c => absurd PG c, fun _ _ H3 a' b' t1 t2 xs ys B ea eb ra rb pg' => ?_⟩
  cases ea
  cases eb
  rw [row_same ra ha', row_same rb hb'] at pg'
  exact q H3 (fun c o hc => B c o (K1 _ _ hc) (ne_of_none hc fy)) ⟨pg', len, few, u, ok⟩
section
variable {P : Program} {w : World} {K : PySem.W.Frag} {mg : Str → Option Value} {base : Heap}
def spGoodU : Sp := fun vs H Q _ => ∃ (p : Addr) (n : Nat), vs = [.ref p] ∧ Box H p n ∧ n ≤ 950000 ∧ ∀ (i : Int) (H' : Hp), -999999999 ≤ i ∧ i ≤ 999999999 → Box H' p (n + 2) → KB p H H' → Q (.int i) H'
theorem ok_goodU (hd : ∃ f fd, Dn K mg "_law_good" "_law_good" s__law_good ["_law_box_here"] f fd) (T : Txt K mg) (h1 : OkD P w K mg base "_law_take" s__law_take ["_law_box_here", "_law_many"] 1 spTake) :
    OkD P w K mg base "_law_good" s__law_good ["_law_box_here"] 2 spGoodU := by
  obtain ⟨f, fd, D⟩ := hd
  obtain ⟨f1, fd1, D_law_take, G_law_take⟩ := h1
  refine ⟨f, fd, D, D.fn.ok sc__law_good (fun vs H Q E h => ?_) (fun cdv A outer s H vs Q E hr h => ?_)⟩
  · obtain ⟨_, _, rfl, _⟩ := h
    rfl
  · obtain ⟨p, n, rfl, B, hn, k⟩ := h
    have sc := sc__law_good
    refine ⟨_, (pss_cons (ps_set (i := 1) sc.nd rfl (Or.inl rfl) (pe_call G_law_take (hr.mono (by decide)) rfl D_law_take.m D_law_take.fn.kp D_law_take.b .nil pass0 (pa_c (pv 0) (pa_c pe_int pa_nil))))
    (pss_one (ps_ret (pe_ifExp (pt_cmpR op_lt (pv 1) pe_int (nomark _)) (pe_ix ix_list (pe_lst (pa_c (pe_op op_sub (pe_op op_pow pe_int pe_int) pe_int) (pa_c (pe_op op_sub pe_int (pe_op op_pow pe_int pe_int)) (pa_c pe_int pa_nil)))) (pv 1) (fun _ _ => rfl)) (pe_op op_sub (pe_call G_law_take (hr.mono (by decide)) rfl D_law_take.m D_law_take.fn.kp D_law_take.b .nil pass0 (pa_c (pv 0) (pa_c pe_int pa_nil))) pe_int))))), ?_⟩
    refine ⟨_, rfl, p, 5, n, rfl, B, by omega, by decide, by decide, fun way H1 a0 a1 B1 k1 => ?_⟩
    have e9 : (10 : Int) ^ (9 : Int).toNat = 1000000000 := by decide +kernel
    refine ⟨_, rfl, _, _, rfl, rfl, _, rfl, ite2 (fun hw => ?_) (fun hw => ?_)⟩
    · have hw' : way < 3 := of_decide_eq_true hw
      refine ⟨_, _, rfl, rfl, cp (by decide) (by decide), _, _, rfl, rfl, _, _, rfl, rfl, cp (by decide) (by decide), _, _, rfl, rfl, (by show 3 ≤ sizeLine; decide), fun l fl => ?_⟩
      obtain ⟨z, hz, e⟩ := atI_ints (ns := [10 ^ (9 : Int).toNat - 1, 1 - 10 ^ (9 : Int).toNat, 0]) (r := way) a0 (by show way < 3; exact hw')
      refine ⟨_, rfl, _, _, _, _, rfl, rfl, SqL.of upd_same, e, k z _ ?_ ((B1.upd fl).mono (by omega)) (k1.updN fl)⟩
      rw [e9] at hz
      simp only [List.mem_cons, List.not_mem_nil, or_false] at hz
      omega
    · refine ⟨_, rfl, p, 41, n + 1, rfl, B1, by omega, by decide, by decide, fun r2 H2 b0 b1 B2 k2 => ⟨_, _, rfl, rfl, k _ H2 (by omega) B2 (k1.trans k2)⟩⟩
abbrev s__law_leaf : Stmt := top 36
theorem sc__law_leaf : FnScope ["_law_box_here", "_law_way", "_law_many", "_law_keys_here", "_law_goods", "_law_one", "_law_other", "_law_page"] ["_law_box_here"] (defScope s__law_leaf) := ⟨rfl, rfl, rfl, by decide +kernel, rfl, by decide +kernel, by decide +kernel⟩
def spLeaf (C : Addr) : Sp := fun vs H Q _ => ∃ (p : Addr) (n : Nat), vs = [.ref p] ∧ Box H p n ∧ n ≤ 900000 ∧
  ∀ (t l1 l2 x dx : Addr) (ks gs : List Int) (H' : Hp), H' t = some (.tup [.ref x, .ref l1, .ref l2]) → PgI C dx H' x ks gs → H' l1 = some (.lst (ks.map V.int)) → H' l2 = some (.lst (gs.map V.int)) → l1 ≠ p → l2 ≠ p → Box H' p (n + 40) → KB p H H' → Q (.ref t) H'
end
end K11

set_option Elab.async false
set_option linter.all false
set_option maxRecDepth 100000
set_option maxHeartbeats 1000000
namespace K11
open PySem L2
theorem ints_of {p : Int → Prop} : ∀ {vs : List V}, (∀ v ∈ vs, ∃ i : Int, p i ∧ v = .int i) → ∃ gs : List Int, vs = gs.map V.int ∧ ∀ g ∈ gs, p g
  | [], _ => ⟨[], rfl, fun g h => nomatch h⟩
  | v :: vs, h => by
    obtain ⟨i, hi, rfl⟩ := h v (List.mem_cons_self ..)
    obtain ⟨gs, rfl, hg⟩ := ints_of fun u hu => h u (List.mem_cons_of_mem _ hu)
    refine ⟨i :: gs, rfl, fun g hm => ?_⟩
    rcases List.mem_cons.mp hm with rfl | z
    · exact hi
    · exact hg g z
theorem PgI.updL {C dx x l : Addr} {H : Hp} {ks gs : List Int} {xs ys : List V} (p : PgI C dx H x ks gs) (h : H l = some (.lst xs)) : PgI C dx (upd H l (.lst ys)) x ks gs := by
  obtain ⟨⟨tk, tg, a, b, c⟩, p2, p3, p4, p5⟩ := p
  refine ⟨⟨tk, tg, ?_, ?_, ?_⟩, p2, p3, p4, p5⟩
  · rw [upd_ne (ne_of a h (by intro z; cases z))]; exact a
  · rw [upd_ne (ne_of b h (by intro z; cases z))]; exact b
  · rw [upd_ne (ne_of c h (by intro z; cases z))]; exact c
section
variable {P : Program} {w : World} {K : PySem.W.Frag} {mg : Str → Option Value} {base : Heap}
theorem ok_lleaf {C f fK fG cE : Addr} {fd : FuncData} (hd : ∃ f fd, Dn K mg "_law_leaf" "_law_leaf" s__law_leaf ["_law_box_here"] f fd) (T : Txt K mg) (XLeaf : KdN K mg "Leaf" "Leaf.__init__" (inClass (top 28) 0) C f fd fK fG)
    (h1 : OkD P w K mg base "_law_take" s__law_take ["_law_box_here", "_law_many"] 1 spTake) (h2 : OkD P w K mg base "_law_keys" s__law_keys ["_law_box_here", "_law_many"] 3 spKeysU) (h3 : OkD P w K mg base "_law_good" s__law_good ["_law_box_here"] 2 spGoodU)
    (GLeaf : FnOk P w K mg base (CXo P w) 8 f fd ["self", "keys", "goods"] (spMake C cE fun dk dg => PageGoods dg (lenD dk))) : OkD P w K mg base "_law_leaf" s__law_leaf ["_law_box_here"] 10 (spLeaf C) := by
  obtain ⟨f0, fd0, D⟩ := hd
  obtain ⟨f1, fd1, D_law_take, G_law_take⟩ := h1
  obtain ⟨f2, fd2, D_law_keys, G_law_keys⟩ := h2
  obtain ⟨f3, fd3, D_law_good, G_law_good⟩ := h3
  refine ⟨f0, fd0, D, D.fn.ok sc__law_leaf (fun vs H Q E h => ?_) (fun cdv A outer s H vs Q E hr h => ?_)⟩
  · obtain ⟨_, _, rfl, _⟩ := h
    rfl
  · obtain ⟨p, n, rfl, B, hn, k⟩ := h
    have sc := sc__law_leaf
    refine ⟨_, (pss_cons (ps_set (i := 1) sc.nd rfl (Or.inl rfl) (pe_call G_law_take (hr.mono (by decide)) rfl D_law_take.m D_law_take.fn.kp D_law_take.b .nil pass0 (pa_c (pv 0) (pa_c pe_int pa_nil))))
    (pss_cons (ps_set (i := 2) sc.nd rfl (Or.inl rfl) (pe_ifExp (pt_cmpR op_eq (pv 1) pe_int (nomark _)) pe_int (pe_call G_law_take (hr.mono (by decide)) rfl D_law_take.m D_law_take.fn.kp D_law_take.b .nil pass0 (pa_c (pv 0) (pa_c pe_int pa_nil)))))
    (pss_cons (ps_set (i := 3) sc.nd rfl (Or.inl rfl) (pe_call G_law_keys (hr.mono (by decide)) rfl D_law_keys.m D_law_keys.fn.kp D_law_keys.b .nil pass0 (pa_c (pv 0) (pa_c (pv 2) pa_nil))))
    (pss_cons (ps_setComp (i := 4) (blk_mk ["_law_box_here"] [0]) rfl (pi_range1 rfl T.n_range (pa_c (pv 2) pa_nil)) (fun _ _ _ _ _ => PTs.nil) (fun _ _ _ _ _ => (pe_call G_law_good (hr.mono (by decide)) rfl D_law_good.m D_law_good.fn.kp D_law_good.b .nil pass0 (pa_c (pv 1) pa_nil))) sc.nd rfl rfl)
    (pss_cons (ps_if (pt_cmpR op_eq (pe_call G_law_take (hr.mono (by decide)) rfl D_law_take.m D_law_take.fn.kp D_law_take.b .nil pass0 (pa_c (pv 0) (pa_c pe_int pa_nil))) pe_int (nomark _))
      (pss_one (ps_ret (pe_tup (pa_c (pe_make XLeaf.mak GLeaf (hr.mono (by decide)) rfl XLeaf.m XLeaf.bi .nil passX (pa_c (pe_callTy call_tuple_of rfl T.n_tuple bt_tuple (pa_c (pv 3) pa_nil)) (pa_c (pe_callTy call_tuple_of rfl T.n_tuple bt_tuple (pa_c (pv 4) pa_nil)) pa_nil))) (pa_c (pv 3) (pa_c (pv 4) pa_nil))))))
      pss_nil)
    (pss_cons (ps_par (i := 5) (j := 6) rfl sc.nd rfl rfl (by decide) rfl rfl (pa_c (pe_callTy call_list_of rfl T.n_list bt_list (pa_c (pv 3) pa_nil)) (pa_c (pe_callTy call_list_of rfl T.n_list bt_list (pa_c (pv 4) pa_nil)) pa_nil)) rfl)
    (pss_cons (ps_set (i := 7) sc.nd rfl (Or.inl rfl) (pe_make XLeaf.mak GLeaf (hr.mono (by decide)) rfl XLeaf.m XLeaf.bi .nil passX (pa_c (pv 5) (pa_c (pv 6) pa_nil))))
    (pss_cons (ps_expr (pe_bm PySem.F.plainAttrs_list PySem.F.slot_list_append PySem.F.type_list_append mt_append (pv 5) (pa_c pe_int pa_nil)))
    (pss_cons (ps_expr (pe_bm0 PySem.F.plainAttrs_list PySem.F.slot_list_clear PySem.F.type_list_clear mt_clear (pv 6)))
    (pss_one (ps_ret (pe_tup (pa_c (pv 7) (pa_c (pv 3) (pa_c (pv 4) pa_nil))))))))))))))), ?_⟩
    refine ⟨_, rfl, p, 5, n, rfl, B, by omega, by decide, by decide, fun way H1 a0 a1 B1 k1 => ?_⟩
    dsimp only [gName, tNext]
    refine tseq1 (tasg1 (both2 (fun v H2 => ∃ m : Int, v = .int m ∧ 0 ≤ m ∧ m ≤ 6 ∧ Box H2 p (n + 2) ∧ KB p H H2) ?mk ?q))
    case mk =>
      intro Q' z
      refine ⟨_, rfl, rfl, _, rfl, ite2 (fun _ => ?_) (fun _ => ?_)⟩
      · exact z _ _ ⟨6, rfl, by decide, by decide, B1.mono (by omega), k1⟩
      · exact ⟨_, rfl, p, 7, n + 1, rfl, B1, by omega, by decide, by decide, fun m H2 b0 b1 B2 k2 => z _ _ ⟨m, rfl, b0, by omega, B2, k1.trans k2⟩⟩
    case q =>
    rintro _ H2 ⟨m, rfl, m0, m1, B2, K2⟩
    clear k1 B1
    refine ⟨_, rfl, _, rfl, p, m, n + 2, rfl, B2, by omega, m0, m1, fun lk H3 ks fl nl el ll up B3 k3 => ?_⟩
    have K3 := K2.trans k3
    have flk := kb_back K2 fl nl
    dsimp only [gName, tNext]
    refine tseq1 (tasg1 (comp_d (lo := 0) (c := 2) m.toNat (fun v => ∃ i : Int, (-999999999 ≤ i ∧ i ≤ 999999999) ∧ v = .int i) (fun R r => ⟨_, rfl, m, rfl, by omega, by omega, r⟩) B3 (by omega) ?_ ?_))
    · exact fun x H2 mm Z B2 hm z => ⟨_, rfl, p, mm, rfl, B2, by omega, fun i H' hi B' k' => z _ H' ⟨i, hi, rfl⟩ B' k'⟩
    intro lg H4 vs fg lv rv B4 k4 e4
    have ng : lg ≠ p := B3.ne (H1 := H3) fg
    obtain ⟨gs, rfl, hgs⟩ := ints_of rv
    rw [List.length_map] at lv
    have K4 := K3.trans k4
    have flg := kb_back K3 fg ng
    have el4 := k4 _ _ el nl
    have lgk : gs.length = ks.length := by omega
    have few : ks.length ≤ 6 := by omega
    clear k3 K3 K2 B2 B3 fl el fg k4
    dsimp only [gName, tNext]
    refine ⟨_, rfl, p, 2, _, rfl, B4, by omega, by decide, by decide, fun r5 H5 c0 c1 B5 k5 => ?_⟩
    have K5 := K4.trans k5
    have ek := k5 _ _ el4 nl
    have eg := k5 _ _ e4 ng
    clear K4 k5 el4 e4 B4
    refine ⟨rfl, _, rfl, ite2 (fun _ => ?_) (fun _ => ?_)⟩
    · refine ⟨_, rfl, lk, _, rfl, .inl ⟨SqL.of ek, fun t1 g1 => ?_⟩⟩
      have S1 := Same.upd (o := .tup (ks.map V.int)) g1
      have et1 := upd_same (H := H5) (a := t1) (o := .tup (ks.map V.int))
      have eg1 := S1 _ _ eg
      have ek1 := S1 _ _ ek
      have K6 := K5.trans S1.kb
      have B6 := B5.same S1
      generalize upd H5 t1 (.tup (ks.map V.int)) = H6 at *
      refine ⟨_, rfl, lg, _, rfl, .inl ⟨SqL.of eg1, fun t2 g2 => ?_⟩⟩
      have S2 := Same.upd (o := .tup (gs.map V.int)) g2
      have et2 := upd_same (H := H6) (a := t2) (o := .tup (gs.map V.int))
      have eg2 := S2 _ _ eg1
      have ek2 := S2 _ _ ek1
      have K7 := K6.trans S2.kb
      have et1' := S2 _ _ et1
      have B7 := B6.same S2
      generalize upd H6 t2 (.tup (gs.map V.int)) = H7 at *
      intro y dy fy fdy nd
      refine make_ok (tp := true) (tp' := true) (ks := ks) (gs := gs) et1' et2 up few hgs lgk fy fdy fun H8 S8 pg => ⟨rfl, ?_⟩
      refine ⟨_, rfl, _, rfl, (by show 3 ≤ sizeLine; decide), fun t ft => ?_⟩
      have S9 := Same.upd (o := .tup [.ref y, .ref lk, .ref lg]) ft
      exact k t lk lg y dy ks gs _ upd_same (pg.keep S9) (S9 _ _ (S8 _ _ ek2)) (S9 _ _ (S8 _ _ eg2)) nl ng ((B7.same (S8.trans S9)).mono (by omega)) ((K7.trans S8.kb).trans S9.kb)
    · refine ⟨_, rfl, lk, _, rfl, .inl (SqL.of ek), fun t1 g1 => ?_⟩
      have S1 := Same.upd (o := .lst (ks.map V.int)) g1
      have et1 := upd_same (H := H5) (a := t1) (o := .lst (ks.map V.int))
      have eg1 := S1 _ _ eg
      have ek1 := S1 _ _ ek
      have K6 := K5.trans S1.kb
      have n1 : t1 ≠ p := B5.ne (H1 := H5) g1
      have z1 := kb_back K5 g1 n1
      have n1k : lk ≠ t1 := ne_of_none ek g1
      have n1g : lg ≠ t1 := ne_of_none eg g1
      have B6 := B5.same S1
      generalize upd H5 t1 (.lst (ks.map V.int)) = H6 at *
      refine ⟨_, rfl, lg, _, rfl, .inl (SqL.of eg1), fun t2 g2 => ?_⟩
      have S2 := Same.upd (o := .lst (gs.map V.int)) g2
      have et2 := upd_same (H := H6) (a := t2) (o := .lst (gs.map V.int))
      have eg2 := S2 _ _ eg1
      have ek2 := S2 _ _ ek1
      have K7 := K6.trans S2.kb
      have et1' := S2 _ _ et1
      have n2 : t2 ≠ p := B6.ne (H1 := H6) g2
      have z2 := kb_back K6 g2 n2
      have n2k : lk ≠ t2 := ne_of_none ek1 g2
      have n2g : lg ≠ t2 := ne_of_none eg1 g2
      have n21 : t1 ≠ t2 := ne_of_none et1 g2
      have B7 := B6.same S2
      generalize upd H6 t2 (.lst (gs.map V.int)) = H7 at *
      refine ⟨_, _, rfl, ?_⟩
      refine ⟨_, rfl, _, rfl, ?_⟩
      intro y dy fy fdy nd
      refine make_ok (tp := false) (tp' := false) (ks := ks) (gs := gs) et1' et2 up few hgs lgk fy fdy fun H8 S8 pg => ⟨rfl, ?_⟩
      have et18 := S8 _ _ et1'
      have et28 := S8 _ _ et2
      refine ⟨_, rfl, .inl ⟨rfl, _, SqL.of et18⟩, t1, _, _, rfl, rfl, et18, (by rw [List.length_map]; have := big1000; omega), ?_⟩
      have et29 : upd H8 t1 (.lst (ks.map V.int ++ [.int 7])) t2 = some (.lst (gs.map V.int)) := by rw [upd_ne (Ne.symm n21)]; exact et28
      have pg9 := pg.updL (ys := ks.map V.int ++ [.int 7]) et18
      refine ⟨_, rfl, .inl ⟨rfl, _, SqL.of et29⟩, t2, _, rfl, rfl, et29, ?_⟩
      have pg10 := pg9.updL (ys := []) et29
      have ek10 : upd (upd H8 t1 (.lst (ks.map V.int ++ [.int 7]))) t2 (.lst []) lk = some (.lst (ks.map V.int)) := by rw [upd_ne n2k, upd_ne n1k]; exact S8 _ _ ek2
      have eg10 : upd (upd H8 t1 (.lst (ks.map V.int ++ [.int 7]))) t2 (.lst []) lg = some (.lst (gs.map V.int)) := by rw [upd_ne n2g, upd_ne n1g]; exact S8 _ _ eg2
      have K10 : KB p H (upd (upd H8 t1 (.lst (ks.map V.int ++ [.int 7]))) t2 (.lst [])) := fun b o z nb => by
        rw [upd_ne (ne_of_none z z2), upd_ne (ne_of_none z z1)]
        exact S8 _ _ (K7 b o z nb)
      have B10 := box_updQ (o := .lst []) (box_updQ (o := .lst (ks.map V.int ++ [.int 7])) (B7.same S8) n1) n2
      generalize upd (upd H8 t1 (.lst (ks.map V.int ++ [.int 7]))) t2 (.lst []) = H10 at *
      refine ⟨_, rfl, _, rfl, _, rfl, (by show 3 ≤ sizeLine; decide), fun t ft => ?_⟩
      have S9 := Same.upd (o := .tup [.ref y, .ref lk, .ref lg]) ft
      exact k t lk lg y dy ks gs _ upd_same (pg10.keep S9) (S9 _ _ ek10) (S9 _ _ eg10) nl ng ((B10.same S9).mono (by omega)) (K10.trans S9.kb)
end
end K11

set_option Elab.async false
set_option linter.all false
set_option maxRecDepth 100000
set_option maxHeartbeats 1000000
namespace K11
open PySem L2
def MtOk (P : Program) (w : World) (K : PySem.W.Frag) (mg : Str → Option Value) (base : Heap) (CX : CXT) (C : Addr) (nm : Str) (ps : List Str) (k : Nat) (sp : Sp) : Prop :=
  ∃ f fd, Meth K C nm f ∧ Binds K fd ps [] ∧ FnOk P w K mg base CX k f fd ps sp
structure Kin (K : PySem.W.Frag) (C CI : Addr) : Prop where
  ci : PySem.W.kitOne K (.ref CI) (.ref C) = some false
  c : ∀ d, PySem.W.kitOne K (tyD d) (.ref C) = some false
  i : ∀ d, PySem.W.kitOne K (tyD d) (.ref CI) = some false
theorem kit_self {K : PySem.W.Frag} {C : Addr} : PySem.W.kitOne K (.ref C) (.ref C) = some true := by
  unfold PySem.W.kitOne
  rw [if_pos (by simp)]
theorem okd_rows {ks gs : List Int} (hk : ∀ z ∈ ks, z.natAbs ≤ 10 ^ 30) (hg : ∀ z ∈ gs, z.natAbs ≤ 10 ^ 30) (lk : ks.length ≤ 7) (lg : gs.length ≤ 7) : Okd 100000 (.list [.list (ks.map PyData.int), .list (gs.map PyData.int)]) := by
  have sm : ∀ {ns : List Int}, (∀ z ∈ ns, z.natAbs ≤ 10 ^ 30) → ∀ d ∈ ns.map PyData.int, Small d := fun {ns} h d hd => by
    obtain ⟨g, hg, rfl⟩ := List.mem_map.mp hd
    exact small_int (h g hg)
  obtain ⟨a, b, c, e⟩ := smalls_row (sm hk)
  obtain ⟨a', b', c', e'⟩ := smalls_row (sm hg)
  rw [List.length_map] at e e'
  refine ⟨?_, ?_, ?_, ?_⟩
  · simp only [PyData.showable, PyData.showableAll, a, a', Bool.and_self]
  · simp only [PyData.leavesShort, PyData.leavesShortAll, b, b', Bool.and_self]
  · simp only [PyData.depth, PyData.depthAll]; omega
  · simp only [PyData.weight, PyData.weightAll]; omega
theorem Okd.row {ns : List Int} (h : ∀ z ∈ ns, z.natAbs ≤ 10 ^ 30) (l : ns.length ≤ 100) : Okd 100000 (.list (ns.map PyData.int)) := by
  obtain ⟨a, b, c, e⟩ := smalls_row (ds := ns.map PyData.int) fun d hd => by
    obtain ⟨g, hg, rfl⟩ := List.mem_map.mp hd
    exact small_int (h g hg)
  rw [List.length_map] at e
  refine ⟨a, b, ?_, ?_⟩
  · simp only [PyData.depth]; omega
  · simp only [PyData.weight]; omega
def Tells (C CI : Addr) (H : Hp) (v : V) (txt : Str) : Prop :=
  (∃ (y dy D : Addr) (ks gs : List Int), (D = C ∨ D = CI) ∧ v = .ref y ∧ Pg D dy H y (ks.map V.int) (gs.map V.int) ∧ Okd 100000 (.list [.list (ks.map PyData.int), .list (gs.map PyData.int)]) ∧ txt = (PyData.list [.list (ks.map PyData.int), .list (gs.map PyData.int)]).shown) ∨
  (∃ d, DV (fun _ => False) H v d ∧ Okd 100000 d ∧ txt = d.shown)
theorem Pg.keepS {C dx x : Addr} {H H' : Hp} {xs ys : List V} (p : Pg C dx H x xs ys) (S : Same H H') : Pg C dx H' x xs ys := let ⟨tk, tg, a, b, c⟩ := p; ⟨tk, tg, S _ _ a, S _ _ b, S _ _ c⟩
theorem Tells.keep {C CI : Addr} {H H' : Hp} {v : V} {txt : Str} (t : Tells C CI H v txt) (S : Same H H') : Tells C CI H' v txt := by
  rcases t with ⟨y, dy, D, ks, gs, hD, e, p, o, q⟩ | ⟨d, x, o, q⟩
  · exact .inl ⟨y, dy, D, ks, gs, hD, e, p.keepS S, o, q⟩
  · exact .inr ⟨d, x.keep (fun a o _ z => S a o z) fun _ z => z, o, q⟩
section
variable {P : Program} {w : World} {K : PySem.W.Frag} {mg : Str → Option Value} {base : Heap}
abbrev s__law_page_told : Stmt := top 42
theorem sc__law_page_told : FnScope ["_law_thing"] ["_law_thing"] (defScope s__law_page_told) := ⟨rfl, rfl, rfl, by decide +kernel, rfl, by decide +kernel, by decide +kernel⟩
def spPT (C CI : Addr) : Sp := fun vs H Q _ => ∃ (v : V) (txt : Str), vs = [v] ∧ Tells C CI H v txt ∧ ∀ H', Same H H' → Q (.str txt) H'
theorem ok_pt {cLeaf cInner : Addr} (hd : ∃ f fd, Dn K mg "_law_page_told" "_law_page_told" s__law_page_told ["_law_thing"] f fd) (T : Txt K mg) (MLeaf : mg "Leaf" = some (.ref cLeaf)) (MInner : mg "Inner" = some (.ref cInner)) (kn : Kin K cLeaf cInner) (cl : InsC K cLeaf) (ci : InsC K cInner)
    (k1 : MtOk P w K mg base CX0 cLeaf "all_keys" ["self"] 1 (spRow cLeaf true)) (g1 : MtOk P w K mg base CX0 cLeaf "goods" ["self"] 1 (spRow cLeaf false)) (k2 : MtOk P w K mg base CX0 cInner "all_keys" ["self"] 1 (spRow cInner true)) (g2 : MtOk P w K mg base CX0 cInner "goods" ["self"] 1 (spRow cInner false)) :
    OkD P w K mg base "_law_page_told" s__law_page_told ["_law_thing"] 2 (spPT cLeaf cInner) := by
  obtain ⟨f, fd, D⟩ := hd
  refine ⟨f, fd, D, D.fn.ok sc__law_page_told (fun vs H Q E h => ?_) (fun cdv A outer s H vs Q E hr h => ?_)⟩
  · obtain ⟨_, _, rfl, _⟩ := h
    rfl
  · obtain ⟨v, txt, rfl, tl, k⟩ := h
    have cs : ∀ c ∈ [V.ref cLeaf, V.ref cInner], (∃ n, c = .ty n) ∨ ∃ a, c = .ref a := fun c hc => by
      simp only [List.mem_cons, List.not_mem_nil, or_false] at hc
      rcases hc with rfl | rfl <;> exact .inr ⟨_, rfl⟩
    rcases tl with ⟨y, dy, D, ks, gs, hD, rfl, p, o, rfl⟩ | ⟨d, x, o, rfl⟩
    · have main : ∀ (D : Addr), InsC K D → MtOk P w K mg base CX0 D "all_keys" ["self"] 1 (spRow D true) → MtOk P w K mg base CX0 D "goods" ["self"] 1 (spRow D false) → Pg D dy H y (ks.map V.int) (gs.map V.int) → PySem.W.kitAny K (.ref D) [.ref cLeaf, .ref cInner] = some true →
          ∃ t, PSs ((cxOf CX0 P w K mg base ["_law_thing"] "_law_page_told" (defScope s__law_page_told) f cdv A outer s H E).nox) (defBody s__law_page_told) t ∧ t { nx := fun _ H' => Q .non H', rt := Q } (start ["_law_thing"] [.ref y]) H := by
        intro D iD mK mG p ka
        obtain ⟨fK, fdK, Me_all_keys, B_all_keys, G_all_keys⟩ := mK
        obtain ⟨fG, fdG, Me_goods, B_goods, G_goods⟩ := mG
        have CL := iD.cl
        refine ⟨_, (pss_one (ps_ret (pe_ifExp (pt_val (pe_callB call_instA rfl T.n_isinstance bt_isinstance (pa_c (pv 0) (pa_c (pe_tup (pa_c (pe_glob (v := .ref cLeaf) rfl MLeaf rfl) (pa_c (pe_glob (v := .ref cInner) rfl MInner rfl) pa_nil))) pa_nil)))) (pe_callB (call_reprD hr.gd hr.units) rfl T.n_repr bt_repr (pa_c (pe_lst (pa_c (pe_meth0 (pv 0) CL Me_all_keys G_all_keys (hr.mono (by decide)) B_all_keys .nil pass0) (pa_c (pe_meth0 (pv 0) CL Me_goods G_goods (hr.mono (by decide)) B_goods .nil pass0) pa_nil))) pa_nil)) (pe_callB (call_reprD hr.gd hr.units) rfl T.n_repr bt_repr (pa_c (pv 0) pa_nil))))), ?_⟩
        obtain ⟨tk, tg, hx, hk, hg⟩ := p
        refine ⟨_, rfl, (by show 2 ≤ sizeLine; decide), fun tt ft => ?_⟩
        have S1 := Same.upd (o := .tup [.ref cLeaf, .ref cInner]) ft
        refine ⟨.ref y, .ref tt, .ref D, true, rfl, .inr ⟨y, D, dy, _, rfl, S1 _ _ hx, iD, rfl⟩, .inr (.inr ⟨tt, _, rfl, upd_same, cs, ka⟩), _, rfl, iteT ?_⟩
        generalize upd H tt (.tup [.ref cLeaf, .ref cInner]) = H1 at *
        refine ⟨_, rfl, y, dy, _, rfl, S1 _ _ hx, rfl, y, dy, _, _, rfl, ⟨tk, tg, S1 _ _ hx, S1 _ _ hk, S1 _ _ hg⟩, fun l2 f2 => ?_⟩
        have S2 := Same.upd (o := .lst (if true = true then ks.map V.int else gs.map V.int)) f2
        have e2 := upd_same (H := H1) (a := l2) (o := .lst (if true = true then ks.map V.int else gs.map V.int))
        have S02 := S1.trans S2
        generalize upd H1 l2 _ = H2 at *
        refine ⟨_, rfl, y, dy, _, rfl, S02 _ _ hx, rfl, y, dy, _, _, rfl, ⟨tk, tg, S02 _ _ hx, S02 _ _ hk, S02 _ _ hg⟩, fun l3 f3 => ?_⟩
        have S3 := Same.upd (o := .lst (if false = true then ks.map V.int else gs.map V.int)) f3
        have e3 := upd_same (H := H2) (a := l3) (o := .lst (if false = true then ks.map V.int else gs.map V.int))
        have e2' := S3 _ _ e2
        have S03 := S02.trans S3
        generalize upd H2 l3 _ = H3 at *
        refine ⟨(by show 2 ≤ sizeLine; decide), fun l4 f4 => ?_⟩
        have S4 := Same.upd (o := .lst [.ref l2, .ref l3]) f4
        refine ⟨.ref l4, fun _ => False, _, rfl, .lst (fun z => z) upd_same (.cons (.lst (fun z => z) (S4 _ _ e2') (dvs_ints ks)) (.cons (.lst (fun z => z) (S4 _ _ e3) (dvs_ints gs)) .nil)), o, ?_⟩
        exact k _ (S03.trans S4)
      rcases hD with rfl | rfl
      · exact main _ cl k1 g1 p (by unfold PySem.W.kitAny; rw [kit_self])
      · exact main _ ci k2 g2 p (by unfold PySem.W.kitAny; rw [kn.ci]; dsimp only; unfold PySem.W.kitAny; rw [kit_self])
    · obtain ⟨fK, fdK, Me_all_keys, B_all_keys, G_all_keys⟩ := k1
      obtain ⟨fG, fdG, Me_goods, B_goods, G_goods⟩ := g1
      have CL := cl.cl
      refine ⟨_, (pss_one (ps_ret (pe_ifExp (pt_val (pe_callB call_instA rfl T.n_isinstance bt_isinstance (pa_c (pv 0) (pa_c (pe_tup (pa_c (pe_glob (v := .ref cLeaf) rfl MLeaf rfl) (pa_c (pe_glob (v := .ref cInner) rfl MInner rfl) pa_nil))) pa_nil)))) (pe_callB (call_reprD hr.gd hr.units) rfl T.n_repr bt_repr (pa_c (pe_lst (pa_c (pe_meth0 (pv 0) CL Me_all_keys G_all_keys (hr.mono (by decide)) B_all_keys .nil pass0) (pa_c (pe_meth0 (pv 0) CL Me_goods G_goods (hr.mono (by decide)) B_goods .nil pass0) pa_nil))) pa_nil)) (pe_callB (call_reprD hr.gd hr.units) rfl T.n_repr bt_repr (pa_c (pv 0) pa_nil))))), ?_⟩
      refine ⟨_, rfl, (by show 2 ≤ sizeLine; decide), fun tt ft => ?_⟩
      have S1 := Same.upd (o := .tup [.ref cLeaf, .ref cInner]) ft
      have x1 : DV (fun _ => False) _ v d := x.keep (fun a o _ z => S1 a o z) fun _ z => z
      refine ⟨v, .ref tt, tyD d, false, rfl, .inl x1.thg, .inr (.inr ⟨tt, _, rfl, upd_same, cs, ?_⟩), _, rfl, iteF ?_⟩
      · show PySem.W.kitAny K (tyD d) [.ref cLeaf, .ref cInner] = some false
        unfold PySem.W.kitAny
        rw [kn.c]
        dsimp only
        unfold PySem.W.kitAny
        rw [kn.i]
        rfl
      · exact ⟨_, rfl, v, fun _ => False, d, rfl, x1, o, k _ S1⟩
end
end K11

set_option Elab.async false
set_option linter.all false
set_option maxRecDepth 100000
set_option maxHeartbeats 1000000
namespace K11
open PySem L2
theorem okd_i {i : Int} (h : i.natAbs ≤ 10 ^ 30) : Okd 100000 (.int i) := okd_mono (small_int h).ok (by decide)
theorem okd_non : Okd 100000 .none := okd_mono small_none.ok (by decide)
theorem dv_lst {H : Hp} {l : Addr} {ns : List Int} (e : H l = some (.lst (ns.map V.int))) : DV (fun _ => False) H (.ref l) (.list (ns.map PyData.int)) := .lst (fun z => z) e (dvs_ints ns)
theorem up_small {ks : List Int} (h : Up ks) : ∀ z ∈ ks, z.natAbs ≤ 10 ^ 30 := fun z hz => by have := h.2 z hz; omega
theorem in_small {gs : List Int} (h : ∀ g ∈ gs, -999999999 ≤ g ∧ g ≤ 999999999) : ∀ z ∈ gs, z.natAbs ≤ 10 ^ 30 := fun z hz => by have := h z hz; omega
section
variable {P : Program} {w : World} {K : PySem.W.Frag} {mg : Str → Option Value} {base : Heap}
abbrev s__law_lists_right : Stmt := top 39
theorem sc__law_lists_right : FnScope ["_law_page", "_law_keys_here", "_law_goods", "_law_told", "_law_due"] ["_law_page", "_law_keys_here", "_law_goods"] (defScope s__law_lists_right) := ⟨rfl, rfl, rfl, by decide +kernel, rfl, by decide +kernel, by decide +kernel⟩
def spLR (C : Addr) : Sp := fun vs H Q _ => ∃ (x dx lk lg : Addr) (ks gs : List Int), vs = [.ref x, .ref lk, .ref lg] ∧ PgI C dx H x ks gs ∧ H lk = some (.lst (ks.map V.int)) ∧ H lg = some (.lst (gs.map V.int)) ∧ ∀ H', Same H H' → Q (.bl true) H'
theorem ok_lr {C : Addr} (hd : ∃ f fd, Dn K mg "_law_lists_right" "_law_lists_right" s__law_lists_right ["_law_page", "_law_keys_here", "_law_goods"] f fd) (T : Txt K mg) (cl : InsC K C)
    (k1 : MtOk P w K mg base CX0 C "all_keys" ["self"] 1 (spRow C true)) (g1 : MtOk P w K mg base CX0 C "goods" ["self"] 1 (spRow C false)) (n1 : MtOk P w K mg base CX0 C "many" ["self"] 1 (spMany C)) :
    OkD P w K mg base "_law_lists_right" s__law_lists_right ["_law_page", "_law_keys_here", "_law_goods"] 2 (spLR C) := by
  obtain ⟨f, fd, D⟩ := hd
  obtain ⟨fK, fdK, Me_all_keys, B_all_keys, G_all_keys⟩ := k1
  obtain ⟨fG, fdG, Me_goods, B_goods, G_goods⟩ := g1
  obtain ⟨fN, fdN, Me_many, B_many, G_many⟩ := n1
  have CL := cl.cl
  refine ⟨f, fd, D, D.fn.ok sc__law_lists_right (fun vs H Q E h => ?_) (fun cdv A outer s H vs Q E hr h => ?_)⟩
  · obtain ⟨_, _, _, _, _, _, rfl, _⟩ := h
    rfl
  · obtain ⟨x, dx, lk, lg, ks, gs, rfl, pg, hk, hg, k⟩ := h
    have sc := sc__law_lists_right
    have hu := hr.units0
    have okk := Okd.row (up_small pg.up) (by have := pg.few; omega)
    have okg := Okd.row (in_small pg.ok) (by have := pg.few; have := pg.len; omega)
    refine' ⟨_, (pss_cons (ps_for PassesOwn.never rfl (pi_list (pe_lst (pa_c (pe_tup (pa_c (pe_meth0 (pv 0) CL Me_all_keys G_all_keys (hr.mono (by decide)) B_all_keys .nil pass0) (pa_c (pv 1) pa_nil))) (pa_c (pe_tup (pa_c (pe_meth0 (pv 0) CL Me_goods G_goods (hr.mono (by decide)) B_goods .nil pass0) (pa_c (pv 2) pa_nil))) pa_nil)))) (pg_tup rfl (pgs_cons (pg_name (i := 3) sc.nd rfl (Or.inl rfl)) (pgs_cons (pg_name (i := 4) sc.nd rfl (Or.inl rfl)) pgs_nil)))
      (pss_cons (ps_if (PW.pt (pw_or (pt_not (pt_val (pe_callB call_inst rfl T.n_isinstance bt_isinstance (pa_c (pv 3) (pa_c (pe_bltn (v := .ty "list") rfl T.n_list bt_list rfl) pa_nil))))) (pw_or1 (pt_cmpR op_ne (pe_callB (call_reprD hr.gd hr.units) rfl T.n_repr bt_repr (pa_c (pv 3) pa_nil)) (pe_callB (call_reprD hr.gd hr.units) rfl T.n_repr bt_repr (pa_c (pv 4) pa_nil)) (nomark _)))))
      (pss_one (ps_ret pe_bl))
      pss_nil)
    (pss_one (ps_expr (pe_bm PySem.F.plainAttrs_list PySem.F.slot_list_append PySem.F.type_list_append mt_append (pv 3) (pa_c pe_int pa_nil))))))
    (pss_one (ps_ret (pe_and (pe_cmpR op_eq (pe_callB (call_reprD hr.gd hr.units) rfl T.n_repr bt_repr (pa_c (pe_meth0 (pv 0) CL Me_many G_many (hr.mono (by decide)) B_many .nil pass0) pa_nil)) (pe_callB (call_reprD hr.gd hr.units) rfl T.n_repr bt_repr (pa_c (pe_callB call_len_seq rfl T.n_len bt_len (pa_c (pv 1) pa_nil)) pa_nil)) (nomark _)) (pe_and (pe_cmpR (op_eqL hu) (pe_meth0 (pv 0) CL Me_all_keys G_all_keys (hr.mono (by decide)) B_all_keys .nil pass0) (pv 1) (nomark _)) (pe_one (pe_cmpR (op_eqL hu) (pe_meth0 (pv 0) CL Me_goods G_goods (hr.mono (by decide)) B_goods .nil pass0) (pv 2) (nomark _)))))))), ?_⟩
    obtain ⟨tk, tg, hx, hkr, hgr⟩ := pg.pg
    refine ⟨_, rfl, x, dx, _, rfl, hx, rfl, x, dx, _, _, rfl, pg.pg, fun l1 f1 => ?_⟩
    have S1 := Same.upd (o := .lst (if true = true then ks.map V.int else gs.map V.int)) f1
    have e1 := upd_same (H := H) (a := l1) (o := .lst (if true = true then ks.map V.int else gs.map V.int))
    generalize upd H l1 _ = H1 at *
    refine ⟨_, rfl, (by show 2 ≤ sizeLine; decide), fun t1 ft1 => ?_⟩
    have S2 := Same.upd (o := .tup [.ref l1, .ref lk]) ft1
    have et1 := upd_same (H := H1) (a := t1) (o := .tup [.ref l1, .ref lk])
    have S02 := S1.trans S2
    replace e1 := S2 _ _ e1
    generalize upd H1 t1 (.tup [.ref l1, .ref lk]) = H2 at *
    refine ⟨_, rfl, x, dx, _, rfl, S02 _ _ hx, rfl, x, dx, _, _, rfl, (pg.keep S02).pg, fun l2 f2 => ?_⟩
    have S3 := Same.upd (o := .lst (if false = true then ks.map V.int else gs.map V.int)) f2
    have e2 := upd_same (H := H2) (a := l2) (o := .lst (if false = true then ks.map V.int else gs.map V.int))
    have S03 := S02.trans S3
    have n12 : l1 ≠ l2 := ne_of_none e1 f2
    have fl2 := S02.free f2
    replace e1 := S3 _ _ e1
    replace et1 := S3 _ _ et1
    generalize upd H2 l2 _ = H3 at *
    refine ⟨_, rfl, (by show 2 ≤ sizeLine; decide), fun t2 ft2 => ?_⟩
    have S4 := Same.upd (o := .tup [.ref l2, .ref lg]) ft2
    have et2 := upd_same (H := H3) (a := t2) (o := .tup [.ref l2, .ref lg])
    have S04 := S03.trans S4
    replace e1 := S4 _ _ e1
    replace et1 := S4 _ _ et1
    replace e2 := S4 _ _ e2
    generalize upd H3 t2 (.tup [.ref l2, .ref lg]) = H4 at *
    refine ⟨(by show 2 ≤ sizeLine; decide), fun L fL => ?_⟩
    have S5 := Same.upd (o := .lst [.ref t1, .ref t2]) fL
    have eL := upd_same (H := H4) (a := L) (o := .lst [.ref t1, .ref t2])
    have S05 := S04.trans S5
    have nL1 : L ≠ l1 := fun z => by rw [z, e1] at fL; cases fL
    have nL2 : L ≠ l2 := fun z => by rw [z, e2] at fL; cases fL
    replace e1 := S5 _ _ e1
    replace et1 := S5 _ _ et1
    replace e2 := S5 _ _ e2
    replace et2 := S5 _ _ et2
    generalize upd H4 L (.lst [.ref t1, .ref t2]) = H5 at *
    clear S1 S2 S3 S4 S5 S02 S03 S04
    refine ⟨L, rfl, ⟨_, SqL.of eL⟩, for_list (fun i σ H6 => (∃ o3 o4, σ = [some (.ref x), some (.ref lk), some (.ref lg), o3, o4]) ∧ Same H H6 ∧ H6 L = some (.lst [.ref t1, .ref t2]) ∧ H6 t1 = some (.tup [.ref l1, .ref lk]) ∧ H6 t2 = some (.tup [.ref l2, .ref lg]) ∧ (i = 0 → H6 l1 = some (.lst (ks.map V.int))) ∧ (i ≤ 1 → H6 l2 = some (.lst (gs.map V.int)))) ⟨⟨none, none, rfl⟩, S05, eL, et1, et2, fun _ => e1, fun _ => e2⟩ (fun i σ H6 _ ⟨_, _, e, _⟩ => SqL.of e) ?_ ?_⟩
    · rintro i v σ H6 hi ⟨⟨o3, o4, rfl⟩, S6, eL6, et16, et26, e16, e26⟩
      have hi2 : i < 2 := (List.getElem?_eq_some_iff.mp hi).1
      have hcase : (i = 0 ∧ v = .ref t1) ∨ (i = 1 ∧ v = .ref t2) := by
        match i, hi with
        | 0, hi => cases hi; exact .inl ⟨rfl, rfl⟩
        | 1, hi => cases hi; exact .inr ⟨rfl, rfl⟩
      rcases hcase with ⟨rfl, rfl⟩ | ⟨rfl, rfl⟩
      · have e1' := e16 rfl
        have e2' := e26 (by decide)
        refine ⟨t1, _, rfl, SqT.of et16, rfl, _, _, rfl, _, _, rfl, rfl, ?_⟩
        refine ⟨_, rfl, .ref l1, _, _, _, rfl, (dv_lst e1').thg, .inl ⟨_, rfl, inst_lst (dv_lst e1')⟩, _, rfl, iteF ?_⟩
        refine ⟨_, rfl, _, _, _, rfl, dv_lst e1', okk, _, rfl, _, _, _, rfl, dv_lst (S6 _ _ hk), okk, rfl, _, rfl, iteE (c := false) (by rw [decide_eq_true rfl]; rfl) (iteF ?_)⟩
        refine ⟨_, rfl, .inl ⟨rfl, _, SqL.of e1'⟩, l1, _, _, rfl, rfl, e1', (by rw [List.length_map]; have := pg.few; have := big1000; omega), ⟨_, _, rfl⟩, fun c o z => ?_, ?_, ?_, ?_, fun z => absurd z (by decide), fun _ => ?_⟩
        · rw [upd_ne (ne_of_none z f1)]; exact S6 _ _ z
        · rw [upd_ne nL1]; exact eL6
        · rw [upd_ne (ne_of et16 e1' (by intro z; cases z))]; exact et16
        · rw [upd_ne (ne_of et26 e1' (by intro z; cases z))]; exact et26
        · rw [upd_ne (Ne.symm n12)]; exact e2'
      · have e2' := e26 (by decide)
        refine ⟨t2, _, rfl, SqT.of et26, rfl, _, _, rfl, _, _, rfl, rfl, ?_⟩
        refine ⟨_, rfl, .ref l2, _, _, _, rfl, (dv_lst e2').thg, .inl ⟨_, rfl, inst_lst (dv_lst e2')⟩, _, rfl, iteF ?_⟩
        refine ⟨_, rfl, _, _, _, rfl, dv_lst e2', okg, _, rfl, _, _, _, rfl, dv_lst (S6 _ _ hg), okg, rfl, _, rfl, iteE (c := false) (by rw [decide_eq_true rfl]; rfl) (iteF ?_)⟩
        refine ⟨_, rfl, .inl ⟨rfl, _, SqL.of e2'⟩, l2, _, _, rfl, rfl, e2', (by rw [List.length_map]; have := pg.few; have := pg.len; have := big1000; omega), ⟨_, _, rfl⟩, fun c o z => ?_, ?_, ?_, ?_, fun z => absurd z (by decide), fun z => absurd z (by decide)⟩
        · rw [upd_ne (ne_of_none z fl2)]; exact S6 _ _ z
        · rw [upd_ne nL2]; exact eL6
        · rw [upd_ne (ne_of et16 e2' (by intro z; cases z))]; exact et16
        · rw [upd_ne (ne_of et26 e2' (by intro z; cases z))]; exact et26
    · rintro σ H6 ⟨⟨o3, o4, rfl⟩, S6, _⟩
      have pg6 := pg.keep S6
      have nz : ((ks.map V.int).length : Int).natAbs ≤ 10 ^ 30 := by rw [List.length_map]; have := pg.few; omega
      refine ⟨_, rfl, x, dx, _, rfl, S6 _ _ hx, rfl, x, dx, _, _, rfl, pg6.pg, _, fun _ => False, _, rfl, .int _, okd_i nz, _, rfl, lk, _, rfl, .inl (SqL.of (S6 _ _ hk)), _, fun _ => False, _, rfl, .int _, okd_i nz, rfl, _, rfl, iteE (c := true) (decide_eq_true rfl) (iteT ?_)⟩
      refine ⟨_, rfl, x, dx, _, rfl, S6 _ _ hx, rfl, x, dx, _, _, rfl, pg6.pg, fun l7 f7 => ?_⟩
      have S7 := Same.upd (o := .lst (if true = true then ks.map V.int else gs.map V.int)) f7
      have S07 := S6.trans S7
      refine ⟨_, rfl, _, _, _, _, rfl, rfl, SqL.of upd_same, SqL.of (S07 _ _ hk), okPs_self plain_ints, _, rfl, iteE (c := true) (by rw [if_pos rfl]; exact eqPs_self) (iteT ?_)⟩
      generalize upd H6 l7 _ = H7 at *
      refine ⟨_, rfl, x, dx, _, rfl, S07 _ _ hx, rfl, x, dx, _, _, rfl, (pg.keep S07).pg, fun l8 f8 => ?_⟩
      have S8 := Same.upd (o := .lst (if false = true then ks.map V.int else gs.map V.int)) f8
      refine ⟨_, rfl, _, _, _, _, rfl, rfl, SqL.of upd_same, SqL.of (S8 _ _ (S07 _ _ hg)), okPs_self plain_ints, ?_⟩
      rw [if_neg Bool.false_ne_true]
      have := k _ (S07.trans S8)
      show Q (.bl (eqPs (gs.map V.int) (gs.map V.int))) _
      rw [eqPs_self]
      exact this
end
end K11

set_option Elab.async false
set_option linter.all false
set_option maxRecDepth 100000
set_option maxHeartbeats 1000000
namespace K11
open PySem L2
section
variable {P : Program} {w : World} {K : PySem.W.Frag} {mg : Str → Option Value} {base : Heap}
abbrev s__law_goods_right : Stmt := top 40
theorem sc__law_goods_right : FnScope ["_law_page", "_law_keys_here", "_law_goods", "_law_known", "_law_key"] ["_law_page", "_law_keys_here", "_law_goods"] (defScope s__law_goods_right) := ⟨rfl, rfl, rfl, by decide +kernel, rfl, by decide +kernel, by decide +kernel⟩
theorem ok_gr {C cK : Addr} (hd : ∃ f fd, Dn K mg "_law_goods_right" "_law_goods_right" s__law_goods_right ["_law_page", "_law_keys_here", "_law_goods"] f fd) (T : Txt K mg) (cl : InsC K C)
    (h1 : OkD P w K mg base "_law_near" s__law_near ["_law_keys_here"] 1 spNear) (g1 : MtOk P w K mg base (CXo P w) C "good" ["self", "key"] 6 (spLGood K C cK)) :
    OkD P w K mg base "_law_goods_right" s__law_goods_right ["_law_page", "_law_keys_here", "_law_goods"] 8 (spLR C) := by
  obtain ⟨f, fd, D⟩ := hd
  obtain ⟨f1, fd1, D_law_near, G_law_near⟩ := h1
  obtain ⟨fG, fdG, Me_good, B_good, G_good⟩ := g1
  have CL := cl.cl
  refine ⟨f, fd, D, D.fn.ok sc__law_goods_right (fun vs H Q E h => ?_) (fun cdv A outer s H vs Q E hr h => ?_)⟩
  · obtain ⟨_, _, _, _, _, _, rfl, _⟩ := h
    rfl
  · obtain ⟨x, dx, lk, lg, ks, gs, rfl, pg, hk, hg, k⟩ := h
    have sc := sc__law_goods_right
    refine' ⟨_, (pss_cons (ps_set (i := 3) sc.nd rfl (Or.inl rfl) (pe_dictZip (tp := false) hr.hd rfl T.n_dict rfl T.n_zip bt_dict bt_zip (pa_c (pv 1) (pa_c (pv 2) pa_nil))))
    (pss_cons (ps_for PassesOwn.never rfl (pi_list (pe_call G_law_near (hr.mono (by decide)) rfl D_law_near.m D_law_near.fn.kp D_law_near.b .nil pass0 (pa_c (pv 1) pa_nil))) (pg_name (i := 4) sc.nd rfl (Or.inl rfl))
      (pss_one (ps_if (pt_cmpR op_ne (pe_callB (call_reprD hr.gd hr.units) rfl T.n_repr bt_repr (pa_c (pe_meth (pv 0) CL Me_good G_good (hr.mono (by decide)) B_good .nil passX (pa_c (pv 4) pa_nil)) pa_nil)) (pe_callB (call_reprD hr.gd hr.units) rfl T.n_repr bt_repr (pa_c (pe_dget1 (hu_of hr) (pv 3) (pv 4) ⟨rfl, rfl, rfl, rfl⟩) pa_nil)) (nomark _))
      (pss_one (ps_ret pe_bl))
      pss_nil)))
    (pss_one (ps_ret pe_bl)))), ?_⟩
    obtain ⟨tk, tg, hx, hkr, hgr⟩ := pg.pg
    refine ⟨_, rfl, _, rfl, lk, lg, ks.map Sum.inl, gs.map V.int, rfl, (by rw [kv_ints]; exact SqL.of hk), SqL.of hg, (by rw [List.length_map, List.length_map, pg.len]), inl_nd pg.up.nd, fun d fd => ?_⟩
    have kn := knows_zip pg.up.nd pg.len
    generalize (ks.map (Sum.inl : Int → Key)).zip (gs.map V.int) = kvs0 at *
    have S1 := Same.upd (o := .dK kvs0) fd
    have ed := upd_same (H := H) (a := d) (o := .dK kvs0)
    generalize upd H d (.dK kvs0) = H1 at *
    refine ⟨_, rfl, lk, ks, rfl, S1 _ _ hk, by have := pg.few; omega, pg.up.2, fun l H2 ns fl S2 el bn _ _ => ?_⟩
    have S02 := S1.trans S2
    have ed2 := S2 _ _ ed
    refine ⟨l, rfl, ⟨_, SqL.of el⟩, for_list (fun i σ H3 => (∃ o4, σ = [some (.ref x), some (.ref lk), some (.ref lg), some (.ref d), o4]) ∧ H2 = H3) ⟨⟨none, rfl⟩, rfl⟩ (fun i σ H3 _ ⟨_, e⟩ => by subst e; exact SqL.of el) ?_ ?_⟩
    · rintro i v σ H3 hi ⟨⟨o4, rfl⟩, rfl⟩
      rw [List.getElem?_map] at hi
      obtain ⟨z, hz, rfl⟩ := Option.map_eq_some_iff.mp hi
      have bz := bn z (List.mem_of_getElem? hz)
      have kz := keyV_of bz.1 bz.2
      refine ⟨_, rfl, x, dx, _, rfl, S02 _ _ hx, rfl, _, rfl, x, dx, .int z, _, ks, gs, rfl, pg.keep S02, .int z, fun c => absurd (kz.symm.trans c) (by decide), ?_, ?_⟩
      · intro k' ek _ nk
        cases ek
        have dg := DGet.k (k := Sum.inl z) ed2
        rw [(knows_none kn z).mpr nk] at dg
        refine ⟨_, fun _ => False, .none, rfl, .non, okd_non, _, rfl, d, rfl, .inl ⟨_, .inl ed2⟩, _, rfl, _, dg, _, fun _ => False, .none, rfl, .non, okd_non, rfl, _, rfl, iteE (c := false) (by rw [decide_eq_true rfl]; rfl) (iteF ⟨⟨_, rfl⟩, rfl⟩)⟩
      · intro k' g j ek hj hjg
        cases ek
        have dg := DGet.k (k := Sum.inl z) ed2
        rw [kn.2 j z g hj hjg] at dg
        have bg := pg.ok g (List.mem_of_getElem? hjg)
        refine ⟨_, fun _ => False, .int g, rfl, .int g, okd_i (by omega), _, rfl, d, rfl, .inl ⟨_, .inl ed2⟩, _, rfl, _, dg, _, fun _ => False, .int g, rfl, .int g, okd_i (by omega), rfl, _, rfl, iteE (c := false) (by rw [decide_eq_true rfl]; rfl) (iteF ⟨⟨_, rfl⟩, rfl⟩)⟩
    · rintro σ H3 ⟨⟨o4, rfl⟩, rfl⟩
      exact k _ S02
abbrev s__law_parts_right : Stmt := top 41
theorem sc__law_parts_right : FnScope ["_law_box_here", "_law_page", "_law_keys_here", "_law_goods", "_law_ends", "_law_turn", "_law_low", "_law_high", "_law_due", "_law_key", "_law_good_here", "_law_lap", "_law_found"] ["_law_box_here", "_law_page", "_law_keys_here", "_law_goods"] (defScope s__law_parts_right) := ⟨rfl, rfl, rfl, by decide +kernel, rfl, by decide +kernel, by decide +kernel⟩
def spPR (C : Addr) : Sp := fun vs H Q _ => ∃ (p x dx lk lg : Addr) (n : Nat) (ks gs : List Int), vs = [.ref p, .ref x, .ref lk, .ref lg] ∧ Box H p n ∧ n ≤ 900000 ∧ PgI C dx H x ks gs ∧ H lk = some (.lst (ks.map V.int)) ∧ H lg = some (.lst (gs.map V.int)) ∧ lk ≠ p ∧ lg ≠ p ∧ ∀ H', Box H' p (n + 12) → KB p H H' → Q (.bl true) H'
end
end K11

set_option Elab.async false
set_option linter.all false
set_option maxRecDepth 100000
set_option maxHeartbeats 1000000
namespace K11
open PySem L2
theorem okd_prs {ps : List (Int × Int)} (h : ∀ p ∈ ps, p.1.natAbs ≤ 10 ^ 30 ∧ p.2.natAbs ≤ 10 ^ 30) (l : ps.length ≤ 100) : Okd 100000 (.list (ps.map prD)) := by
  have row : PyData.showableAll (ps.map prD) = true ∧ PyData.leavesShortAll 40 (ps.map prD) = true ∧ PyData.depthAll (ps.map prD) ≤ 3 ∧ PyData.weightAll (ps.map prD) ≤ 320 * ps.length := by
    clear l
    induction ps with
    | nil => exact ⟨rfl, rfl, by simp [PyData.depthAll], by simp [PyData.weightAll]⟩
    | cons p ps ih =>
      obtain ⟨a, b, c, e⟩ := ih fun q hq => h q (List.mem_cons_of_mem _ hq)
      have hp := h p (List.mem_cons_self ..)
      obtain ⟨a', b', c', e'⟩ := smalls_row (ds := [.int p.1, .int p.2]) fun d hd => by
        simp only [List.mem_cons, List.not_mem_nil, or_false] at hd
        rcases hd with rfl | rfl
        · exact small_int hp.1
        · exact small_int hp.2
      have e2 : ([PyData.int p.1, .int p.2] : List PyData).length = 2 := rfl
      rw [e2] at e'
      simp only [List.map_cons, PyData.showableAll, PyData.leavesShortAll, PyData.depthAll, PyData.weightAll, prD, PyData.showable, PyData.leavesShort, PyData.depth, PyData.weight, List.length_cons] at a' b' c' e' ⊢
      refine ⟨by rw [a]; simpa using a', by rw [b]; simpa using b', by omega, by omega⟩
  obtain ⟨a, b, c, e⟩ := row
  refine ⟨a, b, ?_, ?_⟩
  · simp only [PyData.depth]; omega
  · simp only [PyData.weight]; omega
theorem end_thg {K : PySem.W.Frag} {H : Hp} {v : V} (h : endOk v = true) : ∃ t, Thg K H v t := by
  rcases endOk_two h with rfl | ⟨i, rfl⟩
  · exact ⟨_, .non⟩
  · exact ⟨_, .int i⟩
section
variable {P : Program} {w : World} {K : PySem.W.Frag} {mg : Str → Option Value} {base : Heap}
theorem ok_pr {C cK : Addr} (hd : ∃ f fd, Dn K mg "_law_parts_right" "_law_parts_right" s__law_parts_right ["_law_box_here", "_law_page", "_law_keys_here", "_law_goods"] f fd) (T : Txt K mg) (cl : InsC K C) (h0 : OkD P w K mg base "_law_take" s__law_take ["_law_box_here", "_law_many"] 1 spTake)
    (h1 : OkD P w K mg base "_law_near" s__law_near ["_law_keys_here"] 1 spNear) (g1 : MtOk P w K mg base (CXo P w) C "part" ["self", "low", "high"] 6 (spPart K C cK)) :
    OkD P w K mg base "_law_parts_right" s__law_parts_right ["_law_box_here", "_law_page", "_law_keys_here", "_law_goods"] 8 (spPR C) := by
  obtain ⟨f, fd, D⟩ := hd
  obtain ⟨f0, fd0, D_law_take, G_law_take⟩ := h0
  obtain ⟨f1, fd1, D_law_near, G_law_near⟩ := h1
  obtain ⟨fG, fdG, Me_part, B_part, G_part⟩ := g1
  have CL := cl.cl
  refine ⟨f, fd, D, D.fn.ok sc__law_parts_right (fun vs H Q E h => ?_) (fun cdv A outer s H vs Q E hr h => ?_)⟩
  · obtain ⟨_, _, _, _, _, _, _, _, rfl, _⟩ := h
    rfl
  · obtain ⟨p, x, dx, lk, lg, n, ks, gs, rfl, B, hn, pg, hk, hg, nkp, ngp, k⟩ := h
    have sc := sc__law_parts_right
    have few := pg.few
    have plen := pg.len
    refine' ⟨_, (pss_cons (ps_set (i := 4) sc.nd rfl (Or.inl rfl) (pe_op op_cat (pe_lst (pa_c pe_non pa_nil)) (pe_call G_law_near (hr.mono (by decide)) rfl D_law_near.m D_law_near.fn.kp D_law_near.b .nil pass0 (pa_c (pv 2) pa_nil))))
    (pss_cons (ps_for PassesOwn.never rfl (pi_range1 rfl T.n_range (pa_c pe_int pa_nil)) (pg_name (i := 5) sc.nd rfl (Or.inl rfl))
      (pss_cons (ps_par (i := 6) (j := 7) rfl sc.nd rfl rfl (by decide) rfl rfl (pa_c (pe_ix ix_list (pv 4) (pe_call G_law_take (hr.mono (by decide)) rfl D_law_take.m D_law_take.fn.kp D_law_take.b .nil pass0 (pa_c (pv 0) (pa_c (pe_callB call_len_seq rfl T.n_len bt_len (pa_c (pv 4) pa_nil)) pa_nil))) (fun _ _ => rfl)) (pa_c (pe_ix ix_list (pv 4) (pe_call G_law_take (hr.mono (by decide)) rfl D_law_take.m D_law_take.fn.kp D_law_take.b .nil pass0 (pa_c (pv 0) (pa_c (pe_callB call_len_seq rfl T.n_len bt_len (pa_c (pv 4) pa_nil)) pa_nil))) (fun _ _ => rfl)) pa_nil)) rfl)
    (pss_cons (ps_set (i := 8) sc.nd rfl (Or.inl rfl) (pe_lst pa_nil))
    (pss_cons (ps_for PassesOwn.never rfl (pi_zip false rfl T.n_zip bt_zip (pa_c (pv 2) (pa_c (pv 3) pa_nil))) (pg_tup rfl (pgs_cons (pg_name (i := 9) sc.nd rfl (Or.inl rfl)) (pgs_cons (pg_name (i := 10) sc.nd rfl (Or.inl rfl)) pgs_nil)))
      (pss_one (ps_if (PW.pt (pw_and (PW.pt (pw_or (pt_cmpR op_isN (pv 6) pe_non (nomark _)) (pw_or1 (pt_cmpR op_ge (pv 9) (pv 6) (nomark _))))) (pw_and1 (PW.pt (pw_or (pt_cmpR op_isN (pv 7) pe_non (nomark _)) (pw_or1 (pt_cmpR op_lt (pv 9) (pv 7) (nomark _))))))))
      (pss_one (ps_expr (pe_bm PySem.F.plainAttrs_list PySem.F.slot_list_append PySem.F.type_list_append mt_append (pv 8) (pa_c (pe_tup (pa_c (pv 9) (pa_c (pv 10) pa_nil))) pa_nil))))
      pss_nil)))
    (pss_one (ps_for PassesOwn.never rfl (pi_range1 rfl T.n_range (pa_c pe_int pa_nil)) (pg_name (i := 11) sc.nd rfl (Or.inl rfl))
      (pss_cons (ps_set (i := 12) sc.nd rfl (Or.inl rfl) (pe_meth (pv 1) CL Me_part G_part (hr.mono (by decide)) B_part .nil passX (pa_c (pv 6) (pa_c (pv 7) pa_nil))))
    (pss_cons (ps_if (PW.pt (pw_or (pt_not (pt_val (pe_callB call_inst rfl T.n_isinstance bt_isinstance (pa_c (pv 12) (pa_c (pe_bltn (v := .ty "list") rfl T.n_list bt_list rfl) pa_nil))))) (pw_or1 (pt_cmpR op_ne (pe_callB (call_reprD hr.gd hr.units) rfl T.n_repr bt_repr (pa_c (pv 12) pa_nil)) (pe_callB (call_reprD hr.gd hr.units) rfl T.n_repr bt_repr (pa_c (pv 8) pa_nil)) (nomark _)))))
      (pss_one (ps_ret pe_bl))
      pss_nil)
    (pss_one (ps_expr (pe_bm PySem.F.plainAttrs_list PySem.F.slot_list_append PySem.F.type_list_append mt_append (pv 12) (pa_c (pe_tup (pa_c pe_int (pa_c pe_int pa_nil))) pa_nil))))))))))))
    (pss_one (ps_ret pe_bl)))), ?_⟩
    obtain ⟨tk, tg, hx, hkr, hgr⟩ := pg.pg
    refine ⟨(by show 1 ≤ sizeLine; decide), fun l0 f0 => ?_⟩
    have S1 := Same.upd (o := .lst [.non]) f0
    have e0 := upd_same (H := H) (a := l0) (o := .lst [.non])
    generalize upd H l0 (.lst [.non]) = H1 at *
    refine ⟨_, rfl, lk, ks, rfl, S1 _ _ hk, by omega, pg.up.2, fun l1 H2 ns fl1 S2 el1 bn _ nl => ?_⟩
    refine ⟨l0, l1, _, _, rfl, rfl, S2 _ _ e0, el1, by rw [List.length_map]; have := big1000; show 1 + ns.length ≤ _; omega, fun le fe => ?_⟩
    have S3 := Same.upd (o := .lst ([.non] ++ ns.map V.int)) fe
    have ee := upd_same (H := H2) (a := le) (o := .lst ([.non] ++ ns.map V.int))
    have S03 := (S1.trans S2).trans S3
    have B3 := B.same S03
    have nle : le ≠ p := (B.same (S1.trans S2)).ne (H1 := H2) fe
    generalize upd H2 le (.lst ([.non] ++ ns.map V.int)) = H3 at *
    have ends : ∀ v ∈ [V.non] ++ ns.map V.int, endOk v = true := fun v hv => by
      rcases List.mem_append.mp hv with h | h
      · rw [List.mem_singleton.mp h]; rfl
      · obtain ⟨z, hz, rfl⟩ := List.mem_map.mp h
        have := bn z hz
        exact keyV_of this.1 this.2
    have lend : ([V.non] ++ ns.map V.int).length = ns.length + 1 := by rw [List.length_append, List.length_map]; show 1 + ns.length = _; omega
    generalize ([V.non] ++ ns.map V.int) = es at *
    clear S1 S2 S3 e0 el1 f0 fe fl1
    have K3 : KB p H H3 := S03.kb
    have hxp : ∀ {H' : Hp}, KB p H H' → PgI C dx H' x ks gs := fun {H'} kb => by
      obtain ⟨_, _, _, e, _⟩ := B
      obtain ⟨⟨tk, tg, a, b, c⟩, p2, p3, p4, p5⟩ := pg
      exact ⟨⟨tk, tg, kb _ _ a (ne_of a e (by intro z; cases z)), kb _ _ b (ne_of b e (by intro z; cases z)), kb _ _ c (ne_of c e (by intro z; cases z))⟩, p2, p3, p4, p5⟩
    refine ⟨6, rfl, by decide, by decide, for_range (fun i σ H4 => (∃ o5 o6 o7 o8 o9 o10 o11 o12, σ = [some (.ref p), some (.ref x), some (.ref lk), some (.ref lg), some (.ref le), o5, o6, o7, o8, o9, o10, o11, o12]) ∧ Box H4 p (n + 2 * i) ∧ KB p H H4 ∧ H4 le = some (.lst es)) ⟨⟨none, none, none, none, none, none, none, none, rfl⟩, B3, K3, ee⟩ ?_ ?_⟩
    case refine_2 =>
      rintro σ H4 ⟨_, B4, K4, _⟩
      exact k _ (B4.mono (by show n + 2 * 6 ≤ _; omega)) K4
    rintro i σ H4 hi ⟨⟨o5, o6, o7, o8, o9, o10, o11, o12, rfl⟩, B4, K4, e4⟩
    have hi6 : i < 6 := hi
    refine ⟨_, rfl, _, rfl, _, rfl, le, _, rfl, .inl (SqL.of e4), p, _, n + 2 * i, rfl, B4, by omega, by rw [lend]; omega, by rw [lend]; omega, fun r5 H5 a0 a1 B5 k5 => ?_⟩
    obtain ⟨lo, hlo, elo⟩ := atI_mem (xs := es) a0 a1
    have e5 := k5 _ _ e4 nle
    refine ⟨le, _, _, _, rfl, rfl, SqL.of e5, elo, ?_⟩
    refine ⟨_, rfl, _, rfl, _, rfl, le, _, rfl, .inl (SqL.of e5), p, _, n + 2 * i + 1, rfl, B5, by omega, by rw [lend]; omega, by rw [lend]; omega, fun r6 H6 b0 b1 B6 k6 => ?_⟩
    obtain ⟨hi', hhi, ehi⟩ := atI_mem (xs := es) b0 b1
    have e6 := k6 _ _ e5 nle
    refine ⟨le, _, _, _, rfl, rfl, SqL.of e6, ehi, _, _, rfl, ?_⟩
    have K6 := (K4.trans k5).trans k6
    have okl := ends lo hlo
    have okh := ends hi' hhi
    have hk6 := K6 _ _ hk nkp
    have hg6 := K6 _ _ hg ngp
    have pg6 := hxp K6
    clear B4 B5 K4 k5 k6 e4 e5
    refine ⟨(by show 0 ≤ sizeLine; decide), fun ld fld => ?_⟩
    have S7 := Same.upd (o := .lst []) fld
    have e7 := upd_same (H := H6) (a := ld) (o := .lst [])
    generalize upd H6 ld (.lst []) = H7 at *
    have lz : (ks.zip gs).length = ks.length := by rw [List.length_zip, plen, Nat.min_self]
    refine ⟨_, rfl, _, rfl, lk, lg, rfl, ⟨_, SqL.of (S7 _ _ hk6)⟩, ⟨_, SqL.of (S7 _ _ hg6)⟩, for_zip (K := K) (tp := false) (xs := ks.map V.int) (ys := gs.map V.int) (by rw [List.length_map, List.length_map, plen]) (fun j σ H8 => (∃ o9 o10, σ = [some (.ref p), some (.ref x), some (.ref lk), some (.ref lg), some (.ref le), some (.int (0 + (i : Int))), some lo, some hi', some (.ref ld), o9, o10, o11, o12]) ∧ Same H6 H8 ∧ ∃ vs, H8 ld = some (.lst vs) ∧ Prs H8 vs (((ks.zip gs).take j).filter fun y => inS lo hi' y.1)) ⟨⟨_, _, rfl⟩, S7, [], e7, .nil⟩ (fun j σ H8 _ ⟨_, S, _⟩ => ⟨SqL.of (S _ _ hk6), SqL.of (S _ _ hg6)⟩) ?_ ?_⟩
    · rintro j v v' t σ H8 hv hv' ⟨⟨o9, o10, rfl⟩, S8, vs, e8, r8⟩ ft
      rw [List.getElem?_map] at hv hv'
      obtain ⟨kk, hkk, rfl⟩ := Option.map_eq_some_iff.mp hv
      obtain ⟨gg, hgg, rfl⟩ := Option.map_eq_some_iff.mp hv'
      have tkn : (ks.zip gs).take (j + 1) = (ks.zip gs).take j ++ [(kk, gg)] := by
        rw [List.take_add_one, (List.getElem?_zip_eq_some (z := (kk, gg))).mpr ⟨hkk, hgg⟩]
        rfl
      have S9 := Same.upd (o := .tup [.int kk, .int gg]) ft
      have e9 := S9 _ _ e8
      have r9 := r8.keep S9
      have S69 := S8.trans S9
      have lv := r8.length
      have lf : (((ks.zip gs).take j).filter fun y => inS lo hi' y.1).length ≤ 100 := Nat.le_trans (List.length_filter_le _ _) (by rw [List.length_take]; omega)
      refine ⟨t, _, rfl, SqT.of upd_same, rfl, _, _, rfl, _, _, rfl, rfl, ?_⟩
      generalize upd H8 t (.tup [.int kk, .int gg]) = H9 at *
      have skip : inS lo hi' kk = false → ((∃ o9 o10, [some (V.ref p), some (.ref x), some (.ref lk), some (.ref lg), some (.ref le), some (.int (0 + (i : Int))), some lo, some hi', some (.ref ld), some (.int kk), some (.int gg), o11, o12] = [some (V.ref p), some (.ref x), some (.ref lk), some (.ref lg), some (.ref le), some (.int (0 + (i : Int))), some lo, some hi', some (.ref ld), o9, o10, o11, o12]) ∧ Same H6 H9 ∧ ∃ vs, H9 ld = some (.lst vs) ∧ Prs H9 vs (((ks.zip gs).take (j + 1)).filter fun y => inS lo hi' y.1)) := fun c => ⟨⟨_, _, rfl⟩, S69, vs, e9, by rw [tkn, List.filter_append]; simpa [c] using r9⟩
      cases hin : inS lo hi' kk with
      | true =>
        rcases endOk_two okl with rfl | ⟨a, rfl⟩ <;> rcases endOk_two okh with rfl | ⟨b, rfl⟩
        · refine ⟨_, rfl, rfl, _, rfl, iteT (iteT ⟨_, rfl, rfl, _, rfl, iteT (iteT ?_)⟩)⟩
          refine ⟨_, rfl, .inl ⟨rfl, _, SqL.of e9⟩, _, rfl, _, rfl, (by show 2 ≤ sizeLine; decide), fun t' ft' => ?_⟩
          have S10 := Same.upd (o := .tup [.int kk, .int gg]) ft'
          have e10 := S10 _ _ e9
          refine ⟨ld, _, _, rfl, rfl, e10, by have := big1000; omega, ⟨_, _, rfl⟩, fun c o z => ?_, vs ++ [.ref t'], upd_same, ?_⟩
          · rw [upd_ne (ne_of_none z fld)]
            exact S10 _ _ (S69 _ _ z)
          · rw [tkn, List.filter_append]
            have r10 := ((r9.keep S10).snoc (t := t') (k := kk) (g := gg) upd_same).upd (ys := vs ++ [.ref t']) e10
            simpa [hin] using r10
        · have c1 : decide (kk < b) = true := by simpa [inS] using hin
          refine ⟨_, rfl, rfl, _, rfl, iteT (iteT ⟨_, rfl, rfl, _, rfl, iteF ⟨_, rfl, _, rfl, _, _, rfl, rfl, _, rfl, iteE c1 (iteT ?_)⟩⟩)⟩
          refine ⟨_, rfl, .inl ⟨rfl, _, SqL.of e9⟩, _, rfl, _, rfl, (by show 2 ≤ sizeLine; decide), fun t' ft' => ?_⟩
          have S10 := Same.upd (o := .tup [.int kk, .int gg]) ft'
          have e10 := S10 _ _ e9
          refine ⟨ld, _, _, rfl, rfl, e10, by have := big1000; omega, ⟨_, _, rfl⟩, fun c o z => ?_, vs ++ [.ref t'], upd_same, ?_⟩
          · rw [upd_ne (ne_of_none z fld)]
            exact S10 _ _ (S69 _ _ z)
          · rw [tkn, List.filter_append]
            have r10 := ((r9.keep S10).snoc (t := t') (k := kk) (g := gg) upd_same).upd (ys := vs ++ [.ref t']) e10
            simpa [hin] using r10
        · have c1 : decide (a ≤ kk) = true := by simpa [inS] using hin
          refine ⟨_, rfl, rfl, _, rfl, iteF ⟨_, rfl, _, rfl, _, _, rfl, rfl, _, rfl, iteE c1 (iteT ⟨_, rfl, rfl, _, rfl, iteT (iteT ?_)⟩)⟩⟩
          refine ⟨_, rfl, .inl ⟨rfl, _, SqL.of e9⟩, _, rfl, _, rfl, (by show 2 ≤ sizeLine; decide), fun t' ft' => ?_⟩
          have S10 := Same.upd (o := .tup [.int kk, .int gg]) ft'
          have e10 := S10 _ _ e9
          refine ⟨ld, _, _, rfl, rfl, e10, by have := big1000; omega, ⟨_, _, rfl⟩, fun c o z => ?_, vs ++ [.ref t'], upd_same, ?_⟩
          · rw [upd_ne (ne_of_none z fld)]
            exact S10 _ _ (S69 _ _ z)
          · rw [tkn, List.filter_append]
            have r10 := ((r9.keep S10).snoc (t := t') (k := kk) (g := gg) upd_same).upd (ys := vs ++ [.ref t']) e10
            simpa [hin] using r10
        · have c0 : a ≤ kk ∧ kk < b := by simpa [inS] using hin
          refine ⟨_, rfl, rfl, _, rfl, iteF ⟨_, rfl, _, rfl, _, _, rfl, rfl, _, rfl, iteE (decide_eq_true c0.1) (iteT ⟨_, rfl, rfl, _, rfl, iteF ⟨_, rfl, _, rfl, _, _, rfl, rfl, _, rfl, iteE (decide_eq_true c0.2) (iteT ?_)⟩⟩)⟩⟩
          refine ⟨_, rfl, .inl ⟨rfl, _, SqL.of e9⟩, _, rfl, _, rfl, (by show 2 ≤ sizeLine; decide), fun t' ft' => ?_⟩
          have S10 := Same.upd (o := .tup [.int kk, .int gg]) ft'
          have e10 := S10 _ _ e9
          refine ⟨ld, _, _, rfl, rfl, e10, by have := big1000; omega, ⟨_, _, rfl⟩, fun c o z => ?_, vs ++ [.ref t'], upd_same, ?_⟩
          · rw [upd_ne (ne_of_none z fld)]
            exact S10 _ _ (S69 _ _ z)
          · rw [tkn, List.filter_append]
            have r10 := ((r9.keep S10).snoc (t := t') (k := kk) (g := gg) upd_same).upd (ys := vs ++ [.ref t']) e10
            simpa [hin] using r10
      | false =>
        have sk := skip hin
        rcases endOk_two okl with rfl | ⟨a, rfl⟩ <;> rcases endOk_two okh with rfl | ⟨b, rfl⟩
        · cases hin
        · have c1 : decide (kk < b) = false := by simpa [inS] using hin
          exact ⟨_, rfl, rfl, _, rfl, iteT (iteT ⟨_, rfl, rfl, _, rfl, iteF ⟨_, rfl, _, rfl, _, _, rfl, rfl, _, rfl, iteE c1 (iteF sk)⟩⟩)⟩
        · have c1 : decide (a ≤ kk) = false := by simpa [inS] using hin
          exact ⟨_, rfl, rfl, _, rfl, iteF ⟨_, rfl, _, rfl, _, _, rfl, rfl, _, rfl, iteE c1 (iteF (iteF sk))⟩⟩
        · by_cases c0 : a ≤ kk
          · have c1 : ¬ kk < b := fun z => by
              have : inS (.int a) (.int b) kk = true := by simp [inS, c0, z]
              rw [hin] at this
              cases this
            exact ⟨_, rfl, rfl, _, rfl, iteF ⟨_, rfl, _, rfl, _, _, rfl, rfl, _, rfl, iteE (decide_eq_true c0) (iteT ⟨_, rfl, rfl, _, rfl, iteF ⟨_, rfl, _, rfl, _, _, rfl, rfl, _, rfl, iteE (decide_eq_false c1) (iteF sk)⟩⟩)⟩⟩
          · exact ⟨_, rfl, rfl, _, rfl, iteF ⟨_, rfl, _, rfl, _, _, rfl, rfl, _, rfl, iteE (decide_eq_false c0) (iteF (iteF sk))⟩⟩
    · rintro σ H8 ⟨⟨o9, o10, rfl⟩, S8, vs, e8, r8⟩
      rw [List.length_map, List.take_of_length_le (by omega)] at r8
      have lf : ((ks.zip gs).filter fun y => inS lo hi' y.1).length ≤ 100 := Nat.le_trans (List.length_filter_le _ _) (by omega)
      have okp : Okd 100000 (.list (((ks.zip gs).filter fun y => inS lo hi' y.1).map prD)) := okd_prs (fun q hq => by
        obtain ⟨q1, q2⟩ := List.of_mem_zip (List.mem_filter.mp hq).1
        exact ⟨up_small pg.up _ q1, in_small pg.ok _ q2⟩) lf
      obtain ⟨t1, th1⟩ := end_thg (K := K) (H := H) okl
      obtain ⟨t2, th2⟩ := end_thg (K := K) (H := H) okh
      refine ⟨2, rfl, by decide, by decide, for_range (fun j σ H9 => (∃ o11 o12, σ = [some (.ref p), some (.ref x), some (.ref lk), some (.ref lg), some (.ref le), some (.int (0 + (i : Int))), some lo, some hi', some (.ref ld), o9, o10, o11, o12]) ∧ Same H8 H9) ⟨⟨_, _, rfl⟩, Same.refl _⟩ ?_ ?_⟩
      · rintro j σ H9 _ ⟨⟨o11, o12, rfl⟩, S9⟩
        have S69 := S8.trans S9
        obtain ⟨t1, th1⟩ := end_thg (K := K) (H := H9) okl
        obtain ⟨t2, th2⟩ := end_thg (K := K) (H := H9) okh
        have pg9 := pg6.keep S69
        obtain ⟨tk9, tg9, hx9, _⟩ := pg9.pg
        refine ⟨_, rfl, x, dx, _, rfl, hx9, rfl, _, rfl, _, rfl, x, dx, lo, hi', t1, t2, ks, gs, rfl, pg9, th1, th2, fun c => absurd (okl.symm.trans c) (by decide), fun _ c => absurd (okh.symm.trans c) (by decide), fun _ _ l H10 ws fl S10 e10 r10 => ?_⟩
        have dv1 : DV (fun _ => False) H10 (.ref l) (.list (((ks.zip gs).filter fun y => inS lo hi' y.1).map prD)) := .lst (fun z => z) e10 r10.dvs
        have S810 := S9.trans S10
        have dv2 : DV (fun _ => False) H10 (.ref ld) (.list (((ks.zip gs).filter fun y => inS lo hi' y.1).map prD)) := .lst (fun z => z) (S810 _ _ e8) (r8.keep S810).dvs
        refine ⟨_, rfl, .ref l, _, _, _, rfl, dv1.thg, .inl ⟨_, rfl, inst_lst dv1⟩, _, rfl, iteF ?_⟩
        refine ⟨_, rfl, _, _, _, rfl, dv1, okp, _, rfl, _, _, _, rfl, dv2, okp, rfl, _, rfl, iteE (c := false) (by rw [decide_eq_true rfl]; rfl) (iteF ?_)⟩
        refine ⟨_, rfl, .inl ⟨rfl, _, SqL.of e10⟩, (by show 2 ≤ sizeLine; decide), fun t' ft' => ?_⟩
        have S11 := Same.upd (o := .tup [.int 0, .int 0]) ft'
        have lw := r10.length
        refine ⟨l, _, _, rfl, rfl, S11 _ _ e10, by have := big1000; omega, ⟨_, _, rfl⟩, fun c o z => ?_⟩
        rw [upd_ne (ne_of_none (S9 _ _ z) fl)]
        exact S11 _ _ (S10 _ _ (S9 _ _ z))
      · rintro σ H9 ⟨⟨o11, o12, rfl⟩, S9⟩
        have S69 := S8.trans S9
        refine ⟨⟨_, _, _, _, _, _, _, _, rfl⟩, (B6.same S69).mono (by omega), K6.trans S69.kb, S69 _ _ e6⟩
end
end K11

set_option Elab.async false
set_option linter.all false
set_option maxRecDepth 100000
set_option maxHeartbeats 1000000
namespace K11
open PySem L2
def badOf (wy : Int) (ts : List V) : Option V :=
  match ts with
  | [v] => if keyV v = true then none else some v
  | [lo, hi] => if endOk lo = true then (if endOk hi = true then none else some hi) else some lo
  | _ => none
def toldOf : Option V → List V
  | none => [.str "told"]
  | some u => [.str "key", u]
theorem ix_listK {X : Cx} {K : PySem.W.Frag} (h : X.K = K) : IxR X (rIxL K) := h ▸ ix_list
section
variable {P : Program} {w : World} {K : PySem.W.Frag} {mg : Str → Option Value} {base : Heap}
theorem th_hitN {nm q fld wd : Str} {st : Stmt} {C TT fI e dx : Addr} {fd : FuncData} {ar : Option Addr} {b : Addr} {i j : Nat} {rest : TH} {D : Ends} {σ : St} {H0 H : Hp} {v : V} (x : ErN K mg nm q st fld C TT fI fd) (hi : i < σ.length) (S : Same H0 H) (h1 : H e = some (ExO C e (some dx) ar (some b))) (h2 : H dx = some (XdO dx [(fld, v)]))
    (r : ∀ l H2, Same H0 H2 → H0 l = none → H2 l = some (.lst [.str wd, v]) → D.nx (((σ.set i (some (.ref e))).set j (some (.ref l))).set i none) H2) : thAsN K C i (tAsg (tLst (tCons (tC (.str wd)) (tCons (tExFld K (tVar i) fld) tNil))) (gName j)) rest C e (some dx) ar b D σ H := by
  refine ⟨true, x.self, ?_⟩
  rw [if_pos rfl]
  refine ⟨.ref e, by simp [hi], e, C, dx, ar, some b, _, v, rfl, h1, h2, x.g, x.no, ?_, (by show 2 ≤ sizeLine; decide), fun l fl => ?_⟩
  · show ([(fld, v)] : List (Str × V)).lookup fld = some v
    rw [List.lookup_cons, beq_self_eq_true]
  · exact r l _ (S.trans (Same.upd fl)) (S.free fl) upd_same
abbrev s__law_refused : Stmt := top 45
theorem sc__law_refused : FnScope ["_law_page", "_law_way", "_law_things", "_law_found", "e"] ["_law_page", "_law_way", "_law_things"] (defScope s__law_refused) := ⟨rfl, rfl, rfl, by decide +kernel, rfl, by decide +kernel, by decide +kernel⟩
def spRef (K : PySem.W.Frag) (C : Addr) : Sp := fun vs H Q _ => ∃ (x dx lt : Addr) (wy : Int) (ts : List V) (ks gs : List Int), vs = [.ref x, .int wy, .ref lt] ∧ PgI C dx H x ks gs ∧ H lt = some (.lst ts) ∧ ((wy = 0 ∧ ∃ v, ts = [v]) ∨ (wy = 1 ∧ ∃ lo hi, ts = [lo, hi])) ∧ (∀ v ∈ ts, ∃ t, Thg K H v t) ∧
  ∀ l H', H l = none → Same H H' → H' l = some (.lst (toldOf (badOf wy ts))) → Q (.ref l) H'
theorem ok_ref {C cK TT fI1 : Addr} {fd1 : FuncData} (hd : ∃ f fd, Dn K mg "_law_refused" "_law_refused" s__law_refused ["_law_page", "_law_way", "_law_things"] f fd) (T : Txt K mg) (cl : InsC K C) (xK : ErN K mg "NoKey" "NoKey.__init__" (inClass (top 3) 0) "found" cK TT fI1 fd1) (xT : ExM K TT)
    (g1 : MtOk P w K mg base (CXo P w) C "good" ["self", "key"] 6 (spLGood K C cK)) (g2 : MtOk P w K mg base (CXo P w) C "part" ["self", "low", "high"] 6 (spPart K C cK)) :
    OkD P w K mg base "_law_refused" s__law_refused ["_law_page", "_law_way", "_law_things"] 8 (spRef K C) := by
  obtain ⟨f', fd', D⟩ := hd
  obtain ⟨fG, fdG, Me_good, B_good, G_good⟩ := g1
  obtain ⟨fP, fdP, Me_part, B_part, G_part⟩ := g2
  have CL := cl.cl
  refine ⟨f', fd', D, D.fn.ok sc__law_refused (fun vs H Q E h => ?_) (fun cdv A outer s H vs Q E hr h => ?_)⟩
  · obtain ⟨_, _, _, _, _, _, _, rfl, _⟩ := h
    rfl
  · obtain ⟨x, dx, lt, wy, ts, ks, gs, rfl, pg, hlt, hwy, hth, k⟩ := h
    have sc := sc__law_refused
    refine' ⟨_, pss_cons (ps_set (i := 3) sc.nd rfl (Or.inl rfl) (pe_lst (pa_c pe_str pa_nil))) (pss_cons (ps_try rfl rfl ?b0
      (phs_asN (i := 4) (tb := tAsg (tLst (tCons (tC (.str "key")) (tCons (tExFld K (tVar 4) "found") tNil))) (gName 3)) xK.xC rfl xK.mC sc.nd rfl rfl rfl ?s1
      (phs_plain xT rfl xK.mT ?s5 phs_nil))) (pss_one (ps_ret (pv 3)))), ?_⟩
    case s1 => exact fun e => pss_one (ps_set (i := 3) sc.nd rfl (Or.inl rfl) (pe_lst (pa_c pe_str (pa_c (pe_exfld (pv 4) rfl) pa_nil))))
    case s5 => exact fun e => pss_one (ps_set (i := 3) sc.nd rfl (Or.inl rfl) (pe_lst (pa_c pe_str pa_nil)))
    case b0 => exact (fun E ps xe hp => pss_one (ps_if (pt_cmpR op_eq (pv 1) pe_int (nomark _)) (pss_one (ps_expr (pe_meth (pv 0) CL Me_good G_good (hr.mono (by decide)) B_good .nil hp (pa_c (pe_ix (ix_listK (K := K) rfl) (pv 2) pe_int (fun _ _ => rfl)) pa_nil))))
      (pss_one (ps_expr (pe_meth (pv 0) CL Me_part G_part (hr.mono (by decide)) B_part .nil hp (pa_c (pe_ix (ix_listK (K := K) rfl) (pv 2) pe_int (fun _ _ => rfl)) (pa_c (pe_ix (ix_listK (K := K) rfl) (pv 2) pe_int (fun _ _ => rfl)) pa_nil)))))))
    obtain ⟨tk, tg, hx, hk, hg⟩ := pg.pg
    refine ⟨(by show 1 ≤ sizeLine; decide), fun l0 f0 => ?_⟩
    have S0 := Same.upd (o := .lst [.str "told"]) f0
    have e0 := upd_same (H := H) (a := l0) (o := .lst [.str "told"])
    generalize upd H l0 (.lst [.str "told"]) = H0 at *
    refine ⟨_, rfl, rfl, _, rfl, ?_⟩
    have hth0 : ∀ v ∈ ts, ∃ t, Thg K H0 v t := fun v hv => let ⟨t, q⟩ := hth v hv; ⟨t, q.keep S0⟩
    rcases hwy with ⟨rfl, v, rfl⟩ | ⟨rfl, lo, hi, rfl⟩
    · refine iteE (c := true) (decide_eq_true rfl) (iteT ?_)
      obtain ⟨t, th⟩ := hth0 v (List.mem_singleton.mpr rfl)
      have told : keyV v = true → ∀ H', Same H0 H' → Q (.ref l0) H' := fun c H' S => k l0 H' f0 (S0.trans S) (by unfold badOf; dsimp only; rw [if_pos c]; exact S _ _ e0)
      refine ⟨_, rfl, x, dx, _, rfl, S0 _ _ hx, rfl, _, rfl, lt, _, _, _, rfl, rfl, SqL.of (S0 _ _ hlt), rfl, x, dx, v, t, ks, gs, rfl, pg.keep S0, th, ?_, ?_, ?_⟩
      · exact fun c e H' he S r => caught_of he S r fun σ hσ dx ar b H2 S2 h1 h2 => th_hitN xK (by rw [hσ]; show 4 < 5; decide) S2 h1 h2 fun l H3 S3 fl el => ⟨.ref l, by
          have : σ.length = 5 := hσ
          simp [this], k l H3 (S0.free fl) (S0.trans S3) (by unfold badOf; dsimp only; rw [if_neg (by rw [c]; exact Bool.false_ne_true)]; exact el)⟩
      · exact fun k' ek c nk => ⟨_, rfl, told c _ (Same.refl _)⟩
      · exact fun k' g j ek hj hg => ⟨_, rfl, told (by subst ek; have := pg.up.2 k' (List.mem_of_getElem? hj); exact keyV_of this.1 this.2) _ (Same.refl _)⟩
    · refine iteE (c := false) (decide_eq_false (by intro z; cases z)) (iteF ?_)
      obtain ⟨t, th⟩ := hth0 lo (by simp)
      obtain ⟨t', th'⟩ := hth0 hi (by simp)
      refine ⟨_, rfl, x, dx, _, rfl, S0 _ _ hx, rfl, _, rfl, lt, _, _, _, rfl, rfl, SqL.of (S0 _ _ hlt), rfl, _, rfl, lt, _, _, _, rfl, rfl, SqL.of (S0 _ _ hlt), rfl, x, dx, lo, hi, t, t', ks, gs, rfl, pg.keep S0, th, th', ?_, ?_, ?_⟩
      · exact fun c e H' he S r => caught_of he S r fun σ hσ dx ar b H2 S2 h1 h2 => th_hitN xK (by rw [hσ]; show 4 < 5; decide) S2 h1 h2 fun l H3 S3 fl el => ⟨.ref l, by
          have : σ.length = 5 := hσ
          simp [this], k l H3 (S0.free fl) (S0.trans S3) (by unfold badOf; dsimp only; rw [if_neg (by rw [c]; exact Bool.false_ne_true)]; exact el)⟩
      · exact fun c c2 e H' he S r => caught_of he S r fun σ hσ dx ar b H2 S2 h1 h2 => th_hitN xK (by rw [hσ]; show 4 < 5; decide) S2 h1 h2 fun l H3 S3 fl el => ⟨.ref l, by
          have : σ.length = 5 := hσ
          simp [this], k l H3 (S0.free fl) (S0.trans S3) (by unfold badOf; dsimp only; rw [if_pos c, if_neg (by rw [c2]; exact Bool.false_ne_true)]; exact el)⟩
      · exact fun c c2 l H' vs fl S e pr => ⟨_, rfl, k l0 H' f0 (S0.trans S) (by unfold badOf; dsimp only; rw [if_pos c, if_pos c2]; exact S _ _ e0)⟩
end
end K11

set_option Elab.async false
set_option linter.all false
set_option maxRecDepth 100000
set_option maxHeartbeats 1000000
namespace K11
open PySem L2
theorem dv_there {N : Addr → Prop} {H : Hp} {a : Addr} {d : PyData} (x : DV N H (.ref a) d) : ∃ o, H a = some o := by
  cases x with
  | lst _ e _ => exact ⟨_, e⟩
  | tup _ e _ => exact ⟨_, e⟩
  | dct _ e _ => exact ⟨_, e⟩
def Sm (H : Hp) (v : V) (d : PyData) : Prop := DV (fun _ => False) H v d ∧ Small d
theorem Sm.keep {H H' : Hp} {v : V} {d : PyData} (x : Sm H v d) (s : Same H H') : Sm H' v d := ⟨x.1.keep (fun a o _ z => s a o z) fun _ z => z, x.2⟩
theorem sm_row {H : Hp} : ∀ {ts : List V}, (∀ v ∈ ts, ∃ d, Sm H v d) → ∃ ds, DVs (fun _ => False) H ts ds ∧ (∀ d ∈ ds, Small d) ∧ ds.length = ts.length
  | [], _ => ⟨[], .nil, (fun d h => nomatch h), rfl⟩
  | t :: ts, h => by
    obtain ⟨d, x, s⟩ := h t (List.mem_cons_self ..)
    obtain ⟨ds, r, q, l⟩ := sm_row fun v hv => h v (List.mem_cons_of_mem _ hv)
    refine ⟨d :: ds, .cons x r, fun e he => ?_, by rw [List.length_cons, List.length_cons, l]⟩
    rcases List.mem_cons.mp he with rfl | z
    · exact s
    · exact q e z
theorem okd_kd {ds : List PyData} {d : PyData} (h : ∀ e ∈ ds, Small e) (l : ds.length ≤ 2) (s : Small d) : Okd 100000 (.list [.list ds, d]) := by
  obtain ⟨a, b, c, e⟩ := smalls_row h
  have s1 := s.ok.sh
  have s2 := s.ok.lv
  have s3 := s.dp
  have s4 := s.ok.wt
  refine ⟨?_, ?_, ?_, ?_⟩
  · simp only [PyData.showable, PyData.showableAll, a, s1, Bool.and_self]
  · simp only [PyData.leavesShort, PyData.leavesShortAll, b, s2, Bool.and_self]
  · simp only [PyData.depth, PyData.depthAll]; omega
  · simp only [PyData.weight, PyData.weightAll]; omega
section
variable {P : Program} {w : World} {K : PySem.W.Frag} {mg : Str → Option Value} {base : Heap}
def More (d d' : PyData) : Prop := d' = d ∨ ∃ es, d = .list es ∧ d' = .list (es ++ [.str "more"])
abbrev s__law_kept_right : Stmt := top 46
theorem sc__law_kept_right : FnScope ["_law_page", "_law_way", "_law_things", "_law_due", "_law_kept", "_law_found"] ["_law_page", "_law_way", "_law_things", "_law_due"] (defScope s__law_kept_right) := ⟨rfl, rfl, rfl, by decide +kernel, rfl, by decide +kernel, by decide +kernel⟩
def spKR (C : Addr) : Sp := fun vs H Q _ => ∃ (x dx lt : Addr) (wy : Int) (ts : List V) (u : V) (ks gs : List Int), vs = [.ref x, .int wy, .ref lt, u] ∧ PgI C dx H x ks gs ∧ H lt = some (.lst ts) ∧ ((wy = 0 ∧ ∃ v, ts = [v]) ∨ (wy = 1 ∧ ∃ lo hi, ts = [lo, hi])) ∧ (∀ v ∈ ts, ∃ d, Sm H v d) ∧ badOf wy ts = some u ∧ u ≠ .ref lt ∧
  ∃ (N : Addr → Prop) (d : PyData), DV N H u d ∧ Small d ∧ ∀ H' d', (∀ b o, H b = some o → u ≠ .ref b → H' b = some o) → DV N H' u d' → More d d' → Q (.bl true) H'
theorem ok_kr {C : Addr} (hd : ∃ f fd, Dn K mg "_law_kept_right" "_law_kept_right" s__law_kept_right ["_law_page", "_law_way", "_law_things", "_law_due"] f fd) (T : Txt K mg)
    (h1 : OkD P w K mg base "_law_refused" s__law_refused ["_law_page", "_law_way", "_law_things"] 8 (spRef K C)) : OkD P w K mg base "_law_kept_right" s__law_kept_right ["_law_page", "_law_way", "_law_things", "_law_due"] 9 (spKR C) := by
  obtain ⟨f, fd, D⟩ := hd
  obtain ⟨f1, fd1, D_law_refused, G_law_refused⟩ := h1
  refine ⟨f, fd, D, D.fn.ok sc__law_kept_right (fun vs H Q E h => ?_) (fun cdv A outer s H vs Q E hr h => ?_)⟩
  · obtain ⟨_, _, _, _, _, _, _, _, rfl, _⟩ := h
    rfl
  · obtain ⟨x, dx, lt, wy, ts, u, ks, gs, rfl, pg, hlt, hwy, hsm, hbad, nult, N, d, xN, su, k⟩ := h
    have sc := sc__law_kept_right
    obtain ⟨ds, rds, sds, lds⟩ := sm_row hsm
    have xu : DV (fun _ => False) H u d := xN.keep (fun _ _ _ z => z) fun _ z => z.elim
    have l2 : ts.length ≤ 2 := by
      rcases hwy with ⟨_, _, rfl⟩ | ⟨_, _, _, rfl⟩
      · show 1 ≤ 2; decide
      · show 2 ≤ 2; decide
    have okk := okd_kd sds (by omega) su
    have okp : ∀ {d : PyData}, Small d → Okd 100000 (.list [.str "key", d]) := fun s => okd_pair (by decide +kernel) (by decide +kernel) s.ok s.dp
    have dvk : ∀ {H' : Hp} {l : Addr}, Same H H' → H' l = some (.lst [.ref lt, u]) → DV (fun _ => False) H' (.ref l) (.list [.list ds, d]) := fun {H' l} S e => .lst (fun z => z) e (.cons (.lst (fun z => z) (S _ _ hlt) (rds.keep (fun a o _ z => S a o z) fun _ z => z)) (.cons (xu.keep (fun a o _ z => S a o z) fun _ z => z) .nil))
    have F0 : ∀ {H' : Hp} {v : V} {d : PyData} {l : Addr}, DV (fun _ => False) H' v d → H' l = some (.lst [.str "key", v]) → DV (fun _ => False) H' (.ref l) (.list [.str "key", d]) := fun dv e => .lst (fun z => z) e (.cons (.str _) (.cons dv .nil))
    refine' ⟨_, (pss_cons (ps_set (i := 4) sc.nd rfl (Or.inl rfl) (pe_callB (call_reprD hr.gd hr.units) rfl T.n_repr bt_repr (pa_c (pe_lst (pa_c (pv 2) (pa_c (pv 3) pa_nil))) pa_nil)))
    (pss_cons (ps_set (i := 5) sc.nd rfl (Or.inl rfl) (pe_call G_law_refused (hr.mono (by decide)) rfl D_law_refused.m D_law_refused.fn.kp D_law_refused.b .nil pass0 (pa_c (pv 0) (pa_c (pv 1) (pa_c (pv 2) pa_nil)))))
    (pss_cons (ps_if (PW.pt (pw_or (pt_cmpR op_ne (pe_callB (call_reprD hr.gd hr.units) rfl T.n_repr bt_repr (pa_c (pv 5) pa_nil)) (pe_callB (call_reprD hr.gd hr.units) rfl T.n_repr bt_repr (pa_c (pe_lst (pa_c pe_str (pa_c (pv 3) pa_nil))) pa_nil)) (nomark _)) (pw_or1 (pt_cmpR op_ne (pe_callB (call_reprD hr.gd hr.units) rfl T.n_repr bt_repr (pa_c (pe_lst (pa_c (pv 2) (pa_c (pv 3) pa_nil))) pa_nil)) (pv 4) (nomark _)))))
      (pss_one (ps_ret pe_bl))
      pss_nil)
    (pss_cons (ps_if (pt_val (pe_callB call_inst rfl T.n_isinstance bt_isinstance (pa_c (pv 3) (pa_c (pe_bltn (v := .ty "list") rfl T.n_list bt_list rfl) pa_nil))))
      (pss_one (ps_expr (pe_bm PySem.F.plainAttrs_list PySem.F.slot_list_append PySem.F.type_list_append mt_append (pv 3) (pa_c pe_str pa_nil))))
      pss_nil)
    (pss_one (ps_ret (pe_cmpR op_eq (pe_callB (call_reprD hr.gd hr.units) rfl T.n_repr bt_repr (pa_c (pv 5) pa_nil)) (pe_callB (call_reprD hr.gd hr.units) rfl T.n_repr bt_repr (pa_c (pe_lst (pa_c pe_str (pa_c (pv 3) pa_nil))) pa_nil)) (nomark _)))))))), ?_⟩
    refine ⟨_, rfl, _, rfl, (by show 2 ≤ sizeLine; decide), fun l1 f1 => ?_⟩
    have S1 := Same.upd (o := .lst [.ref lt, u]) f1
    refine ⟨.ref l1, fun _ => False, _, rfl, dvk S1 upd_same, okk, ?_⟩
    generalize upd H l1 (.lst [.ref lt, u]) = H1 at *
    refine ⟨_, rfl, _, rfl, _, rfl, x, dx, lt, wy, ts, ks, gs, rfl, pg.keep S1, S1 _ _ hlt, hwy, fun v hv => (let ⟨e, q⟩ := hsm v hv; ⟨_, (q.keep S1).1.thg⟩), fun l H2 fl S2 el => ?_⟩
    rw [hbad] at el
    have S02 := S1.trans S2
    have fl0 := S1.free fl
    have xu2 : DV (fun _ => False) H2 u d := xu.keep (fun a o _ z => S02 a o z) fun _ z => z
    have nul : u ≠ .ref l := fun e => by
      subst e
      obtain ⟨o, q⟩ := dv_there xu
      rw [fl0] at q
      cases q
    refine ⟨_, rfl, _, fun _ => False, _, rfl, F0 xu2 el, okp su, _, rfl, (by show 2 ≤ sizeLine; decide), fun l3 f3 => ?_⟩
    have S3 := Same.upd (o := .lst [.str "key", u]) f3
    have S03 := S02.trans S3
    have xu3 : DV (fun _ => False) _ u d := xu2.keep (fun a o _ z => S3 a o z) fun _ z => z
    refine ⟨_, fun _ => False, _, rfl, F0 xu3 upd_same, okp su, rfl, _, rfl, iteE (c := false) (by rw [decide_eq_true rfl]; rfl) (iteF ?_)⟩
    have el3 := S3 _ _ el
    generalize upd H2 l3 (.lst [.str "key", u]) = H3 at *
    refine ⟨_, rfl, _, rfl, (by show 2 ≤ sizeLine; decide), fun l4 f4 => ?_⟩
    have S4 := Same.upd (o := .lst [.ref lt, u]) f4
    have S04 := S03.trans S4
    refine ⟨.ref l4, fun _ => False, _, rfl, dvk S04 upd_same, okk, _, rfl, rfl, _, rfl, iteE (c := false) (by rw [decide_eq_true rfl]; rfl) (iteF ?_)⟩
    have xu4 : DV (fun _ => False) _ u d := xu3.keep (fun a o _ z => S4 a o z) fun _ z => z
    have el4 := S4 _ _ el3
    generalize upd H3 l4 (.lst [.ref lt, u]) = H4 at *
    refine ⟨_, rfl, u, _, tyD d, _, rfl, xu4.thg, .inl ⟨_, rfl, inst_lst xu4⟩, _, rfl, ?_⟩
    have fin : ∀ (H5 : Hp) (d5 : PyData), DV (fun _ => False) H5 u d5 → Okd 100000 (.list [.str "key", d5]) → H5 l = some (.lst [.str "key", u]) → (∀ b o, H b = some o → u ≠ .ref b → H5 b = some o) → DV N H5 u d5 → More d d5 → ∀ l6, H5 l6 = none → Q (.bl (decide (V.str (PyData.list [.str "key", d5]).shown = .str (PyData.list [.str "key", d5]).shown))) (upd H5 l6 (.lst [.str "key", u])) := fun H5 d5 x5 o5 e5 k5 xN5 m5 l6 f6 => by
      rw [decide_eq_true rfl]
      exact k _ d5 (fun b o z n => (Same.upd f6) _ _ (k5 b o z n)) (xN5.keep (fun a o _ z => (Same.upd f6) a o z) fun _ z => z) m5
    cases hL : isL d with
    | false =>
      refine iteF ⟨_, rfl, _, fun _ => False, _, rfl, F0 xu4 el4, okp su, _, rfl, (by show 2 ≤ sizeLine; decide), fun l6 f6 => ?_⟩
      have S6 := Same.upd (o := .lst [.str "key", u]) f6
      refine ⟨_, fun _ => False, _, rfl, F0 (xu4.keep (fun a o _ z => S6 a o z) fun _ z => z) upd_same, okp su, rfl, ?_⟩
      exact fin H4 d xu4 (okp su) el4 (fun b o z _ => S04 _ _ z) (xN.keep (fun a o _ z => S04 a o z) fun _ z => z) (.inl rfl) l6 f6
    | true =>
      refine iteT ?_
      obtain ⟨a, xs, es, ea, ed, ha, rx⟩ : ∃ a xs es, u = .ref a ∧ d = .list es ∧ H4 a = some (.lst xs) ∧ DVs (fun _ => False) H4 xs es := by
        cases xu4 with
        | lst na e r => exact ⟨_, _, _, rfl, rfl, e, r⟩
        | _ => cases hL
      subst ea ed
      have av := DVs.avoid xu4 rx (by simp only [PyData.depth]; omega)
      have lz : xs.length < sizeLine := by
        have l := rx.length
        have wt := su.ok.wt
        have le : ∀ (es : List PyData), es.length ≤ PyData.weightAll es := fun es => by
          induction es with
          | nil => simp
          | cons y ys ih => simp only [List.length_cons, PyData.weightAll]; omega
        have := le es
        simp only [PyData.weight] at wt
        have := big1000
        omega
      have n1 : l ≠ a := fun e => nul (by rw [e])
      refine ⟨_, rfl, .inl ⟨rfl, xs, SqL.of ha⟩, a, xs, _, rfl, rfl, ha, lz, ?_⟩
      have dv6 : DV (fun _ => False) (upd H4 a (.lst (xs ++ [.str "more"]))) (.ref a) (.list (es ++ [.str "more"])) := .lst (fun z => z) upd_same (DVs.append (av.keep (fun b o nb z => by rw [upd_ne (fun e => nb (.inr e))]; exact z) (fun b z => z.elim)) (.cons (.str _) .nil))
      have xN4 : DV N H4 (.ref a) (.list es) := xN.keep (fun a o _ z => S04 a o z) fun _ z => z
      have dvN : DV N (upd H4 a (.lst (xs ++ [.str "more"]))) (.ref a) (.list (es ++ [.str "more"])) := by
        cases xN4 with
        | lst na e r =>
          rw [ha] at e
          cases e
          have avN := DVs.avoid xu4 r (by simp only [PyData.depth]; omega)
          exact .lst na upd_same (DVs.append (avN.keep (fun b o nb z => by rw [upd_ne (fun e => nb (.inr e))]; exact z) (fun b z => .inl z)) (.cons (.str _) .nil))
      have ok6 : Okd 100000 (.list [.str "key", .list (es ++ [.str "more"])]) := okd_pair2 (by decide +kernel) (by decide +kernel) su.ok su.dp
      have el6 : upd H4 a (.lst (xs ++ [.str "more"])) l = some (.lst [.str "key", .ref a]) := by rw [upd_ne n1]; exact el4
      have k6 : ∀ b o, H b = some o → V.ref a ≠ .ref b → upd H4 a (.lst (xs ++ [.str "more"])) b = some o := fun b o z n => by rw [upd_ne (fun e => n (by rw [e]))]; exact S04 _ _ z
      generalize upd H4 a (.lst (xs ++ [.str "more"])) = H6 at *
      refine ⟨_, rfl, _, fun _ => False, _, rfl, F0 dv6 el6, ok6, _, rfl, (by show 2 ≤ sizeLine; decide), fun l7 f7 => ?_⟩
      have S7 := Same.upd (o := .lst [.str "key", .ref a]) f7
      refine ⟨_, fun _ => False, _, rfl, F0 (dv6.keep (fun a o _ z => S7 a o z) fun _ z => z) upd_same, ok6, rfl, ?_⟩
      exact fin H6 _ dv6 ok6 el6 k6 dvN (.inr ⟨es, rfl, rfl⟩) l7 f7
end
end K11

set_option Elab.async false
set_option linter.all false
set_option maxRecDepth 100000
set_option maxHeartbeats 1000000
namespace K11
open PySem L2
mutual
theorem dv_wide {N N' : Addr → Prop} {H : Hp} (n : ∀ a o, N' a → H a = some o → N a) : ∀ {v : V} {d : PyData}, DV N H v d → DV N' H v d
  | _, _, .non => .non
  | _, _, .bl b => .bl b
  | _, _, .int i => .int i
  | _, _, .str x => .str x
  | _, _, .lst na e r => .lst (fun z => na (n _ _ z e)) e (dvs_wide n r)
  | _, _, .tup na e r => .tup (fun z => na (n _ _ z e)) e (dvs_wide n r)
  | _, _, .dct na e r => .dct (fun z => na (n _ _ z e)) e (dks_wide n r)
theorem dvs_wide {N N' : Addr → Prop} {H : Hp} (n : ∀ a o, N' a → H a = some o → N a) : ∀ {vs : List V} {ds : List PyData}, DVs N H vs ds → DVs N' H vs ds
  | _, _, .nil => .nil
  | _, _, .cons x r => .cons (dv_wide n x) (dvs_wide n r)
theorem dks_wide {N N' : Addr → Prop} {H : Hp} (n : ∀ a o, N' a → H a = some o → N a) : ∀ {vs : List (Key × V)} {ds : List (PyData × PyData)}, DKs N H vs ds → DKs N' H vs ds
  | _, _, .nil => .nil
  | _, _, .cons x r => .cons (dv_wide n x) (dks_wide n r)
end
theorem dv_not {N : Addr → Prop} {H : Hp} {a : Addr} {d : PyData} (x : DV N H (.ref a) d) : ¬ N a := by
  cases x with
  | lst n _ _ => exact n
  | tup n _ _ => exact n
  | dct n _ _ => exact n
theorem small_more {d d' : PyData} (s : Small d) (w : d.weight ≤ 145) (m : More d d') : Small d' ∧ d'.weight ≤ d.weight + 5 := by
  rcases m with rfl | ⟨es, rfl, rfl⟩
  · exact ⟨s, by omega⟩
  · obtain ⟨a, b, c, e⟩ := more_row es
    obtain ⟨⟨x1, x2, x3, x4⟩, _, x6⟩ := s
    simp only [PyData.showable, PyData.leavesShort, PyData.depth, PyData.weight] at x1 x2 x3 x4 x6 w
    refine ⟨⟨⟨?_, ?_, ?_, ?_⟩, (fun _ z => nomatch z), ?_⟩, ?_⟩
    · simp only [PyData.showable, a, x1]
    · simp only [PyData.leavesShort, b, x2]
    · simp only [PyData.depth, c]; omega
    · simp only [PyData.weight, e]; omega
    · simp only [PyData.depth, c]; omega
    · simp only [PyData.weight, e]; omega
structure Two (p : Addr) (H0 : Hp) (v g : V) (H : Hp) (k : Nat) : Prop where
  fv : ∃ d, DV (fun b => b = p ∨ H0 b ≠ none ∨ V.ref b = g) H v d ∧ Small d ∧ d.weight ≤ 110 + 5 * k
  fg : ∃ d, DV (fun b => b = p ∨ H0 b ≠ none ∨ V.ref b = v) H g d ∧ Small d ∧ d.weight ≤ 110 + 5 * k
theorem Two.keep {p : Addr} {H0 H H' : Hp} {v g : V} {k : Nat} (t : Two p H0 v g H k) (s : KB p H H') : Two p H0 v g H' k := by
  obtain ⟨⟨d, x, a, b⟩, d', x', a', b'⟩ := t
  exact ⟨⟨d, x.keep (fun a o na z => s a o z fun e => na (.inl e)) fun _ z => z, a, b⟩, d', x'.keep (fun a o na z => s a o z fun e => na (.inl e)) fun _ z => z, a', b'⟩
theorem Two.sm {p : Addr} {H0 H : Hp} {v g z : V} {k : Nat} (t : Two p H0 v g H k) (h : z = v ∨ z = g ∨ endOk z = true) : ∃ d, Sm H z d := by
  rcases h with rfl | rfl | h
  · obtain ⟨d, x, s, _⟩ := t.fv
    exact ⟨d, x.keep (fun _ _ _ z => z) fun _ z => z.elim, s⟩
  · obtain ⟨d, x, s, _⟩ := t.fg
    exact ⟨d, x.keep (fun _ _ _ z => z) fun _ z => z.elim, s⟩
  · cases z with
    | non => exact ⟨_, .non, small_none⟩
    | int i =>
      obtain ⟨j, e, a, b⟩ := keyV_int (v := .int i) h
      cases e
      exact ⟨_, .int i, small_int (by omega)⟩
    | _ => cases h
theorem Two.step {p : Addr} {H0 H : Hp} {v g u : V} {k : Nat} (t : Two p H0 v g H k) (hk : k ≤ 6) (hu : u = v ∨ u = g) :
    ∃ (N : Addr → Prop) (d : PyData), DV N H u d ∧ Small d ∧ ∀ (H' : Hp) (d' : PyData), (∀ b o, H b = some o → u ≠ .ref b → H' b = some o) → DV N H' u d' → More d d' → Two p H0 v g H' (k + 1) := by
  obtain ⟨⟨d, x, a, b⟩, d2, x2, a2, b2⟩ := t
  rcases hu with rfl | rfl
  · refine ⟨_, d, x, a, fun H' d' o x' m => ?_⟩
    obtain ⟨s', w'⟩ := small_more a (by omega) m
    exact ⟨⟨d', x', s', by omega⟩, d2, x2.keep (fun a q na z => o a q z fun e => na (.inr (.inr e.symm))) fun _ z => z, a2, by omega⟩
  · refine ⟨_, d2, x2, a2, fun H' d' o x' m => ?_⟩
    obtain ⟨s', w'⟩ := small_more a2 (by omega) m
    exact ⟨⟨d, x.keep (fun a q na z => o a q z fun e => na (.inr (.inr e.symm))) fun _ z => z, a, by omega⟩, d', x', s', by omega⟩
theorem Two.nv {p : Addr} {H0 H : Hp} {v g u : V} {k : Nat} {a : Addr} (t : Two p H0 v g H k) (hu : u = v ∨ u = g) (e : u = .ref a) : a ≠ p ∧ H0 a = none ∧ ∃ o, H a = some o := by
  obtain ⟨⟨d, x, _⟩, d2, x2, _⟩ := t
  rcases hu with rfl | rfl
  · subst e
    have n := dv_not x
    exact ⟨fun z => n (.inl z), Decidable.byContradiction fun z => n (.inr (.inl z)), dv_there x⟩
  · subst e
    have n := dv_not x2
    exact ⟨fun z => n (.inl z), Decidable.byContradiction fun z => n (.inr (.inl z)), dv_there x2⟩
theorem comp_fT {K : PySem.W.Frag} {js : List Nat} {wi : TI} {tc : TT} {te : TE} {σ : St} {H : Hp} {Q : VK} (xs : List V) (p : V → Bool) (g : V → V) (hw : ∀ R : It → Hp → Prop, (∀ tt, H tt = none → R (ItB K true tt) (upd H tt (.tup xs))) → wi σ H R)
    (hc : ∀ x ∈ xs, ∀ H2 (R : Bool → Hp → Prop), Same H H2 → (∀ H3, Same H2 H3 → R (p x) H3) → tc (blkSt js σ (some x)) H2 R)
    (he : ∀ x ∈ xs, p x = true → ∀ H2 (R : VK), Same H H2 → (∀ H3, Same H2 H3 → R (g x) H3) → te (blkSt js σ (some x)) H2 R)
    (hz : xs.length ≤ 2000) (q : ∀ d H2, H d = none → Same H H2 → H2 d = some (.lst ((xs.filter p).map g)) → Q (.ref d) H2) : tComp js wi tc te σ H Q :=
  hw _ fun tt ft D hD => comp_pure xs p g (it_row (K := K) (tp := true) (show RowAt true _ tt xs from upd_same)) (fun x hx H2 R S => hc x hx H2 R ((Same.upd ft).trans S)) (fun x hx hp H2 R S => he x hx hp H2 R ((Same.upd ft).trans S)) hz (fun d H2 fd S e => q d H2 ((Same.upd ft).free fd) ((Same.upd ft).trans S) e) D hD
theorem bad_bad {wy : Int} {lo hi u : V} (h : badOf wy [lo, hi] = some u) : endOk u = false ∧ (u = lo ∨ u = hi) := by
  unfold badOf at h
  dsimp only at h
  split at h
  · split at h
    · cases h
    · rename_i c; cases h; exact ⟨Bool.eq_false_iff.mpr c, .inr rfl⟩
  · rename_i c; cases h; exact ⟨Bool.eq_false_iff.mpr c, .inl rfl⟩
theorem due_list {wy : Int} {lo hi : V} : (([lo, hi].filter fun v => !endOk v).map fun y => y) = [] ∧ badOf wy [lo, hi] = none ∨ ∃ u r, (([lo, hi].filter fun v => !endOk v).map fun y => y) = u :: r ∧ badOf wy [lo, hi] = some u := by
  unfold badOf
  cases a : endOk lo <;> cases b : endOk hi <;> simp [a, b]
section
variable {P : Program} {w : World} {K : PySem.W.Frag} {mg : Str → Option Value} {base : Heap}
abbrev s__law_refusals_right : Stmt := top 48
theorem sc__law_refusals_right : FnScope ["_law_box_here", "_law_page", "_law_one", "_law_other", "_law_near_here", "_law_key", "_law_low", "_law_high", "_law_due"] ["_law_box_here", "_law_page"] (defScope s__law_refusals_right) := ⟨rfl, rfl, rfl, by decide +kernel, rfl, by decide +kernel, by decide +kernel⟩
def spRR (C : Addr) : Sp := fun vs H Q _ => ∃ (p x dx : Addr) (n : Nat) (ks gs : List Int), vs = [.ref p, .ref x] ∧ Box H p n ∧ n ≤ 900000 ∧ PgI C dx H x ks gs ∧ ∀ H', Box H' p (n + 3) → KB p H H' → Q (.bl true) H'
theorem ok_rr {C : Addr} (hd : ∃ f fd, Dn K mg "_law_refusals_right" "_law_refusals_right" s__law_refusals_right ["_law_box_here", "_law_page"] f fd) (T : Txt K mg) (cl : InsC K C) (h0 : OkD P w K mg base "_law_take" s__law_take ["_law_box_here", "_law_many"] 1 spTake) (h1 : OkD P w K mg base "_law_near" s__law_near ["_law_keys_here"] 1 spNear) (h2 : OkD P w K mg base "_law_odd" s__law_odd ["_law_box_here"] 2 spOdd)
    (h3 : OkD P w K mg base "_law_kept_right" s__law_kept_right ["_law_page", "_law_way", "_law_things", "_law_due"] 9 (spKR C)) (h4 : OkD P w K mg base "_law_refused" s__law_refused ["_law_page", "_law_way", "_law_things"] 8 (spRef K C)) (h5 : OkD P w K mg base "_law_is_key" s__law_is_key ["_law_thing"] 1 (spIsL K))
    (k1 : MtOk P w K mg base CX0 C "all_keys" ["self"] 1 (spRow C true)) : OkD P w K mg base "_law_refusals_right" s__law_refusals_right ["_law_box_here", "_law_page"] 10 (spRR C) := by
  obtain ⟨f, fd, D⟩ := hd
  obtain ⟨f0, fd0, D_law_take, G_law_take⟩ := h0
  obtain ⟨f1, fd1, D_law_near, G_law_near⟩ := h1
  obtain ⟨f2, fd2, D_law_odd, G_law_odd⟩ := h2
  obtain ⟨f3, fd3, D_law_kept_right, G_law_kept_right⟩ := h3
  obtain ⟨f4, fd4, D_law_refused, G_law_refused⟩ := h4
  obtain ⟨f5, fd5, D_law_is_key, G_law_is_key⟩ := h5
  obtain ⟨fK, fdK, Me_all_keys, B_all_keys, G_all_keys⟩ := k1
  have CL := cl.cl
  refine ⟨f, fd, D, D.fn.ok sc__law_refusals_right (fun vs H Q E h => ?_) (fun cdv A outer s H vs Q E hr h => ?_)⟩
  · obtain ⟨_, _, _, _, _, _, rfl, _⟩ := h
    rfl
  · obtain ⟨p, x, dx, n, ks, gs, rfl, B, hn, pg, k⟩ := h
    have sc := sc__law_refusals_right
    have hu := hr.units0
    refine' ⟨_, (pss_cons (ps_par (i := 2) (j := 3) rfl sc.nd rfl rfl (by decide) rfl rfl (pa_c (pe_call G_law_odd (hr.mono (by decide)) rfl D_law_odd.m D_law_odd.fn.kp D_law_odd.b .nil pass0 (pa_c (pv 0) pa_nil)) (pa_c (pe_call G_law_odd (hr.mono (by decide)) rfl D_law_odd.m D_law_odd.fn.kp D_law_odd.b .nil pass0 (pa_c (pv 0) pa_nil)) pa_nil)) rfl)
    (pss_cons (ps_set (i := 4) sc.nd rfl (Or.inl rfl) (pe_call G_law_near (hr.mono (by decide)) rfl D_law_near.m D_law_near.fn.kp D_law_near.b .nil pass0 (pa_c (pe_meth0 (pv 1) CL Me_all_keys G_all_keys (hr.mono (by decide)) B_all_keys .nil pass0) pa_nil)))
    (pss_cons (ps_set (i := 5) sc.nd rfl (Or.inl rfl) (pe_ix ix_list (pv 4) (pe_call G_law_take (hr.mono (by decide)) rfl D_law_take.m D_law_take.fn.kp D_law_take.b .nil pass0 (pa_c (pv 0) (pa_c (pe_callB call_len_seq rfl T.n_len bt_len (pa_c (pv 4) pa_nil)) pa_nil))) (fun _ _ => rfl)))
    (pss_cons (ps_if (pt_not (pt_val (pe_call G_law_kept_right (hr.mono (by decide)) rfl D_law_kept_right.m D_law_kept_right.fn.kp D_law_kept_right.b .nil pass0 (pa_c (pv 1) (pa_c pe_int (pa_c (pe_lst (pa_c (pv 2) pa_nil)) (pa_c (pv 2) pa_nil)))))))
      (pss_one (ps_ret pe_bl))
      pss_nil)
    (pss_cons (ps_for PassesOwn.never rfl (pi_list (pe_lst (pa_c (pe_tup (pa_c (pv 2) (pa_c (pv 3) pa_nil))) (pa_c (pe_tup (pa_c pe_non (pa_c (pv 3) pa_nil))) (pa_c (pe_tup (pa_c (pv 5) (pa_c (pv 3) pa_nil))) (pa_c (pe_tup (pa_c (pv 2) (pa_c (pv 5) pa_nil))) (pa_c (pe_tup (pa_c (pv 2) (pa_c pe_non pa_nil))) pa_nil))))))) (pg_tup rfl (pgs_cons (pg_name (i := 6) sc.nd rfl (Or.inl rfl)) (pgs_cons (pg_name (i := 7) sc.nd rfl (Or.inl rfl)) pgs_nil)))
      (pss_cons (ps_setComp (i := 8) (blk_mk [] []) rfl (pi_seq true (pe_tup (pa_c (pv 6) (pa_c (pv 7) pa_nil)))) (fun _ _ _ _ _ => (PTs.one (PW.pt (pw_and (pt_cmpR op_notN (pv 0) pe_non (nomark _)) (pw_and1 (pt_not (pt_val (pe_call G_law_is_key (hr.mono (by decide)) rfl D_law_is_key.m D_law_is_key.fn.kp D_law_is_key.b .nil pass0 (pa_c (pv 0) pa_nil))))))))) (fun _ _ _ _ _ => (pv 0)) sc.nd rfl rfl)
    (pss_cons (ps_if (PW.pt (pw_and (pt_cmpR (op_eqL hu) (pv 8) (pe_lst pa_nil) (nomark _)) (pw_and1 (pt_cmpR (op_neL hu) (pe_call G_law_refused (hr.mono (by decide)) rfl D_law_refused.m D_law_refused.fn.kp D_law_refused.b .nil pass0 (pa_c (pv 1) (pa_c pe_int (pa_c (pe_lst (pa_c (pv 6) (pa_c (pv 7) pa_nil))) pa_nil)))) (pe_lst (pa_c pe_str pa_nil)) (nomark _)))))
      (pss_one (ps_ret pe_bl))
      pss_nil)
    (pss_one (ps_if (PW.pt (pw_and (pt_cmpR (op_neL hu) (pv 8) (pe_lst pa_nil) (nomark _)) (pw_and1 (pt_not (pt_val (pe_call G_law_kept_right (hr.mono (by decide)) rfl D_law_kept_right.m D_law_kept_right.fn.kp D_law_kept_right.b .nil pass0 (pa_c (pv 1) (pa_c pe_int (pa_c (pe_lst (pa_c (pv 6) (pa_c (pv 7) pa_nil))) (pa_c (pe_ix ix_list (pv 8) pe_int (fun _ _ => rfl)) pa_nil))))))))))
      (pss_one (ps_ret pe_bl))
      pss_nil)))))
    (pss_one (ps_ret pe_bl))))))), ?_⟩
    have few := pg.few
    refine ⟨_, rfl, p, n, rfl, B, by omega, fun v d H1 dv sm wt kv B1 k1 => ?_⟩
    refine ⟨_, rfl, p, n + 1, rfl, B1, by omega, fun g d' H2 dg sm' wt' kg B2 k2 => ⟨_, _, rfl, ?_⟩⟩
    have tw : Two p H v g H2 0 := by
      refine ⟨⟨d, ?_, sm, by omega⟩, d', ?_, sm', by omega⟩
      · have w1 : DV (fun b => b = p ∨ H b ≠ none ∨ V.ref b = g) H1 v d := by
          refine dv_wide (fun a o na ea => ?_) dv
          rcases na with z | z | z
          · exact .inl z
          · exact .inr z
          · subst z
            exact absurd (.inr (by rw [ea]; exact fun z => nomatch z)) (dv_not dg)
        exact w1.keep (fun a o na z => k2 a o z fun e => na (.inl e)) fun _ z => z
      · refine dv_wide (fun a o na ea => ?_) dg
        rcases na with z | z | z
        · exact .inl z
        · by_cases c : a = p
          · exact .inl c
          · refine .inr fun e => z ?_
            cases q : H a with
            | none => rfl
            | some o' => rw [k1 a o' q c] at e; cases e
        · subst z
          obtain ⟨o', q⟩ := dv_there dv
          exact .inr (by rw [q]; exact fun z => nomatch z)
    have K2 := k1.trans k2
    have hxp : ∀ {H' : Hp}, KB p H H' → PgI C dx H' x ks gs := fun {H'} kb => by
      obtain ⟨_, _, _, e, _⟩ := B
      obtain ⟨⟨tk, tg, a, b, c⟩, p2, p3, p4, p5⟩ := pg
      exact ⟨⟨tk, tg, kb _ _ a (ne_of a e (by intro z; cases z)), kb _ _ b (ne_of b e (by intro z; cases z)), kb _ _ c (ne_of c e (by intro z; cases z))⟩, p2, p3, p4, p5⟩
    clear dv dg B1 k1 k2 wt wt' sm sm'
    have pg2 := hxp K2
    obtain ⟨tk, tg, hx2, hkr2, hgr2⟩ := pg2.pg
    refine ⟨_, rfl, x, dx, _, rfl, hx2, rfl, x, dx, _, _, rfl, pg2.pg, fun l3 f3 => ?_⟩
    have S3 := Same.upd (o := .lst (if true = true then ks.map V.int else gs.map V.int)) f3
    have e3 : upd H2 l3 (.lst (if true = true then ks.map V.int else gs.map V.int)) l3 = some (.lst (ks.map V.int)) := upd_same
    refine ⟨l3, ks, rfl, e3, by omega, pg.up.2, fun l4 H4 ns f4 S4 e4 bn nne _ => ?_⟩
    have S24 := S3.trans S4
    have B4 := B2.same S24
    have n4 : l4 ≠ p := (B2.same S3).ne (H1 := H2) f4
    have ln : 0 < ns.length := List.length_pos_iff.mpr nne
    have lnb : ns.length ≤ 63 := by assumption
    refine ⟨_, rfl, _, rfl, _, rfl, l4, _, rfl, .inl (SqL.of e4), p, _, n + 2, rfl, B4, by omega, by rw [List.length_map]; omega, by rw [List.length_map]; omega, fun r5 H5 c0 c1 B5 k5 => ?_⟩
    rw [List.length_map] at c1
    obtain ⟨key, hkey, ek⟩ := atI_ints (ns := ns) (r := r5) c0 c1
    refine ⟨l4, _, _, _, rfl, rfl, SqL.of (k5 _ _ e4 n4), ek, ?_⟩
    have bkey := bn key hkey
    have K5 := (K2.trans S24.kb).trans k5
    have tw5 := (tw.keep S24.kb).keep k5
    clear tw K2 B2 B4 S3 S4 S24 e3 e4 k5 pg2 hx2 hkr2 hgr2
    have n0v : ∀ {u : V} {H' : Hp} {m : Nat} {l : Addr}, Two p H v g H' m → (u = v ∨ u = g) → H' l = none → u ≠ .ref l := fun {u H' m l} tw hu fl e => by
      obtain ⟨_, _, o, q⟩ := tw.nv hu e
      rw [fl] at q
      cases q
    have kbo : ∀ {u : V} {H' H'' : Hp} {m : Nat}, Two p H v g H' m → (u = v ∨ u = g) → KB p H H' → (∀ b o, H' b = some o → u ≠ .ref b → H'' b = some o) → KB p H H'' := fun {u H' H'' m} tw hu kb o b q z nb => o b q (kb b q z nb) fun e => by
      obtain ⟨_, z0, _⟩ := tw.nv hu e
      rw [z] at z0
      cases z0
    have boxo : ∀ {u : V} {H' H'' : Hp} {m j : Nat}, Two p H v g H' m → (u = v ∨ u = g) → Box H' p j → (∀ b o, H' b = some o → u ≠ .ref b → H'' b = some o) → Box H'' p j := fun {u H' H'' m j} tw hu bx o => by
      obtain ⟨a, b, c, h1, r⟩ := bx
      exact ⟨a, b, c, o p _ h1 fun e => (tw.nv hu e).1 rfl, r⟩
    refine ⟨_, rfl, _, rfl, (by show 1 ≤ sizeLine; decide), fun l6 f6 => ?_⟩
    have S6 := Same.upd (o := .lst [v]) f6
    have e6 := upd_same (H := H5) (a := l6) (o := .lst [v])
    have tw6 := tw5.keep S6.kb
    have nv6 : v ≠ .ref l6 := n0v tw5 (.inl rfl) f6
    have K6 := K5.trans S6.kb
    have B6 := B5.same S6
    generalize upd H5 l6 (.lst [v]) = H6 at *
    have bad0 : badOf 0 [v] = some v := by unfold badOf; dsimp only; rw [if_neg (by rw [kv]; exact Bool.false_ne_true)]
    obtain ⟨N6, d6, x6, s6, st6⟩ := tw6.step (u := v) (by decide) (.inl rfl)
    refine ⟨_, rfl, x, dx, l6, 0, [v], v, ks, gs, rfl, hxp K6, e6, .inl ⟨rfl, v, rfl⟩, fun z hz => tw6.sm (.inl (List.mem_singleton.mp hz)), bad0, nv6, _, d6, x6, s6, fun H7 d7 o7 x7 m7 => ⟨_, rfl, iteF ?_⟩⟩
    have tw7 : Two p H v g H7 1 := st6 H7 d7 o7 x7 m7
    have K7 := kbo tw6 (.inl rfl) K6 o7
    have B7 := boxo tw6 (.inl rfl) B6 o7
    clear tw6 tw5 x6 s6 st6 e6 B6 K6 o7 x7 B5 K5 S6 f6 nv6
    -- the five pairs
    refine ⟨_, rfl, _, rfl, (by show 2 ≤ sizeLine; decide), fun t1 g1 => ?_⟩
    have m1 : ∀ u, (u = v ∨ u = g) → u ≠ .ref t1 := fun u hu => n0v tw7 hu g1
    have Z1 := Same.upd (o := .tup [v, g]) g1
    have a1 := upd_same (H := H7) (a := t1) (o := .tup [v, g])
    generalize upd H7 t1 (.tup [v, g]) = J1 at *
    refine ⟨_, rfl, (by show 2 ≤ sizeLine; decide), fun t2 g2 => ?_⟩
    have m2 : ∀ u, (u = v ∨ u = g) → u ≠ .ref t2 := fun u hu => n0v (tw7.keep Z1.kb) hu g2
    have Z2 := Same.upd (o := .tup [.non, g]) g2
    have a2 := upd_same (H := J1) (a := t2) (o := .tup [.non, g])
    replace a1 := Z2 _ _ a1
    replace Z2 := Z1.trans Z2
    generalize upd J1 t2 (.tup [.non, g]) = J2 at *
    refine ⟨_, rfl, _, rfl, (by show 2 ≤ sizeLine; decide), fun t3 g3 => ?_⟩
    have m3 : ∀ u, (u = v ∨ u = g) → u ≠ .ref t3 := fun u hu => n0v (tw7.keep Z2.kb) hu g3
    have Z3 := Same.upd (o := .tup [.int key, g]) g3
    have a3 := upd_same (H := J2) (a := t3) (o := .tup [.int key, g])
    replace a1 := Z3 _ _ a1
    replace a2 := Z3 _ _ a2
    replace Z3 := Z2.trans Z3
    generalize upd J2 t3 (.tup [.int key, g]) = J3 at *
    refine ⟨_, rfl, _, rfl, (by show 2 ≤ sizeLine; decide), fun t4 g4 => ?_⟩
    have m4 : ∀ u, (u = v ∨ u = g) → u ≠ .ref t4 := fun u hu => n0v (tw7.keep Z3.kb) hu g4
    have Z4 := Same.upd (o := .tup [v, .int key]) g4
    have a4 := upd_same (H := J3) (a := t4) (o := .tup [v, .int key])
    replace a1 := Z4 _ _ a1
    replace a2 := Z4 _ _ a2
    replace a3 := Z4 _ _ a3
    replace Z4 := Z3.trans Z4
    generalize upd J3 t4 (.tup [v, .int key]) = J4 at *
    refine ⟨_, rfl, (by show 2 ≤ sizeLine; decide), fun t5 g5 => ?_⟩
    have m5 : ∀ u, (u = v ∨ u = g) → u ≠ .ref t5 := fun u hu => n0v (tw7.keep Z4.kb) hu g5
    have Z5 := Same.upd (o := .tup [v, .non]) g5
    have a5 := upd_same (H := J4) (a := t5) (o := .tup [v, .non])
    replace a1 := Z5 _ _ a1
    replace a2 := Z5 _ _ a2
    replace a3 := Z5 _ _ a3
    replace a4 := Z5 _ _ a4
    replace Z5 := Z4.trans Z5
    generalize upd J4 t5 (.tup [v, .non]) = J5 at *
    refine ⟨(by show 5 ≤ sizeLine; decide), fun L fL => ?_⟩
    have Z6 := Same.upd (o := .lst [.ref t1, .ref t2, .ref t3, .ref t4, .ref t5]) fL
    have eL := upd_same (H := J5) (a := L) (o := .lst [.ref t1, .ref t2, .ref t3, .ref t4, .ref t5])
    have kK := keyV_of bkey.1 bkey.2
    have items : ∀ z ∈ [V.ref t1, .ref t2, .ref t3, .ref t4, .ref t5], ∃ t lo hi, z = .ref t ∧ upd J5 L (.lst [.ref t1, .ref t2, .ref t3, .ref t4, .ref t5]) t = some (.tup [lo, hi]) ∧ (lo = v ∨ lo = g ∨ endOk lo = true) ∧ (hi = v ∨ hi = g ∨ endOk hi = true) ∧ ∀ u, (u = v ∨ u = g) → u ≠ .ref t := fun z hz => by
      simp only [List.mem_cons, List.not_mem_nil, or_false] at hz
      rcases hz with rfl | rfl | rfl | rfl | rfl
      · exact ⟨t1, v, g, rfl, Z6 _ _ a1, .inl rfl, .inr (.inl rfl), m1⟩
      · exact ⟨t2, .non, g, rfl, Z6 _ _ a2, .inr (.inr rfl), .inr (.inl rfl), m2⟩
      · exact ⟨t3, .int key, g, rfl, Z6 _ _ a3, .inr (.inr kK), .inr (.inl rfl), m3⟩
      · exact ⟨t4, v, .int key, rfl, Z6 _ _ a4, .inl rfl, .inr (.inr kK), m4⟩
      · exact ⟨t5, v, .non, rfl, Z6 _ _ a5, .inl rfl, .inr (.inr rfl), m5⟩
    have Z76 := Z5.trans Z6
    have tw8 := tw7.keep Z76.kb
    have K8 := K7.trans Z76.kb
    have B8 := B7.same Z76
    have nL : ∀ u, (u = v ∨ u = g) → u ≠ .ref L := fun u hu => n0v (tw7.keep Z5.kb) hu fL
    have nL' : L ≠ p := fun e => by
      obtain ⟨_, q⟩ := (B7.same Z5).lst
      rw [← e, fL] at q
      cases q
    generalize upd J5 L (.lst [.ref t1, .ref t2, .ref t3, .ref t4, .ref t5]) = J6 at *
    generalize hts : [V.ref t1, .ref t2, .ref t3, .ref t4, .ref t5] = ts at *
    have lts : ts.length = 5 := by rw [← hts]; rfl
    clear a1 a2 a3 a4 a5 Z1 Z2 Z3 Z4 Z5 Z6 Z76 g1 g2 g3 g4 g5 fL tw7 K7 B7 hts
    refine ⟨L, rfl, ⟨_, SqL.of eL⟩, for_list (fun i σ H9 => (∃ o6 o7 o8, σ = [some (.ref p), some (.ref x), some v, some g, some (.ref l4), some (.int key), o6, o7, o8]) ∧ Two p H v g H9 (1 + i) ∧ KB p H H9 ∧ Box H9 p (n + 3) ∧ (∀ b o, J6 b = some o → b ≠ p → v ≠ .ref b → g ≠ .ref b → H9 b = some o)) ⟨⟨none, none, none, rfl⟩, tw8, K8, B8, fun b o z _ _ _ => z⟩ (fun i σ H9 _ ⟨_, _, _, _, R⟩ => SqL.of (R _ _ eL nL' (nL v (.inl rfl)) (nL g (.inr rfl)))) ?_ ?_⟩
    case refine_2 =>
      rintro σ H9 ⟨_, _, K9, B9, _⟩
      exact k _ B9 K9
    rintro i z σ H9 hi ⟨⟨o6, o7, o8, rfl⟩, tw9, K9, B9, R9⟩
    have hi5 : i < 5 := by rw [← lts]; exact (List.getElem?_eq_some_iff.mp hi).1
    obtain ⟨t, lo, hi', rfl, et, okl, okh, ntu⟩ := items z (List.mem_of_getElem? hi)
    have ntp : t ≠ p := by
      obtain ⟨_, q⟩ := B8.lst
      exact ne_of et q (by intro z; cases z)
    have et9 := R9 _ _ et ntp (ntu v (.inl rfl)) (ntu g (.inr rfl))
    refine ⟨t, _, rfl, SqT.of et9, rfl, _, _, rfl, _, _, rfl, rfl, ?_⟩
    have smv : ∀ {H' : Hp} {m : Nat}, Two p H v g H' m → ∀ z ∈ [lo, hi'], ∃ d, Sm H' z d := fun {H' m} tw z hz => by
      simp only [List.mem_cons, List.not_mem_nil, or_false] at hz
      rcases hz with rfl | rfl
      · exact tw.sm okl
      · exact tw.sm okh
    -- the refused ends
    dsimp only [gName, tNext]
    refine tseq1 (tasg1 (comp_fT (K := K) [lo, hi'] (fun v => !endOk v) (fun y => y) (fun R r => ⟨_, rfl, _, rfl, (by show 2 ≤ sizeLine; decide), fun tt ft => ⟨tt, rfl, ⟨_, SqT.of upd_same⟩, r tt ft⟩⟩) ?c ?e (by show 2 ≤ 2000; decide) ?q))
    case c =>
      intro z hz H10 R S r
      obtain ⟨dz, xz, sz⟩ := smv tw9 z hz
      have r' := r H10 (Same.refl _)
      refine ⟨_, rfl, rfl, _, rfl, ?_⟩
      by_cases c : z = .non
      · refine iteE (c := false) (by rw [decide_eq_true c]; rfl) (iteF ?_)
        rw [c] at r'
        exact r'
      · refine iteE (c := true) (by rw [decide_eq_false c]; rfl) (iteT ⟨_, rfl, z, _, rfl, (xz.keep (fun a o _ q => S a o q) fun _ q => q).thg, _, rfl, ?_⟩)
        rw [end_non c] at r'
        exact r'
    case e => exact fun z hz _ H10 R S r => ⟨_, rfl, r H10 (Same.refl _)⟩
    case q =>
    intro ldu H10 fdu S10 edu
    have tw10 := tw9.keep S10.kb
    have K10 := K9.trans S10.kb
    have B10 := B9.same S10
    have R10 : ∀ b o, J6 b = some o → b ≠ p → v ≠ .ref b → g ≠ .ref b → H10 b = some o := fun b o a c d e => S10 _ _ (R9 b o a c d e)
    clear S10 tw9 K9 B9 R9 et9
    dsimp only [gName, tNext]
    rcases due_list (wy := 1) (lo := lo) (hi := hi') with ⟨dl, bd⟩ | ⟨u, r, dl, bd⟩
    · rw [dl] at edu
      refine ⟨_, rfl, (by show 0 ≤ sizeLine; decide), fun l11 f11 => ?_⟩
      have S11 := Same.upd (o := .lst []) f11
      refine ⟨_, _, _, _, rfl, rfl, SqL.of (S11 _ _ edu), SqL.of upd_same, okPs_nil, _, rfl, iteE (c := true) (by rw [eqPs_nil]; rfl) (iteT ?_)⟩
      have tw11 := tw10.keep S11.kb
      have K11 := K10.trans S11.kb
      have B11 := B10.same S11
      have R11 : ∀ b o, J6 b = some o → b ≠ p → v ≠ .ref b → g ≠ .ref b → upd H10 l11 (.lst []) b = some o := fun b o a c d e => S11 _ _ (R10 b o a c d e)
      replace edu := S11 _ _ edu
      generalize upd H10 l11 (.lst []) = H11 at *
      refine ⟨_, rfl, _, rfl, _, rfl, (by show 2 ≤ sizeLine; decide), fun lt ft => ?_⟩
      have S12 := Same.upd (o := .lst [lo, hi']) ft
      have K12 := K11.trans S12.kb
      refine ⟨x, dx, lt, 1, [lo, hi'], ks, gs, rfl, hxp K12, upd_same, .inr ⟨rfl, lo, hi', rfl⟩, fun z hz => (let ⟨e, q⟩ := smv (tw11.keep S12.kb) z hz; ⟨_, q.1.thg⟩), fun l13 H13 f13 S13 e13 => ?_⟩
      rw [bd] at e13
      have S113 := S12.trans S13
      refine ⟨(by show 1 ≤ sizeLine; decide), fun l14 f14 => ?_⟩
      have S14 := Same.upd (o := .lst [.str "told"]) f14
      refine ⟨_, _, _, _, rfl, rfl, SqL.of (S14 _ _ e13), SqL.of upd_same, okPs_self rfl, _, rfl, iteE (c := false) (by show (!eqPs [.str "told"] [.str "told"]) = false; rw [eqPs_self]; rfl) (iteF ?_)⟩
      have S1114 := S113.trans S14
      generalize upd H13 l14 (.lst [.str "told"]) = H14 at *
      refine ⟨_, rfl, (by show 0 ≤ sizeLine; decide), fun l15 f15 => ?_⟩
      have S15 := Same.upd (o := .lst []) f15
      have SS := S1114.trans S15
      refine ⟨_, _, _, _, rfl, rfl, SqL.of (SS _ _ edu), SqL.of upd_same, okPs_nil, _, rfl, iteE (c := false) (by show (!eqPs [] []) = false; rw [eqPs_self]; rfl) (iteF (iteF ?_))⟩
      refine ⟨⟨_, _, _, rfl⟩, ?_, K11.trans SS.kb, B11.same SS, fun b o a c d e => SS _ _ (R11 b o a c d e)⟩
      obtain ⟨⟨q1, q2, q3, q4⟩, q5, q6, q7, q8⟩ := tw11.keep SS.kb
      exact ⟨⟨q1, q2, q3, by omega⟩, q5, q6, q7, by omega⟩
    · rw [dl] at edu
      obtain ⟨ub, uw⟩ := bad_bad bd
      have uvg : u = v ∨ u = g := by
        have : u = v ∨ u = g ∨ endOk u = true := by
          rcases uw with rfl | rfl
          · exact okl
          · exact okh
        rcases this with h | h | h
        · exact .inl h
        · exact .inr h
        · rw [ub] at h; cases h
      refine ⟨_, rfl, (by show 0 ≤ sizeLine; decide), fun l11 f11 => ?_⟩
      have S11 := Same.upd (o := .lst []) f11
      refine ⟨_, _, _, _, rfl, rfl, SqL.of (S11 _ _ edu), SqL.of upd_same, okPs_nil, _, rfl, iteE (c := false) (by rw [eqPs_nil]; rfl) (iteF (iteF ?_))⟩
      have tw11 := tw10.keep S11.kb
      have K11 := K10.trans S11.kb
      have B11 := B10.same S11
      have R11 : ∀ b o, J6 b = some o → b ≠ p → v ≠ .ref b → g ≠ .ref b → upd H10 l11 (.lst []) b = some o := fun b o a c d e => S11 _ _ (R10 b o a c d e)
      replace edu := S11 _ _ edu
      generalize upd H10 l11 (.lst []) = H11 at *
      refine ⟨_, rfl, (by show 0 ≤ sizeLine; decide), fun l12 f12 => ?_⟩
      have S12 := Same.upd (o := .lst []) f12
      refine ⟨_, _, _, _, rfl, rfl, SqL.of (S12 _ _ edu), SqL.of upd_same, okPs_nil, _, rfl, iteE (c := true) (by rw [if_pos rfl, eqPs_nil]; rfl) (iteT ?_)⟩
      have tw12 := tw11.keep S12.kb
      have K12 := K11.trans S12.kb
      have B12 := B11.same S12
      have R12 : ∀ b o, J6 b = some o → b ≠ p → v ≠ .ref b → g ≠ .ref b → upd H11 l12 (.lst []) b = some o := fun b o a c d e => S12 _ _ (R11 b o a c d e)
      replace edu := S12 _ _ edu
      generalize upd H11 l12 (.lst []) = H12 at *
      refine ⟨_, rfl, _, rfl, _, rfl, (by show 2 ≤ sizeLine; decide), fun lt ft => ?_⟩
      have S13 := Same.upd (o := .lst [lo, hi']) ft
      have e13 := upd_same (H := H12) (a := lt) (o := .lst [lo, hi'])
      have nut : u ≠ .ref lt := n0v tw12 uvg ft
      have tw13 := tw12.keep S13.kb
      have K13 := K12.trans S13.kb
      have B13 := B12.same S13
      have R13 : ∀ b o, J6 b = some o → b ≠ p → v ≠ .ref b → g ≠ .ref b → upd H12 lt (.lst [lo, hi']) b = some o := fun b o a c d e => S13 _ _ (R12 b o a c d e)
      replace edu := S13 _ _ edu
      generalize upd H12 lt (.lst [lo, hi']) = H13 at *
      obtain ⟨N, du, xu, su, st⟩ := tw13.step (u := u) (by omega) uvg
      refine ⟨_, rfl, ldu, _, _, _, rfl, rfl, SqL.of edu, atI_nat (j := 0) rfl, x, dx, lt, 1, [lo, hi'], u, ks, gs, rfl, hxp K13, e13, .inr ⟨rfl, lo, hi', rfl⟩, smv tw13, bd, nut, N, du, xu, su, fun H14 d14 o14 x14 m14 => ⟨_, rfl, iteF ?_⟩⟩
      refine ⟨⟨_, _, _, rfl⟩, ?_, kbo tw13 uvg K13 o14, boxo tw13 uvg B13 o14, fun b o a c d e => o14 b o (R13 b o a c d e) fun z => ?_⟩
      · have := st H14 d14 o14 x14 m14
        rw [show 1 + (i + 1) = 1 + i + 1 by omega]
        exact this
      · rcases uvg with rfl | rfl
        · exact d z
        · exact e z
end
end K11

set_option Elab.async false
set_option linter.all false
set_option maxRecDepth 100000
set_option maxHeartbeats 1000000
namespace K11
open PySem L2
theorem un_m1 {X : Cx} : UnR X (unaryOp .USub) (fun x H Q => x = .int 1 ∧ Q (.int (-1)) H) := fun pins s σ H x v Q I r ⟨e, q⟩ => un_neg pins s σ H x v Q I r ⟨1, e, q⟩
theorem sIx_nat {n d : Nat} {i : Int} (h : 0 ≤ i) : HT.sIx n d (some i) = min i.toNat n := by
  unfold HT.sIx
  exact if_neg (by omega)
theorem sIx_no {n d : Nat} : HT.sIx n d none = d := rfl
theorem cut_take {xs : List V} {i : Nat} (h : i ≤ xs.length) : cutV xs none (some (i : Int)) = xs.take i := by
  unfold cutV
  rw [sIx_no, sIx_nat (by omega), List.drop_zero]
  congr 1
  omega
theorem cut_drop {xs : List V} {i : Nat} (h : i ≤ xs.length) : cutV xs (some (i : Int)) none = xs.drop i := by
  unfold cutV
  rw [sIx_no, sIx_nat (by omega), show min (i : Int).toNat xs.length = i by omega]
  exact List.take_of_length_le (by rw [List.length_drop]; omega)
theorem er_map (ks : List Int) (j : Nat) : (ks.map V.int).take j ++ (ks.map V.int).drop (j + 1) = (ks.eraseIdx j).map V.int := by
  rw [List.eraseIdx_eq_take_drop_succ, List.map_append, List.map_take, List.map_drop]
def LItem (C : Addr) (ks gs : List Int) (H : Hp) (t : Addr) : Prop := ∃ (y dy : Addr) (ks' gs' : List Int) (b : Bool), H t = some (.tup [.ref y, .bl b]) ∧ PgI C dy H y ks' gs' ∧ b = (decide (ks = ks') && decide (gs = gs'))
theorem LItem.keep {C : Addr} {ks gs : List Int} {H H' : Hp} {t : Addr} (x : LItem C ks gs H t) (S : Same H H') : LItem C ks gs H' t := let ⟨y, dy, ks', gs', b, e, p, q⟩ := x; ⟨y, dy, ks', gs', b, S _ _ e, p.keep S, q⟩
theorem LItem.updL {C l : Addr} {ks gs : List Int} {H : Hp} {t : Addr} {xs ys : List V} (x : LItem C ks gs H t) (h : H l = some (.lst xs)) : LItem C ks gs (upd H l (.lst ys)) t :=
  let ⟨y, dy, ks', gs', b, e, p, q⟩ := x; ⟨y, dy, ks', gs', b, by rw [upd_ne (ne_of e h (by intro z; cases z))]; exact e, p.updL h, q⟩
def swap (gs : List Int) (i : Nat) : List Int := gs.take i ++ [gs.getD (i + 1) 0, gs.getD i 0] ++ gs.drop (i + 2)
theorem swap_len {gs : List Int} {i : Nat} (h : i + 1 < gs.length) : (swap gs i).length = gs.length := by
  unfold swap
  simp only [List.length_append, List.length_take, List.length_cons, List.length_nil, List.length_drop]
  omega
theorem getD_mem {gs : List Int} {i : Nat} (h : i < gs.length) : gs.getD i 0 ∈ gs := by
  rw [List.getD_eq_getElem?_getD, List.getElem?_eq_getElem h]
  exact List.getElem_mem h
theorem swap_mem {gs : List Int} {i : Nat} (h : i + 1 < gs.length) {z : Int} (m : z ∈ swap gs i) : z ∈ gs := by
  unfold swap at m
  rcases List.mem_append.mp m with m | m
  · rcases List.mem_append.mp m with m | m
    · exact List.mem_of_mem_take m
    · simp only [List.mem_cons, List.not_mem_nil, or_false] at m
      rcases m with rfl | rfl
      · exact getD_mem h
      · exact getD_mem (by omega)
  · exact List.mem_of_mem_drop m
theorem swap_map {gs : List Int} {i : Nat} (h : i + 1 < gs.length) : (gs.map V.int).take i ++ [.int (gs.getD (i + 1) 0), .int (gs.getD i 0)] ++ (gs.map V.int).drop (i + 2) = (swap gs i).map V.int := by
  unfold swap
  rw [List.map_append, List.map_append, List.map_take, List.map_drop]
  rfl
theorem at_intG {gs : List Int} {i : Nat} (h : i < gs.length) : atI (gs.map V.int) (i : Int) = some (.int (gs.getD i 0)) := by
  refine atI_nat ?_
  rw [List.getElem?_map, List.getD_eq_getElem?_getD, List.getElem?_eq_getElem h]
  rfl
theorem atI_end {gs : List Int} (h : 0 < gs.length) : atI (gs.map V.int) (-1) = some (.int (gs.getD (gs.length - 1) 0)) := by
  have hj : (gs.length - 1) < gs.length := by omega
  unfold atI ixN
  rw [if_neg (by decide), if_pos (by rw [List.length_map]; omega), Option.bind_some, List.length_map, show ((-1 + (gs.length : Int)).toNat) = gs.length - 1 by omega, List.getElem?_map, List.getElem?_eq_getElem hj, List.getD_eq_getElem?_getD, List.getElem?_eq_getElem hj]
  rfl
def spread (ks : List Int) : List Int := [ks.getD 0 0 - 1] ++ (ks.drop 1).take (ks.length - 2) ++ [ks.getD (ks.length - 1) 0 + 1]
theorem spread_map {ks : List Int} (h : 1 < ks.length) : [V.int (ks.getD 0 0 - 1)] ++ cutV (ks.map V.int) (some 1) (some (-1)) ++ [.int (ks.getD (ks.length - 1) 0 + 1)] = (spread ks).map V.int := by
  unfold spread cutV
  rw [List.length_map]
  have e1 : HT.sIx ks.length 0 (some 1) = 1 := by rw [sIx_nat (by decide)]; show min 1 _ = 1; omega
  have e2 : HT.sIx ks.length ks.length (some (-1)) = ks.length - 1 := by
    unfold HT.sIx
    show (if (-1 : Int) < 0 then _ else _) = _
    rw [if_pos (by decide)]
    omega
  rw [e1, e2, List.map_append, List.map_append, List.map_take, List.map_drop, show ks.length - 1 - 1 = ks.length - 2 by omega]
  rfl
theorem spread_len {ks : List Int} (h : 1 < ks.length) : (spread ks).length = ks.length := by
  unfold spread
  simp only [List.length_append, List.length_take, List.length_cons, List.length_nil, List.length_drop]
  omega
theorem spread_ne {ks : List Int} (h : 1 < ks.length) : ks ≠ spread ks := by
  intro e
  have e0 : ks[0]? = (spread ks)[0]? := by rw [← e]
  rw [List.getElem?_eq_getElem (by omega)] at e0
  unfold spread at e0
  simp only [List.cons_append, List.nil_append, List.getElem?_cons_zero, Option.some.injEq] at e0
  rw [List.getD_eq_getElem?_getD, List.getElem?_eq_getElem (by omega)] at e0
  simp only [Option.getD_some] at e0
  omega
theorem spread_up {ks : List Int} (u : Up ks) (h : 1 < ks.length) (h0 : -999999999 < ks.getD 0 0) (h1 : ks.getD (ks.length - 1) 0 < 999999999) : Up (spread ks) := by
  have g0 : ks.getD 0 0 = ks[0] := by rw [List.getD_eq_getElem?_getD, List.getElem?_eq_getElem (by omega)]; rfl
  have g1 : ks.getD (ks.length - 1) 0 = ks[ks.length - 1] := by rw [List.getD_eq_getElem?_getD, List.getElem?_eq_getElem (by omega)]; rfl
  have pw := List.pairwise_iff_getElem.mp u.1
  have mid : ∀ z ∈ (ks.drop 1).take (ks.length - 2), ∃ j : Nat, ∃ hj : j < ks.length, 0 < j ∧ j < ks.length - 1 ∧ z = ks[j] := fun z hz => by
    obtain ⟨i, hi, e⟩ := List.getElem_of_mem hz
    rw [List.length_take, List.length_drop] at hi
    rw [List.getElem_take, List.getElem_drop] at e
    exact ⟨1 + i, by omega, by omega, by omega, e.symm⟩
  refine ⟨?_, fun z hz => ?_⟩
  · unfold spread
    rw [List.pairwise_append, List.pairwise_append]
    refine ⟨⟨List.pairwise_singleton .., (u.1.sublist ((List.take_sublist _ _).trans (List.drop_sublist _ _))), fun a ha b hb => ?_⟩, List.pairwise_singleton .., fun a ha b hb => ?_⟩
    · obtain ⟨j, hj, j0, j1, rfl⟩ := mid b hb
      rw [List.mem_singleton.mp ha, g0]
      have := pw 0 j (by omega) hj j0
      omega
    · rw [List.mem_singleton.mp hb, g1]
      rcases List.mem_append.mp ha with ha | ha
      · rw [List.mem_singleton.mp ha, g0]
        have := pw 0 (ks.length - 1) (by omega) (by omega) (by omega)
        omega
      · obtain ⟨j, hj, j0, j1, rfl⟩ := mid a ha
        have := pw j (ks.length - 1) hj (by omega) j1
        omega
  · unfold spread at hz
    rcases List.mem_append.mp hz with hz | hz
    · rcases List.mem_append.mp hz with hz | hz
      · rw [List.mem_singleton.mp hz]
        have := u.2 ks[0] (List.getElem_mem (by omega))
        rw [g0] at h0 ⊢
        omega
      · obtain ⟨j, hj, _, _, rfl⟩ := mid z hz
        exact u.2 _ (List.getElem_mem hj)
    · rw [List.mem_singleton.mp hz]
      have := u.2 ks[ks.length - 1] (List.getElem_mem (by omega))
      rw [g1] at h1 ⊢
      omega
section
variable {P : Program} {w : World} {K : PySem.W.Frag} {mg : Str → Option Value} {base : Heap}
abbrev s__law_exchanged : Stmt := top 43
theorem sc__law_exchanged : FnScope ["_law_keys_here", "_law_goods", "_law_found", "_law_k", "_law_other"] ["_law_keys_here", "_law_goods"] (defScope s__law_exchanged) := ⟨rfl, rfl, rfl, by decide +kernel, rfl, by decide +kernel, by decide +kernel⟩
def spEx (C : Addr) : Sp := fun vs H Q _ => ∃ (lk lg : Addr) (ks gs : List Int), vs = [.ref lk, .ref lg] ∧ H lk = some (.lst (ks.map V.int)) ∧ H lg = some (.lst (gs.map V.int)) ∧ Up ks ∧ ks.length ≤ 6 ∧ gs.length = ks.length ∧ (∀ g ∈ gs, -999999999 ≤ g ∧ g ≤ 999999999) ∧
  ∀ l H' (ts : List Addr), H l = none → Same H H' → H' l = some (.lst (ts.map V.ref)) → ts.length ≤ 20 → (∀ t ∈ ts, LItem C ks gs H' t) → Q (.ref l) H'
theorem ok_ex {C f fK fG cE : Addr} {fd : FuncData} (hd : ∃ f fd, Dn K mg "_law_exchanged" "_law_exchanged" s__law_exchanged ["_law_keys_here", "_law_goods"] f fd) (T : Txt K mg) (XLeaf : KdN K mg "Leaf" "Leaf.__init__" (inClass (top 28) 0) C f fd fK fG)
    (GLeaf : FnOk P w K mg base (CXo P w) 8 f fd ["self", "keys", "goods"] (spMake C cE fun dk dg => PageGoods dg (lenD dk))) : OkD P w K mg base "_law_exchanged" s__law_exchanged ["_law_keys_here", "_law_goods"] 10 (spEx C) := by
  obtain ⟨f0, fd0, D⟩ := hd
  refine ⟨f0, fd0, D, D.fn.ok sc__law_exchanged (fun vs H Q E h => ?_) (fun cdv A outer s H vs Q E hr h => ?_)⟩
  · obtain ⟨_, _, _, _, rfl, _⟩ := h
    rfl
  · obtain ⟨lk, lg, ks, gs, rfl, hk, hg, up, few, len, ok, k⟩ := h
    have sc := sc__law_exchanged
    have hu := hr.units0
    refine' ⟨_, (pss_cons (ps_set (i := 2) sc.nd rfl (Or.inl rfl) (pe_lst (pa_c (pe_tup (pa_c (pe_make XLeaf.mak GLeaf (hr.mono (by decide)) rfl XLeaf.m XLeaf.bi .nil passX (pa_c (pv 0) (pa_c (pe_rev (pv 1) (pe_un un_m1 pe_int)) pa_nil))) (pa_c (pe_cmpR (op_eqL hu) (pe_rev (pv 1) (pe_un un_m1 pe_int)) (pv 1) (nomark _)) pa_nil))) pa_nil)))
    (pss_cons (ps_for PassesOwn.never rfl (pi_range1 rfl T.n_range (pa_c (pe_op op_sub (pe_callB call_len_seq rfl T.n_len bt_len (pa_c (pv 0) pa_nil)) pe_int) pa_nil)) (pg_name (i := 3) sc.nd rfl (Or.inl rfl))
      (pss_cons (ps_set (i := 4) sc.nd rfl (Or.inl rfl) (pe_op op_cat (pe_op op_cat (pe_slice sl_list (pv 1) po_none (po_some (pv 3))) (pe_lst (pa_c (pe_ix ix_list (pv 1) (pe_op op_add (pv 3) pe_int) (fun _ _ => rfl)) (pa_c (pe_ix ix_list (pv 1) (pv 3) (fun _ _ => rfl)) pa_nil)))) (pe_slice sl_list (pv 1) (po_some (pe_op op_add (pv 3) pe_int)) po_none)))
    (pss_one (ps_expr (pe_bm PySem.F.plainAttrs_list PySem.F.slot_list_append PySem.F.type_list_append mt_append (pv 2) (pa_c (pe_tup (pa_c (pe_make XLeaf.mak GLeaf (hr.mono (by decide)) rfl XLeaf.m XLeaf.bi .nil passX (pa_c (pv 0) (pa_c (pv 4) pa_nil))) (pa_c (pe_cmpR (op_eqL hu) (pv 4) (pv 1) (nomark _)) pa_nil))) pa_nil))))))
    (pss_cons (ps_if (PW.pt (pw_and (pt_cmpR op_gt (pe_callB call_len_seq rfl T.n_len bt_len (pa_c (pv 0) pa_nil)) pe_int (nomark _)) (pw_and (pt_cmpR op_gt (pe_ix ix_list (pv 0) pe_int (fun _ _ => rfl)) (pe_op op_sub pe_int (pe_op op_pow pe_int pe_int)) (nomark _)) (pw_and1 (pt_cmpR op_lt (pe_ix ix_list (pv 0) (pe_un un_neg pe_int) (fun _ _ => rfl)) (pe_op op_sub (pe_op op_pow pe_int pe_int) pe_int) (nomark _))))))
      (pss_one (ps_expr (pe_bm PySem.F.plainAttrs_list PySem.F.slot_list_append PySem.F.type_list_append mt_append (pv 2) (pa_c (pe_tup (pa_c (pe_make XLeaf.mak GLeaf (hr.mono (by decide)) rfl XLeaf.m XLeaf.bi .nil passX (pa_c (pe_op op_cat (pe_op op_cat (pe_lst (pa_c (pe_op op_sub (pe_ix ix_list (pv 0) pe_int (fun _ _ => rfl)) pe_int) pa_nil)) (pe_slice sl_list (pv 0) (po_some pe_int) (po_some (pe_un un_neg pe_int)))) (pe_lst (pa_c (pe_op op_add (pe_ix ix_list (pv 0) (pe_un un_neg pe_int) (fun _ _ => rfl)) pe_int) pa_nil))) (pa_c (pv 1) pa_nil))) (pa_c pe_bl pa_nil))) pa_nil))))
      pss_nil)
    (pss_one (ps_ret (pv 2)))))), ?_⟩
    have e9 : (10 : Int) ^ (9 : Int).toNat = 1000000000 := by decide +kernel
    have rok : ∀ g ∈ gs.reverse, -999999999 ≤ g ∧ g ≤ 999999999 := fun g hg => ok g (List.mem_reverse.mp hg)
    refine ⟨_, rfl, _, rfl, lg, _, rfl, SqL.of hg, fun l1 f1 => ?_⟩
    have S1 := Same.upd (o := .lst (gs.map V.int).reverse) f1
    have e1 : upd H l1 (.lst (gs.map V.int).reverse) l1 = some (.lst (gs.reverse.map V.int)) := by rw [upd_same, List.map_reverse]
    generalize upd H l1 (.lst (gs.map V.int).reverse) = H1 at *
    intro y dy fy fdy nd
    refine make_ok (tp := false) (tp' := false) (ks := ks) (gs := gs.reverse) (S1 _ _ hk) e1 up few rok (by rw [List.length_reverse]; exact len) fy fdy fun H2 S2 pg => ⟨rfl, ?_⟩
    have S02 := S1.trans S2
    refine ⟨_, rfl, lg, _, rfl, SqL.of (S02 _ _ hg), fun l3 f3 => ?_⟩
    have S3 := Same.upd (o := .lst (gs.map V.int).reverse) f3
    have S03 := S02.trans S3
    refine ⟨_, rfl, _, _, _, _, rfl, rfl, SqL.of upd_same, SqL.of (S03 _ _ hg), ?_, ?_⟩
    · rw [← List.map_reverse]; exact fun _ => okP_ints
    have pg3 := pg.keep S3
    generalize upd H2 l3 (.lst (gs.map V.int).reverse) = H3 at *
    rw [if_neg Bool.false_ne_true, ← List.map_reverse, eqPs_ints]
    refine ⟨(by show 2 ≤ sizeLine; decide), fun t4 f4 => ?_⟩
    have S4 := Same.upd (o := .tup [.ref y, .bl (decide (gs.reverse = gs))]) f4
    have it4 : LItem C ks gs (upd H3 t4 (.tup [.ref y, .bl (decide (gs.reverse = gs))])) t4 := ⟨y, dy, ks, gs.reverse, _, upd_same, pg3.keep S4, by rw [decide_eq_true (rfl : ks = ks), Bool.true_and]; exact decide_eq_decide.mpr eq_comm⟩
    have S04 := S03.trans S4
    generalize upd H3 t4 (.tup [.ref y, .bl (decide (gs.reverse = gs))]) = H4 at *
    refine ⟨(by show 1 ≤ sizeLine; decide), fun lf ff => ?_⟩
    have flf := S04.free ff
    have S5 := Same.upd (o := .lst [.ref t4]) ff
    have S05 := S04.trans S5
    dsimp only [gName, tNext]
    have add : ∀ {H6 : Hp} {t : Addr} {ts : List Addr} {b : V} {y : Addr}, Same H H6 → H6 lf = some (.lst (ts.map V.ref)) → (∀ t ∈ ts, LItem C ks gs H6 t) → LItem C ks gs H6 t → Same H (upd H6 lf (.lst (ts.map V.ref ++ [.ref t]))) ∧ upd H6 lf (.lst (ts.map V.ref ++ [.ref t])) lf = some (.lst ((ts ++ [t]).map V.ref)) ∧ ∀ t' ∈ ts ++ [t], LItem C ks gs (upd H6 lf (.lst (ts.map V.ref ++ [.ref t]))) t' := fun {H6 t ts b y} S e it i => by
      refine ⟨fun c o z => ?_, ?_, fun t' ht => ?_⟩
      · rw [upd_ne (ne_of_none z flf)]; exact S _ _ z
      · rw [upd_same, List.map_append]; rfl
      · rcases List.mem_append.mp ht with h | h
        · exact (it t' h).updL e
        · rw [List.mem_singleton.mp h]; exact i.updL e
    refine seq2 (fun σ H6 => (∃ o3 o4, σ = [some (.ref lk), some (.ref lg), some (.ref lf), o3, o4]) ∧ ∃ ts : List Addr, Same H H6 ∧ H6 lf = some (.lst (ts.map V.ref)) ∧ ts.length ≤ 10 ∧ ∀ t ∈ ts, LItem C ks gs H6 t) ?loop ?rest
    case loop =>
      intro N q
      refine ⟨_, rfl, lk, _, rfl, .inl (SqL.of (S05 _ _ hk)), _, _, rfl, rfl, _, rfl, by rw [List.length_map]; omega, by rw [List.length_map]; omega, for_range (fun i σ H6 => (∃ o3 o4, σ = [some (.ref lk), some (.ref lg), some (.ref lf), o3, o4]) ∧ ∃ ts : List Addr, Same H H6 ∧ H6 lf = some (.lst (ts.map V.ref)) ∧ ts.length = i + 1 ∧ ∀ t ∈ ts, LItem C ks gs H6 t) ⟨⟨none, none, rfl⟩, [t4], S05, upd_same, rfl, fun t ht => by rw [List.mem_singleton.mp ht]; exact it4.keep S5⟩ ?_ ?_⟩
      case refine_2 =>
        rintro σ H6 ⟨a, ts, b, c, d, e⟩
        refine q _ _ ⟨a, ts, b, c, ?_, e⟩
        rw [d, List.length_map]
        omega
      rintro i σ H6 hi ⟨⟨o3, o4, rfl⟩, ts, S6, e6, lt6, it6⟩
      rw [List.length_map] at hi
      have hi1 : i + 1 < gs.length := by omega
      have c1 : ((0 : Int) + (i : Int)) = ((i : Nat) : Int) := by omega
      have c2 : ((0 : Int) + (i : Int)) + 1 = ((i + 1 : Nat) : Int) := by omega
      have c3 : ((0 : Int) + (i : Int)) + 2 = ((i + 2 : Nat) : Int) := by omega
      have hg6 := S6 _ _ hg
      refine ⟨_, rfl, _, rfl, _, rfl, lg, _, rfl, SqL.of hg6, fun l7 f7 => ?_⟩
      rw [c1, cut_take (by rw [List.length_map]; omega)]
      have S7 := Same.upd (o := .lst ((gs.map V.int).take i)) f7
      have e7 := upd_same (H := H6) (a := l7) (o := .lst ((gs.map V.int).take i))
      have S67 := S6.trans S7
      replace e6 := S7 _ _ e6
      generalize upd H6 l7 (.lst ((gs.map V.int).take i)) = H7 at *
      refine ⟨_, rfl, _, rfl, _, _, rfl, rfl, lg, _, _, _, rfl, rfl, SqL.of (S67 _ _ hg), (by have := at_intG hi1; rw [show ((i + 1 : Nat) : Int) = (i : Int) + 1 by omega] at this; exact this), ?_⟩
      refine ⟨_, rfl, _, rfl, lg, _, _, _, rfl, rfl, SqL.of (S67 _ _ hg), at_intG (by omega), (by show 2 ≤ sizeLine; decide), fun l8 f8 => ?_⟩
      have S8 := Same.upd (o := .lst [.int (gs.getD (i + 1) 0), .int (gs.getD i 0)]) f8
      have e8 := upd_same (H := H7) (a := l8) (o := .lst [.int (gs.getD (i + 1) 0), .int (gs.getD i 0)])
      have S68 := S67.trans S8
      replace e6 := S8 _ _ e6
      replace e7 := S8 _ _ e7
      generalize upd H7 l8 _ = H8 at *
      refine ⟨l7, l8, _, _, rfl, rfl, e7, e8, by rw [List.length_take, List.length_map]; have := big1000; show min i gs.length + 2 ≤ _; omega, fun l9 f9 => ?_⟩
      have S9 := Same.upd (o := .lst ((gs.map V.int).take i ++ [.int (gs.getD (i + 1) 0), .int (gs.getD i 0)])) f9
      have e9' := upd_same (H := H8) (a := l9) (o := .lst ((gs.map V.int).take i ++ [.int (gs.getD (i + 1) 0), .int (gs.getD i 0)]))
      have S69 := S68.trans S9
      replace e6 := S9 _ _ e6
      generalize upd H8 l9 _ = H9 at *
      refine ⟨_, rfl, _, rfl, _, _, rfl, rfl, _, rfl, lg, _, rfl, SqL.of (S69 _ _ hg), fun l10 f10 => ?_⟩
      rw [show ((i : Nat) : Int) + 2 = ((i + 2 : Nat) : Int) by omega, cut_drop (by rw [List.length_map]; omega)]
      have S10 := Same.upd (o := .lst ((gs.map V.int).drop (i + 2))) f10
      have e10 := upd_same (H := H9) (a := l10) (o := .lst ((gs.map V.int).drop (i + 2)))
      have S610 := S69.trans S10
      replace e6 := S10 _ _ e6
      replace e9' := S10 _ _ e9'
      generalize upd H9 l10 _ = H10 at *
      refine ⟨l9, l10, _, _, rfl, rfl, e9', e10, by simp only [List.length_append, List.length_take, List.length_map, List.length_drop, List.length_cons, List.length_nil]; have := big1000; omega, fun lo fo => ?_⟩
      rw [swap_map hi1]
      have S11 := Same.upd (o := .lst ((swap gs i).map V.int)) fo
      have e11 := upd_same (H := H10) (a := lo) (o := .lst ((swap gs i).map V.int))
      have S611 := S610.trans S11
      replace e6 := S11 _ _ e6
      have itS : ∀ t ∈ ts, LItem C ks gs H10 t := fun t ht => (it6 t ht).keep (((S7.trans S8).trans S9).trans S10)
      replace it6 : ∀ t ∈ ts, LItem C ks gs (upd H10 lo (.lst ((swap gs i).map V.int))) t := fun t ht => (itS t ht).keep S11
      clear itS
      generalize upd H10 lo (.lst ((swap gs i).map V.int)) = H11 at *
      refine ⟨_, rfl, .inl ⟨rfl, _, SqL.of e6⟩, _, rfl, _, rfl, ?_⟩
      intro y dy fy fdy nd
      refine make_ok (tp := false) (tp' := false) (ks := ks) (gs := swap gs i) (S611 _ _ hk) e11 up few (fun g hg => ok g (swap_mem hi1 hg)) (by rw [swap_len hi1]; exact len) fy fdy fun H12 S12 pg => ⟨rfl, ?_⟩
      have S612 := S611.trans S12
      refine ⟨_, rfl, _, rfl, _, _, _, _, rfl, rfl, SqL.of (S12 _ _ e11), SqL.of (S612 _ _ hg), fun _ => okP_ints, ?_⟩
      rw [if_neg Bool.false_ne_true, eqPs_ints]
      refine ⟨(by show 2 ≤ sizeLine; decide), fun t13 f13 => ?_⟩
      have S13 := Same.upd (o := .tup [.ref y, .bl (decide (swap gs i = gs))]) f13
      have it13 : LItem C ks gs (upd H12 t13 (.tup [.ref y, .bl (decide (swap gs i = gs))])) t13 := ⟨y, dy, ks, swap gs i, _, upd_same, pg.keep S13, by rw [decide_eq_true (rfl : ks = ks), Bool.true_and]; exact decide_eq_decide.mpr eq_comm⟩
      have S613 := S612.trans S13
      have e13 := S13 _ _ (S12 _ _ e6)
      have its : ∀ t ∈ ts, LItem C ks gs (upd H12 t13 (.tup [.ref y, .bl (decide (swap gs i = gs))])) t := fun t ht => (it6 t ht).keep (S12.trans S13)
      generalize upd H12 t13 _ = H13 at *
      obtain ⟨r1, r2, r3⟩ := add (b := .non) (y := y) S613 e13 its it13
      exact ⟨lf, _, _, rfl, rfl, e13, by rw [List.length_map]; have := big1000; omega, ⟨_, _, rfl⟩, ts ++ [t13], r1, r2, by rw [List.length_append, lt6]; rfl, r3⟩
    case rest =>
    rintro _ H6 ⟨⟨o3, o4, rfl⟩, ts, S6, e6, lt6, it6⟩
    refine seq2 (fun σ H7 => (∃ o3 o4, σ = [some (.ref lk), some (.ref lg), some (.ref lf), o3, o4]) ∧ ∃ ts : List Addr, Same H H7 ∧ H7 lf = some (.lst (ts.map V.ref)) ∧ ts.length ≤ 11 ∧ ∀ t ∈ ts, LItem C ks gs H7 t) ?if3 ?ret
    case ret =>
      rintro _ H7 ⟨⟨o3, o4, rfl⟩, ts, S7, e7, lt7, it7⟩
      exact ⟨_, rfl, k lf H7 ts flf S7 e7 (by omega) it7⟩
    case if3 =>
    intro N q
    have skip : N [some (.ref lk), some (.ref lg), some (.ref lf), o3, o4] H6 := q _ _ ⟨⟨_, _, rfl⟩, ts, S6, e6, by omega, it6⟩
    have hk6 := S6 _ _ hk
    refine ⟨_, rfl, lk, _, rfl, .inl (SqL.of hk6), _, _, rfl, rfl, _, rfl, ite2 (fun c1 => ?_) (fun c1 => iteF skip)⟩
    have l1' : 1 < ks.length := by
      have : (1 : Int) < ((ks.map V.int).length : Nat) := of_decide_eq_true c1
      rw [List.length_map] at this
      omega
    have a0 : atI (ks.map V.int) 0 = some (.int (ks.getD 0 0)) := at_intG (i := 0) (by omega)
    refine ⟨_, rfl, lk, _, _, _, rfl, rfl, SqL.of hk6, a0, _, _, rfl, rfl, cp (by decide) (by decide), _, _, rfl, rfl, _, _, rfl, rfl, _, rfl, ite2 (fun c2 => ?_) (fun c2 => iteF skip)⟩
    have h0 : 1 - (10 : Int) ^ (9 : Int).toNat < ks.getD 0 0 := of_decide_eq_true c2
    refine ⟨_, rfl, _, rfl, lk, _, _, _, rfl, rfl, SqL.of hk6, atI_end (by omega), _, _, rfl, rfl, cp (by decide) (by decide), _, _, rfl, rfl, _, _, rfl, rfl, _, rfl, ite2 (fun c3 => ?_) (fun c3 => skip)⟩
    have h1 : ks.getD (ks.length - 1) 0 < (10 : Int) ^ (9 : Int).toNat - 1 := of_decide_eq_true c3
    rw [e9] at h0 h1
    have su := spread_up up l1' (by omega) (by omega)
    refine ⟨_, rfl, .inl ⟨rfl, _, SqL.of e6⟩, ?_⟩
    refine ⟨_, rfl, lk, _, _, _, rfl, rfl, SqL.of hk6, a0, _, _, rfl, rfl, (by show 1 ≤ sizeLine; decide), fun l7 f7 => ?_⟩
    have S7 := Same.upd (o := .lst [.int (ks.getD 0 0 - 1)]) f7
    have e7 := upd_same (H := H6) (a := l7) (o := .lst [.int (ks.getD 0 0 - 1)])
    have S67 := S6.trans S7
    generalize upd H6 l7 _ = H7 at *
    refine ⟨_, rfl, _, rfl, _, rfl, _, rfl, lk, _, rfl, SqL.of (S67 _ _ hk), fun l8 f8 => ?_⟩
    have S8 := Same.upd (o := .lst (cutV (ks.map V.int) (some 1) (some (-1)))) f8
    have e8 := upd_same (H := H7) (a := l8) (o := .lst (cutV (ks.map V.int) (some 1) (some (-1))))
    have S68 := S67.trans S8
    replace e7 := S8 _ _ e7
    have lc : (cutV (ks.map V.int) (some 1) (some (-1))).length ≤ 6 := by have := cutV_length (ks.map V.int) (some 1) (some (-1)); rw [List.length_map] at this; omega
    refine ⟨l7, l8, _, _, rfl, rfl, e7, e8, by have := big1000; show 1 + (cutV (ks.map V.int) (some 1) (some (-1))).length ≤ _; omega, fun l9 f9 => ?_⟩
    generalize upd H7 l8 _ = H8 at *
    have S9 := Same.upd (o := .lst ([.int (ks.getD 0 0 - 1)] ++ cutV (ks.map V.int) (some 1) (some (-1)))) f9
    have e9' := upd_same (H := H8) (a := l9) (o := .lst ([.int (ks.getD 0 0 - 1)] ++ cutV (ks.map V.int) (some 1) (some (-1))))
    have S69 := S68.trans S9
    generalize upd H8 l9 _ = H9 at *
    refine ⟨_, rfl, _, rfl, lk, _, _, _, rfl, rfl, SqL.of (S69 _ _ hk), atI_end (by omega), _, _, rfl, rfl, (by show 1 ≤ sizeLine; decide), fun l10 f10 => ?_⟩
    have S10 := Same.upd (o := .lst [.int (ks.getD (ks.length - 1) 0 + 1)]) f10
    have e10 := upd_same (H := H9) (a := l10) (o := .lst [.int (ks.getD (ks.length - 1) 0 + 1)])
    have S610 := S69.trans S10
    replace e9' := S10 _ _ e9'
    generalize upd H9 l10 _ = H10 at *
    refine ⟨l9, l10, _, _, rfl, rfl, e9', e10, by rw [List.length_append]; have := big1000; show 1 + (cutV (ks.map V.int) (some 1) (some (-1))).length + 1 ≤ _; omega, fun l11 f11 => ?_⟩
    rw [spread_map l1']
    have S11 := Same.upd (o := .lst ((spread ks).map V.int)) f11
    have e11 := upd_same (H := H10) (a := l11) (o := .lst ((spread ks).map V.int))
    have S611 := S610.trans S11
    have T6 : Same H6 (upd H10 l11 (.lst ((spread ks).map V.int))) := (((S7.trans S8).trans S9).trans S10).trans S11
    generalize upd H10 l11 _ = H11 at *
    refine ⟨_, rfl, ?_⟩
    intro y dy fy fdy nd
    refine make_ok (tp := false) (tp' := false) (ks := spread ks) (gs := gs) e11 (S611 _ _ hg) su (by rw [spread_len l1']; exact few) ok (by rw [spread_len l1']; exact len) fy fdy fun H12 S12 pg => ⟨rfl, ?_⟩
    have S612 := S611.trans S12
    refine ⟨(by show 2 ≤ sizeLine; decide), fun t13 f13 => ?_⟩
    have S13 := Same.upd (o := .tup [.ref y, .bl false]) f13
    have it13 : LItem C ks gs (upd H12 t13 (.tup [.ref y, .bl false])) t13 := ⟨y, dy, spread ks, gs, _, upd_same, pg.keep S13, by rw [decide_eq_false (spread_ne l1')]; rfl⟩
    have T13 := (T6.trans S12).trans S13
    have its : ∀ t ∈ ts, LItem C ks gs (upd H12 t13 (.tup [.ref y, .bl false])) t := fun t ht => (it6 t ht).keep T13
    have e13 := T13 _ _ e6
    have S613 := S612.trans S13
    generalize upd H12 t13 _ = H13 at *
    obtain ⟨r1, r2, r3⟩ := add (b := .non) (y := y) S613 e13 its it13
    exact ⟨lf, _, _, rfl, rfl, e13, by rw [List.length_map]; have := big1000; omega, q _ _ ⟨⟨_, _, rfl⟩, ts ++ [t13], r1, r2, by rw [List.length_append]; show ts.length + 1 ≤ 11; omega, r3⟩⟩
end
end K11

set_option Elab.async false
set_option linter.all false
set_option maxRecDepth 100000
set_option maxHeartbeats 1000000
namespace K11
open PySem L2
mutual
theorem DV.off {N : Addr → Prop} {H : Hp} {L : Addr} (h : H L = none) : ∀ {v : V} {d : PyData}, DV N H v d → DV (fun a => a = L) H v d
  | _, _, .non => .non
  | _, _, .bl b => .bl b
  | _, _, .int i => .int i
  | _, _, .str x => .str x
  | _, _, .lst na e r => .lst (ne_of_none e h) e (DVs.off h r)
  | _, _, .tup na e r => .tup (ne_of_none e h) e (DVs.off h r)
  | _, _, .dct na e r => .dct (ne_of_none e h) e (DKs.off h r)
theorem DVs.off {N : Addr → Prop} {H : Hp} {L : Addr} (h : H L = none) : ∀ {vs : List V} {ds : List PyData}, DVs N H vs ds → DVs (fun a => a = L) H vs ds
  | _, _, .nil => .nil
  | _, _, .cons r t => .cons (DV.off h r) (DVs.off h t)
theorem DKs.off {N : Addr → Prop} {H : Hp} {L : Addr} (h : H L = none) : ∀ {vs : List (Key × V)} {ds : List (PyData × PyData)}, DKs N H vs ds → DKs (fun a => a = L) H vs ds
  | _, _, .nil => .nil
  | _, _, .cons r t => .cons (DV.off h r) (DKs.off h t)
end
def SItem (C CI : Addr) (N : Addr → Prop) (ks gs : List Int) (H : Hp) (t : Addr) : Prop := ∃ (v : V) (b : Bool), H t = some (.tup [v, .bl b]) ∧
  ((∃ (y dy : Addr) (ks' gs' : List Int), v = .ref y ∧ PgI C dy H y ks' gs' ∧ b = (decide (ks = ks') && decide (gs = gs'))) ∨
   (∃ y dy : Addr, v = .ref y ∧ Pg CI dy H y [] [.int 0] ∧ b = false) ∨
   (∃ d, DV N H v d ∧ Okd 100000 d ∧ b = false))
theorem SItem.keep {C CI : Addr} {N : Addr → Prop} {ks gs : List Int} {H H' : Hp} {t : Addr} (x : SItem C CI N ks gs H t) (S : Same H H') : SItem C CI N ks gs H' t := by
  obtain ⟨v, b, e, h⟩ := x
  refine ⟨v, b, S _ _ e, ?_⟩
  rcases h with ⟨y, dy, ks', gs', e1, p, q⟩ | ⟨y, dy, e1, p, q⟩ | ⟨d, p, o, q⟩
  · exact .inl ⟨y, dy, ks', gs', e1, p.keep S, q⟩
  · exact .inr (.inl ⟨y, dy, e1, p.keepS S, q⟩)
  · exact .inr (.inr ⟨d, p.keep (fun a o _ z => S a o z) fun _ z => z, o, q⟩)
theorem SItem.off {C CI L : Addr} {N : Addr → Prop} {ks gs : List Int} {H : Hp} {t : Addr} (x : SItem C CI N ks gs H t) (h : H L = none) : SItem C CI (fun a => a = L) ks gs H t := by
  obtain ⟨v, b, e, g⟩ := x
  refine ⟨v, b, e, ?_⟩
  rcases g with g | g | ⟨d, p, o, q⟩
  · exact .inl g
  · exact .inr (.inl g)
  · exact .inr (.inr ⟨d, DV.off h p, o, q⟩)
theorem Pg.updL {C dx x l : Addr} {H : Hp} {xs ys zs ws : List V} (p : Pg C dx H x xs ys) (h : H l = some (.lst zs)) : Pg C dx (upd H l (.lst ws)) x xs ys := by
  obtain ⟨tk, tg, a, b, c⟩ := p
  refine ⟨tk, tg, ?_, ?_, ?_⟩
  · rw [upd_ne (ne_of a h (by intro z; cases z))]; exact a
  · rw [upd_ne (ne_of b h (by intro z; cases z))]; exact b
  · rw [upd_ne (ne_of c h (by intro z; cases z))]; exact c
theorem SItem.updL {C CI L : Addr} {ks gs : List Int} {H : Hp} {t : Addr} {xs ys : List V} (x : SItem C CI (fun a => a = L) ks gs H t) (h : H L = some (.lst xs)) : SItem C CI (fun a => a = L) ks gs (upd H L (.lst ys)) t := by
  obtain ⟨v, b, e, g⟩ := x
  refine ⟨v, b, by rw [upd_ne (ne_of e h (by intro z; cases z))]; exact e, ?_⟩
  rcases g with ⟨y, dy, ks', gs', e1, p, q⟩ | ⟨y, dy, e1, p, q⟩ | ⟨d, p, o, q⟩
  · exact .inl ⟨y, dy, ks', gs', e1, p.updL h, q⟩
  · exact .inr (.inl ⟨y, dy, e1, p.updL h, q⟩)
  · exact .inr (.inr ⟨d, p.keep (fun a o n z => by rw [upd_ne n]; exact z) fun _ z => z, o, q⟩)
theorem LItem.s {C CI : Addr} {N : Addr → Prop} {ks gs : List Int} {H : Hp} {t : Addr} (x : LItem C ks gs H t) : SItem C CI N ks gs H t := let ⟨y, dy, ks', gs', b, e, p, q⟩ := x; ⟨.ref y, b, e, .inl ⟨y, dy, ks', gs', rfl, p, q⟩⟩
theorem SItem.use {K : PySem.W.Frag} {C CI : Addr} {N : Addr → Prop} {ks gs : List Int} {H : Hp} {t : Addr} (kn : Kin K C CI) (cl : InsC K C) (ci : InsC K CI) (x : SItem C CI N ks gs H t) : ∃ (v : V) (b : Bool), H t = some (.tup [v, .bl b]) ∧ (∃ txt, Tells C CI H v txt) ∧
    ∃ (u : Value) (kb : Bool), Any1 K H v u ∧ PySem.W.kitOne K u (.ref C) = some kb ∧ (kb = true → ∃ y dy, v = .ref y ∧ ∃ ks' gs' : List Int, Pg C dy H y (ks'.map V.int) (gs'.map V.int) ∧ b = (decide (ks = ks') && decide (gs = gs'))) ∧ (kb = false → b = false) := by
  obtain ⟨v, b, e, g⟩ := x
  refine ⟨v, b, e, ?_⟩
  rcases g with ⟨y, dy, ks', gs', rfl, p, q⟩ | ⟨y, dy, rfl, p, q⟩ | ⟨d, p, o, q⟩
  · obtain ⟨tk, tg, hy, _, _⟩ := p.pg
    exact ⟨⟨_, .inl ⟨y, dy, C, ks', gs', .inl rfl, rfl, p.pg, okd_rows (up_small p.up) (in_small p.ok) (by have := p.few; omega) (by have := p.few; have := p.len; omega), rfl⟩⟩, .ref C, true, .inr ⟨y, C, dy, _, rfl, hy, cl, rfl⟩, kit_self, fun _ => ⟨y, dy, rfl, ks', gs', p.pg, q⟩, fun z => by cases z⟩
  · have pp := p
    obtain ⟨tk, tg, hy, _, _⟩ := p
    exact ⟨⟨_, .inl ⟨y, dy, CI, [], [0], .inr rfl, rfl, pp, okd_rows (fun z hz => by cases hz) (fun z hz => by rw [List.mem_singleton.mp hz]; decide) (by decide) (by decide), rfl⟩⟩, .ref CI, false, .inr ⟨y, CI, dy, _, rfl, hy, ci, rfl⟩, kn.ci, (fun z => by cases z), fun _ => q⟩
  · have p' : DV (fun _ => False) H v d := p.keep (fun a o _ z => z) fun _ z => z.elim
    exact ⟨⟨_, .inr ⟨d, p', o, rfl⟩⟩, tyD d, false, .inl p'.thg, kn.c d, (fun z => by cases z), fun _ => q⟩
theorem make_in {C y dy cE a b : Addr} {H : Hp} {Q : VK} {E : XK} (ha : H a = some (.lst [])) (hb : H b = some (.lst [.int 0])) (fy : H y = none) (fdy : H dy = none)
    (q : ∀ H3, Same H H3 → Pg C dy H3 y [] [.int 0] → Q .non H3) : spMake C cE (fun dk dg => PagePlaces dg (lenD dk + 1)) [.ref y, .ref a, .ref b] (upd (upd H dy (.own y)) y (.ins C dy [])) Q E := by
  have K1 : Same H (upd (upd H dy (.own y)) y (.ins C dy [])) := fun c o hc => by
    rw [upd_ne (ne_of_none hc fy), upd_ne (ne_of_none hc fdy)]
    exact hc
  have PK : PageKeys (.list []) := keysL_page (ks := []) ⟨.nil, fun k h => by cases h⟩ (by decide)
  have PP : PagePlaces (.list [.int 0]) (lenD (.list []) + 1) := ⟨[0], rfl, rfl, fun i hi => by rw [List.mem_singleton.mp hi]; decide, by decide⟩
  have ha' : RowAt false (upd (upd H dy (.own y)) y (.ins C dy [])) a [] := K1 _ _ ha
  have hb' : RowAt false (upd (upd H dy (.own y)) y (.ins C dy [])) b [.int 0] := K1 _ _ hb
  refine ⟨fun _ => False, y, dy, .ref a, .ref b, .list [], .list [.int 0], rfl, upd_same, .lst (fun z => z) ha' .nil, .lst (fun z => z) hb' (.cons (.int 0) .nil), fun ds z => by cases z; decide, fun ds z => by cases z; decide, fun c => absurd PK c, fun _ c => absurd PP c, fun _ _ H3 a' b' t1 t2 xs ys B ea eb ra rb pg' => ?_⟩
  cases ea
  cases eb
  rw [row_same ra ha', row_same rb hb'] at pg'
  exact q H3 (fun c o hc => B c o (K1 _ _ hc) (ne_of_none hc fy)) pg'
theorem set_up {ks : List Int} (u : Up ks) {j : Nat} (hj : j < ks.length) (hn : ks.getD j 0 + 1 ∉ ks) (hb : ks.getD j 0 < 999999999) : Up (ks.set j (ks.getD j 0 + 1)) := by
  have g0 : ks.getD j 0 = ks[j] := by rw [List.getD_eq_getElem?_getD, List.getElem?_eq_getElem hj]; rfl
  rw [g0] at hn hb ⊢
  have pw := List.pairwise_iff_getElem.mp u.1
  refine ⟨List.pairwise_iff_getElem.mpr fun a b ha hb' hab => ?_, fun z hz => ?_⟩
  · rw [List.length_set] at ha hb'
    have h := pw a b ha hb' hab
    rw [List.getElem_set, List.getElem_set]
    by_cases ca : j = a
    · subst ca
      rw [if_pos rfl, if_neg (by omega)]
      have ne : ks[b] ≠ ks[j] + 1 := fun z => hn (by rw [← z]; exact List.getElem_mem hb')
      omega
    · rw [if_neg ca]
      by_cases cb : j = b
      · subst cb
        rw [if_pos rfl]
        omega
      · rw [if_neg cb]
        exact h
  · rcases List.mem_or_eq_of_mem_set hz with h | h
    · exact u.2 z h
    · have := u.2 _ (List.getElem_mem hj)
      omega
theorem set_ne {ks : List Int} {j : Nat} (hj : j < ks.length) : ks ≠ ks.set j (ks.getD j 0 + 1) := fun e => by
  have h : ks[j]? = (ks.set j (ks.getD j 0 + 1))[j]? := by rw [← e]
  rw [List.getElem?_set_self hj, List.getElem?_eq_getElem hj, List.getD_eq_getElem?_getD, List.getElem?_eq_getElem hj] at h
  simp only [Option.getD_some, Option.some.injEq] at h
  omega
theorem er_up {ks : List Int} (u : Up ks) (j : Nat) : Up (ks.eraseIdx j) := ⟨u.1.sublist (List.eraseIdx_sublist ks j), fun z hz => u.2 z (List.mem_of_mem_eraseIdx hz)⟩
theorem er_ne {ks : List Int} {j : Nat} (hj : j < ks.length) : ks ≠ ks.eraseIdx j := fun e => by
  have h := congrArg List.length e
  rw [List.length_eraseIdx_of_lt hj] at h
  omega
theorem ixN_nat {n i : Nat} (h : i < n) : ixN n (i : Int) = some i := by
  unfold ixN
  rw [if_pos (by omega), if_pos (by omega)]
  rfl
end K11

set_option Elab.async false
set_option linter.all false
set_option maxRecDepth 100000
set_option maxHeartbeats 2000000
namespace K11
open PySem L2
theorem okd_c {d : PyData} (a : d.showable = true) (b : d.leavesShort 40 = true) (c : d.depth ≤ 10) (e : d.weight ≤ 1000) : Okd 100000 d := ⟨a, b, by omega, by omega⟩
theorem okd_rowsT {ks gs : List Int} (hk : ∀ z ∈ ks, z.natAbs ≤ 10 ^ 30) (hg : ∀ z ∈ gs, z.natAbs ≤ 10 ^ 30) (lk : ks.length ≤ 7) (lg : gs.length ≤ 7) : Okd 100000 (.tuple [.tuple (ks.map PyData.int), .tuple (gs.map PyData.int)]) := by
  have sm : ∀ {ns : List Int}, (∀ z ∈ ns, z.natAbs ≤ 10 ^ 30) → ∀ d ∈ ns.map PyData.int, Small d := fun {ns} h d hd => by
    obtain ⟨g, hg, rfl⟩ := List.mem_map.mp hd
    exact small_int (h g hg)
  obtain ⟨a, b, c, e⟩ := smalls_row (sm hk)
  obtain ⟨a', b', c', e'⟩ := smalls_row (sm hg)
  rw [List.length_map] at e e'
  refine ⟨?_, ?_, ?_, ?_⟩
  · simp only [PyData.showable, PyData.showableAll, a, a', Bool.and_self]
  · simp only [PyData.leavesShort, PyData.leavesShortAll, b, b', Bool.and_self]
  · simp only [PyData.depth, PyData.depthAll]; omega
  · simp only [PyData.weight, PyData.weightAll]; omega
theorem any_keep {K : PySem.W.Frag} {H H' : Hp} {v : V} {t : Value} (a : Any1 K H v t) (S : Same H H') : Any1 K H' v t := by
  rcases a with a | ⟨x, C, dx, fs, e, h, c, q⟩
  · exact .inl (a.keep S)
  · exact .inr ⟨x, C, dx, fs, e, S _ _ h, c, q⟩
section
variable {P : Program} {w : World} {K : PySem.W.Frag} {mg : Str → Option Value} {base : Heap}
abbrev s__law_same_right : Stmt := top 44
theorem sc__law_same_right : FnScope ["_law_page", "_law_keys_here", "_law_goods", "_law_things", "_law_k", "_law_other", "_law_fewer", "_law_more", "_law_thing", "_law_due", "_law_kept", "_law_found"] ["_law_page", "_law_keys_here", "_law_goods"] (defScope s__law_same_right) := ⟨rfl, rfl, rfl, by decide +kernel, rfl, by decide +kernel, by decide +kernel⟩
def spSR (C : Addr) : Sp := fun vs H Q _ => ∃ (x dx lk lg : Addr) (ks gs : List Int), vs = [.ref x, .ref lk, .ref lg] ∧ PgI C dx H x ks gs ∧ H lk = some (.lst (ks.map V.int)) ∧ H lg = some (.lst (gs.map V.int)) ∧ ∀ H', Same H H' → Q (.bl true) H'
theorem ok_sr {C CI f fK fG f' fK' fG' cE cE' : Addr} {fd fd' : FuncData} (hd : ∃ f fd, Dn K mg "_law_same_right" "_law_same_right" s__law_same_right ["_law_page", "_law_keys_here", "_law_goods"] f fd) (T : Txt K mg) (kn : Kin K C CI) (cl : InsC K C) (ci : InsC K CI)
    (XLeaf : KdN K mg "Leaf" "Leaf.__init__" (inClass (top 28) 0) C f fd fK fG) (XInner : KdN K mg "Inner" "Inner.__init__" (inClass (top 29) 0) CI f' fd' fK' fG')
    (GLeaf : FnOk P w K mg base (CXo P w) 8 f fd ["self", "keys", "goods"] (spMake C cE fun dk dg => PageGoods dg (lenD dk))) (GInner : FnOk P w K mg base (CXo P w) 8 f' fd' ["self", "keys", "goods"] (spMake CI cE' fun dk dg => PagePlaces dg (lenD dk + 1)))
    (m1 : MtOk P w K mg base CX0 C "same" ["self", "thing"] 3 (spSame K C))
    (h1 : OkD P w K mg base "_law_exchanged" s__law_exchanged ["_law_keys_here", "_law_goods"] 10 (spEx C)) (h2 : OkD P w K mg base "_law_page_told" s__law_page_told ["_law_thing"] 2 (spPT C CI)) : OkD P w K mg base "_law_same_right" s__law_same_right ["_law_page", "_law_keys_here", "_law_goods"] 11 (spSR C) := by
  obtain ⟨f0, fd0, D⟩ := hd
  obtain ⟨f1, fd1, D_law_exchanged, G_law_exchanged⟩ := h1
  obtain ⟨f2, fd2, D_law_page_told, G_law_page_told⟩ := h2
  obtain ⟨fS, fdS, Me_same, B_same, G_same⟩ := m1
  have CL := cl.cl
  refine ⟨f0, fd0, D, D.fn.ok sc__law_same_right (fun vs H Q E h => ?_) (fun cdv A outer s H vs Q E hr h => ?_)⟩
  · obtain ⟨_, _, _, _, _, _, rfl, _⟩ := h
    rfl
  · obtain ⟨x, dx, lk, lg, ks, gs, rfl, pg, hk, hg, k⟩ := h
    have sc := sc__law_same_right
    have hu := hr.units0
    have up := pg.up
    have few := pg.few
    have len := pg.len
    have ok := pg.ok
    refine' ⟨_, (pss_cons (ps_set (i := 3) sc.nd rfl (Or.inl rfl) (pe_lst (pa_c (pe_tup (pa_c (pe_make XLeaf.mak GLeaf (hr.mono (by decide)) rfl XLeaf.m XLeaf.bi .nil passX (pa_c (pe_callTy call_list_of rfl T.n_list bt_list (pa_c (pv 1) pa_nil)) (pa_c (pe_callTy call_list_of rfl T.n_list bt_list (pa_c (pv 2) pa_nil)) pa_nil))) (pa_c pe_bl pa_nil))) (pa_c (pe_tup (pa_c pe_non (pa_c pe_bl pa_nil))) (pa_c (pe_tup (pa_c (pv 1) (pa_c pe_bl pa_nil))) (pa_c (pe_tup (pa_c (pe_make XInner.mak GInner (hr.mono (by decide)) rfl XInner.m XInner.bi .nil passX (pa_c (pe_lst pa_nil) (pa_c (pe_lst (pa_c pe_int pa_nil)) pa_nil))) (pa_c pe_bl pa_nil))) pa_nil))))))
    (pss_cons (ps_set (i := 3) sc.nd rfl (Or.inl rfl) (pe_op op_cat (pv 3) (pe_lst (pa_c (pe_tup (pa_c (pe_tup (pa_c (pe_callTy call_tuple_of rfl T.n_tuple bt_tuple (pa_c (pv 1) pa_nil)) (pa_c (pe_callTy call_tuple_of rfl T.n_tuple bt_tuple (pa_c (pv 2) pa_nil)) pa_nil))) (pa_c pe_bl pa_nil))) (pa_c (pe_tup (pa_c pe_str (pa_c pe_bl pa_nil))) (pa_c (pe_tup (pa_c pe_dnewK (pa_c pe_bl pa_nil))) (pa_c (pe_tup (pa_c pe_int (pa_c pe_bl pa_nil))) (pa_c (pe_tup (pa_c pe_bl (pa_c pe_bl pa_nil))) pa_nil))))))))
    (pss_cons (ps_for PassesOwn.never rfl (pi_range1 rfl T.n_range (pa_c (pe_callB call_len_seq rfl T.n_len bt_len (pa_c (pv 1) pa_nil)) pa_nil)) (pg_name (i := 4) sc.nd rfl (Or.inl rfl))
      (pss_cons (ps_set (i := 5) sc.nd rfl (Or.inl rfl) (pe_callTy call_list_of rfl T.n_list bt_list (pa_c (pv 2) pa_nil)))
    (pss_cons (ps_asg (pe_op op_mul (pe_op op_add (pe_ix ix_list (pv 2) (pv 4) (fun _ _ => rfl)) pe_int) (pe_callTy call_int1 rfl T.n_int bt_int (pa_c (pe_cmpR op_lt (pe_ix ix_list (pv 2) (pv 4) (fun _ _ => rfl)) pe_int (nomark _)) pa_nil))) (pg_sub (pv 5) (pv 4) set_list))
    (pss_cons (ps_expr (pe_bm PySem.F.plainAttrs_list PySem.F.slot_list_append PySem.F.type_list_append mt_append (pv 3) (pa_c (pe_tup (pa_c (pe_make XLeaf.mak GLeaf (hr.mono (by decide)) rfl XLeaf.m XLeaf.bi .nil passX (pa_c (pv 1) (pa_c (pv 5) pa_nil))) (pa_c (pe_cmpR (op_eqL hu) (pv 5) (pv 2) (nomark _)) pa_nil))) pa_nil)))
    (pss_cons (ps_set (i := 6) sc.nd rfl (Or.inl rfl) (pe_op op_cat (pe_slice sl_list (pv 1) po_none (po_some (pv 4))) (pe_slice sl_list (pv 1) (po_some (pe_op op_add (pv 4) pe_int)) po_none)))
    (pss_cons (ps_expr (pe_bm PySem.F.plainAttrs_list PySem.F.slot_list_append PySem.F.type_list_append mt_append (pv 3) (pa_c (pe_tup (pa_c (pe_make XLeaf.mak GLeaf (hr.mono (by decide)) rfl XLeaf.m XLeaf.bi .nil passX (pa_c (pv 6) (pa_c (pe_op op_cat (pe_slice sl_list (pv 2) po_none (po_some (pv 4))) (pe_slice sl_list (pv 2) (po_some (pe_op op_add (pv 4) pe_int)) po_none)) pa_nil))) (pa_c pe_bl pa_nil))) pa_nil)))
    (pss_one (ps_if (PW.pt (pw_and (pt_cmpR op_notIn_seq (pe_op op_add (pe_ix ix_list (pv 1) (pv 4) (fun _ _ => rfl)) pe_int) (pv 1) (by with_unfolding_all rfl)) (pw_and1 (pt_cmpR op_lt (pe_ix ix_list (pv 1) (pv 4) (fun _ _ => rfl)) (pe_op op_sub (pe_op op_pow pe_int pe_int) pe_int) (nomark _)))))
      (pss_cons (ps_set (i := 7) sc.nd rfl (Or.inl rfl) (pe_callTy call_list_of rfl T.n_list bt_list (pa_c (pv 1) pa_nil)))
    (pss_cons (ps_asg (pe_op op_add (pe_ix ix_list (pv 1) (pv 4) (fun _ _ => rfl)) pe_int) (pg_sub (pv 7) (pv 4) set_list))
    (pss_one (ps_expr (pe_bm PySem.F.plainAttrs_list PySem.F.slot_list_append PySem.F.type_list_append mt_append (pv 3) (pa_c (pe_tup (pa_c (pe_make XLeaf.mak GLeaf (hr.mono (by decide)) rfl XLeaf.m XLeaf.bi .nil passX (pa_c (pv 7) (pa_c (pv 2) pa_nil))) (pa_c pe_bl pa_nil))) pa_nil))))))
      pss_nil))))))))
    (pss_cons (ps_for PassesOwn.never rfl (pi_list (pe_op op_cat (pv 3) (pe_call G_law_exchanged (hr.mono (by decide)) rfl D_law_exchanged.m D_law_exchanged.fn.kp D_law_exchanged.b .nil pass0 (pa_c (pv 1) (pa_c (pv 2) pa_nil))))) (pg_tup rfl (pgs_cons (pg_name (i := 8) sc.nd rfl (Or.inl rfl)) (pgs_cons (pg_name (i := 9) sc.nd rfl (Or.inl rfl)) pgs_nil)))
      (pss_cons (ps_set (i := 10) sc.nd rfl (Or.inl rfl) (pe_call G_law_page_told (hr.mono (by decide)) rfl D_law_page_told.m D_law_page_told.fn.kp D_law_page_told.b .nil pass0 (pa_c (pv 8) pa_nil)))
    (pss_cons (ps_set (i := 11) sc.nd rfl (Or.inl rfl) (pe_meth (pv 0) CL Me_same G_same (hr.mono (by decide)) B_same .nil pass0 (pa_c (pv 8) pa_nil)))
    (pss_one (ps_if (PW.pt (pw_or (pt_not (pt_val (pe_callB call_inst rfl T.n_isinstance bt_isinstance (pa_c (pv 11) (pa_c (pe_bltn (v := .ty "bool") rfl T.n_bool bt_bool rfl) pa_nil))))) (pw_or (pt_cmpR op_ne (pv 11) (pv 9) (nomark _)) (pw_or1 (pt_cmpR op_ne (pe_call G_law_page_told (hr.mono (by decide)) rfl D_law_page_told.m D_law_page_told.fn.kp D_law_page_told.b .nil pass0 (pa_c (pv 8) pa_nil)) (pv 10) (nomark _))))))
      (pss_one (ps_ret pe_bl))
      pss_nil)))))
    (pss_one (ps_ret pe_bl)))))), ?_⟩
    refine seq2 (fun σ H1 => ∃ (LA t1 t2 t3 t4 : Addr), σ = [some (.ref x), some (.ref lk), some (.ref lg), some (.ref LA), none, none, none, none, none, none, none, none] ∧ Same H H1 ∧ H1 LA = some (.lst [.ref t1, .ref t2, .ref t3, .ref t4]) ∧ ∀ t ∈ [t1, t2, t3, t4], SItem C CI (fun _ => False) ks gs H1 t) ?s0 ?r0
    case s0 =>
      intro N q
      refine ⟨_, rfl, lk, _, rfl, .inl (SqL.of hk), fun l1 f1 => ?_⟩
      have S1 := Same.upd (o := .lst (ks.map V.int)) f1
      have e1 := upd_same (H := H) (a := l1) (o := .lst (ks.map V.int))
      generalize upd H l1 _ = H1 at *
      refine ⟨_, rfl, lg, _, rfl, .inl (SqL.of (S1 _ _ hg)), fun l2 f2 => ?_⟩
      have S2 := Same.upd (o := .lst (gs.map V.int)) f2
      have e2 := upd_same (H := H1) (a := l2) (o := .lst (gs.map V.int))
      have S02 := S1.trans S2
      replace e1 := S2 _ _ e1
      generalize upd H1 l2 _ = H2 at *
      intro y dy fy fdy nd
      refine make_ok (tp := false) (tp' := false) (ks := ks) (gs := gs) e1 e2 up few ok len fy fdy fun H3 S3 pg3 => ⟨rfl, ?_⟩
      have S03 := S02.trans S3
      refine ⟨(by show 2 ≤ sizeLine; decide), fun t1 g1 => ?_⟩
      have S4 := Same.upd (o := .tup [.ref y, .bl true]) g1
      have i1 : SItem C CI (fun _ => False) ks gs (upd H3 t1 (.tup [.ref y, .bl true])) t1 := ⟨_, _, upd_same, .inl ⟨y, dy, ks, gs, rfl, pg3.keep S4, by rw [decide_eq_true rfl, decide_eq_true rfl]; rfl⟩⟩
      have S04 := S03.trans S4
      generalize upd H3 t1 _ = H4 at *
      refine ⟨(by show 2 ≤ sizeLine; decide), fun t2 g2 => ?_⟩
      have S5 := Same.upd (o := .tup [.non, .bl false]) g2
      have i2 : SItem C CI (fun _ => False) ks gs (upd H4 t2 (.tup [.non, .bl false])) t2 := ⟨_, _, upd_same, .inr (.inr ⟨.none, .non, okd_c rfl rfl (by decide) (by decide), rfl⟩)⟩
      replace i1 := i1.keep S5
      have S05 := S04.trans S5
      generalize upd H4 t2 _ = H5 at *
      refine ⟨_, rfl, (by show 2 ≤ sizeLine; decide), fun t3 g3 => ?_⟩
      have S6 := Same.upd (o := .tup [.ref lk, .bl false]) g3
      have S06 := S05.trans S6
      have i3 : SItem C CI (fun _ => False) ks gs (upd H5 t3 (.tup [.ref lk, .bl false])) t3 := ⟨_, _, upd_same, .inr (.inr ⟨_, dv_lst (S06 _ _ hk), Okd.row (up_small up) (by omega), rfl⟩)⟩
      replace i1 := i1.keep S6
      replace i2 := i2.keep S6
      generalize upd H5 t3 _ = H6 at *
      refine ⟨(by show 0 ≤ sizeLine; decide), fun l4 f4 => ?_⟩
      have S7 := Same.upd (o := .lst []) f4
      have e4 := upd_same (H := H6) (a := l4) (o := .lst [])
      have S07 := S06.trans S7
      replace i1 := i1.keep S7
      replace i2 := i2.keep S7
      replace i3 := i3.keep S7
      generalize upd H6 l4 _ = H7 at *
      refine ⟨(by show 1 ≤ sizeLine; decide), fun l5 f5 => ?_⟩
      have S8 := Same.upd (o := .lst [.int 0]) f5
      have e5 := upd_same (H := H7) (a := l5) (o := .lst [.int 0])
      have S08 := S07.trans S8
      replace i1 := i1.keep S8
      replace i2 := i2.keep S8
      replace i3 := i3.keep S8
      replace e4 := S8 _ _ e4
      generalize upd H7 l5 _ = H8 at *
      intro z dz fz fdz nz
      refine make_in e4 e5 fz fdz fun H9 S9 pg9 => ⟨rfl, ?_⟩
      have S09 := S08.trans S9
      replace i1 := i1.keep S9
      replace i2 := i2.keep S9
      replace i3 := i3.keep S9
      refine ⟨(by show 2 ≤ sizeLine; decide), fun t4 g4 => ?_⟩
      have S10 := Same.upd (o := .tup [.ref z, .bl false]) g4
      have i4 : SItem C CI (fun _ => False) ks gs (upd H9 t4 (.tup [.ref z, .bl false])) t4 := ⟨_, _, upd_same, .inr (.inl ⟨z, dz, rfl, pg9.keepS S10, rfl⟩)⟩
      have S010 := S09.trans S10
      replace i1 := i1.keep S10
      replace i2 := i2.keep S10
      replace i3 := i3.keep S10
      generalize upd H9 t4 _ = H10 at *
      refine ⟨(by show 4 ≤ sizeLine; decide), fun LA fA => ?_⟩
      have S11 := Same.upd (o := .lst [.ref t1, .ref t2, .ref t3, .ref t4]) fA
      refine q _ _ ⟨LA, t1, t2, t3, t4, rfl, S010.trans S11, upd_same, fun t ht => ?_⟩
      simp only [List.mem_cons, List.not_mem_nil, or_false] at ht
      rcases ht with rfl | rfl | rfl | rfl
      · exact i1.keep S11
      · exact i2.keep S11
      · exact i3.keep S11
      · exact i4.keep S11
    case r0 =>
    rintro _ H1 ⟨LA, t1, t2, t3, t4, rfl, S1, eA, it1⟩
    refine seq2 (fun σ H2 => ∃ (L : Addr) (ts : List Addr), σ = [some (.ref x), some (.ref lk), some (.ref lg), some (.ref L), none, none, none, none, none, none, none, none] ∧ H L = none ∧ Same H H2 ∧ H2 L = some (.lst (ts.map V.ref)) ∧ ts.length = 9 ∧ ∀ t ∈ ts, SItem C CI (fun a => a = L) ks gs H2 t) ?s1 ?r1
    case s1 =>
      intro N q
      refine ⟨_, rfl, _, rfl, lk, _, rfl, .inl ⟨SqL.of (S1 _ _ hk), fun q1 f1 => ?_⟩⟩
      have S2 := Same.upd (o := .tup (ks.map V.int)) f1
      have e1 := upd_same (H := H1) (a := q1) (o := .tup (ks.map V.int))
      have S02 := S1.trans S2
      replace eA := S2 _ _ eA
      replace it1 : ∀ t ∈ [t1, t2, t3, t4], SItem C CI (fun _ => False) ks gs (upd H1 q1 (.tup (ks.map V.int))) t := fun t ht => (it1 t ht).keep S2
      generalize upd H1 q1 _ = H2 at *
      refine ⟨_, rfl, lg, _, rfl, .inl ⟨SqL.of (S02 _ _ hg), fun q2 f2 => ?_⟩⟩
      have S3 := Same.upd (o := .tup (gs.map V.int)) f2
      have e2 := upd_same (H := H2) (a := q2) (o := .tup (gs.map V.int))
      have S03 := S02.trans S3
      replace eA := S3 _ _ eA
      replace e1 := S3 _ _ e1
      replace it1 : ∀ t ∈ [t1, t2, t3, t4], SItem C CI (fun _ => False) ks gs (upd H2 q2 (.tup (gs.map V.int))) t := fun t ht => (it1 t ht).keep S3
      generalize upd H2 q2 _ = H3 at *
      refine ⟨(by show 2 ≤ sizeLine; decide), fun q3 f3 => ?_⟩
      have S4 := Same.upd (o := .tup [.ref q1, .ref q2]) f3
      have e3 := upd_same (H := H3) (a := q3) (o := .tup [.ref q1, .ref q2])
      have S04 := S03.trans S4
      replace eA := S4 _ _ eA
      replace e1 := S4 _ _ e1
      replace e2 := S4 _ _ e2
      replace it1 : ∀ t ∈ [t1, t2, t3, t4], SItem C CI (fun _ => False) ks gs (upd H3 q3 (.tup [.ref q1, .ref q2])) t := fun t ht => (it1 t ht).keep S4
      generalize upd H3 q3 _ = H4 at *
      refine ⟨(by show 2 ≤ sizeLine; decide), fun t5 f5 => ?_⟩
      have S5 := Same.upd (o := .tup [.ref q3, .bl false]) f5
      have i5 : SItem C CI (fun _ => False) ks gs (upd H4 t5 (.tup [.ref q3, .bl false])) t5 := ⟨_, _, upd_same, .inr (.inr ⟨_, .tup (fun z => z) (S5 _ _ e3) (.cons (.tup (fun z => z) (S5 _ _ e1) (dvs_ints ks)) (.cons (.tup (fun z => z) (S5 _ _ e2) (dvs_ints gs)) .nil)), okd_rowsT (up_small up) (in_small ok) (by omega) (by omega), rfl⟩)⟩
      have S05 := S04.trans S5
      replace eA := S5 _ _ eA
      replace it1 : ∀ t ∈ [t1, t2, t3, t4], SItem C CI (fun _ => False) ks gs (upd H4 t5 (.tup [.ref q3, .bl false])) t := fun t ht => (it1 t ht).keep S5
      generalize upd H4 t5 _ = H5 at *
      refine ⟨(by show 2 ≤ sizeLine; decide), fun t6 f6 => ?_⟩
      have S6 := Same.upd (o := .tup [.str "", .bl false]) f6
      have i6 : SItem C CI (fun _ => False) ks gs (upd H5 t6 (.tup [.str "", .bl false])) t6 := ⟨_, _, upd_same, .inr (.inr ⟨.str "", .str "", okd_c (by decide +kernel) (by decide +kernel) (by decide +kernel) (by decide +kernel), rfl⟩)⟩
      have S06 := S05.trans S6
      replace eA := S6 _ _ eA
      replace it1 : ∀ t ∈ [t1, t2, t3, t4], SItem C CI (fun _ => False) ks gs (upd H5 t6 (.tup [.str "", .bl false])) t := fun t ht => (it1 t ht).keep S6
      replace i5 := i5.keep S6
      generalize upd H5 t6 _ = H6 at *
      refine fun d fdd => ?_
      have S7 := Same.upd (o := .dK []) fdd
      have ed := upd_same (H := H6) (a := d) (o := .dK [])
      have S07 := S06.trans S7
      replace eA := S7 _ _ eA
      replace it1 : ∀ t ∈ [t1, t2, t3, t4], SItem C CI (fun _ => False) ks gs (upd H6 d (.dK [])) t := fun t ht => (it1 t ht).keep S7
      replace i5 := i5.keep S7
      replace i6 := i6.keep S7
      generalize upd H6 d _ = H7 at *
      refine ⟨(by show 2 ≤ sizeLine; decide), fun t7 f7 => ?_⟩
      have S8 := Same.upd (o := .tup [.ref d, .bl false]) f7
      have i7 : SItem C CI (fun _ => False) ks gs (upd H7 t7 (.tup [.ref d, .bl false])) t7 := ⟨_, _, upd_same, .inr (.inr ⟨.dict [], .dct (fun z => z) (S8 _ _ ed) .nil, okd_c (by decide +kernel) (by decide +kernel) (by decide +kernel) (by decide +kernel), rfl⟩)⟩
      have S08 := S07.trans S8
      replace eA := S8 _ _ eA
      replace it1 : ∀ t ∈ [t1, t2, t3, t4], SItem C CI (fun _ => False) ks gs (upd H7 t7 (.tup [.ref d, .bl false])) t := fun t ht => (it1 t ht).keep S8
      replace i5 := i5.keep S8
      replace i6 := i6.keep S8
      generalize upd H7 t7 _ = H8 at *
      refine ⟨(by show 2 ≤ sizeLine; decide), fun t8 f8 => ?_⟩
      have S9 := Same.upd (o := .tup [.int 7, .bl false]) f8
      have i8 : SItem C CI (fun _ => False) ks gs (upd H8 t8 (.tup [.int 7, .bl false])) t8 := ⟨_, _, upd_same, .inr (.inr ⟨.int 7, .int 7, okd_i (by decide), rfl⟩)⟩
      have S09 := S08.trans S9
      replace eA := S9 _ _ eA
      replace it1 : ∀ t ∈ [t1, t2, t3, t4], SItem C CI (fun _ => False) ks gs (upd H8 t8 (.tup [.int 7, .bl false])) t := fun t ht => (it1 t ht).keep S9
      replace i5 := i5.keep S9
      replace i6 := i6.keep S9
      replace i7 := i7.keep S9
      generalize upd H8 t8 _ = H9 at *
      refine ⟨(by show 2 ≤ sizeLine; decide), fun t9 f9 => ?_⟩
      have S10 := Same.upd (o := .tup [.bl true, .bl false]) f9
      have i9 : SItem C CI (fun _ => False) ks gs (upd H9 t9 (.tup [.bl true, .bl false])) t9 := ⟨_, _, upd_same, .inr (.inr ⟨.bool true, .bl true, okd_c (by decide +kernel) (by decide +kernel) (by decide +kernel) (by decide +kernel), rfl⟩)⟩
      have S010 := S09.trans S10
      replace eA := S10 _ _ eA
      replace it1 : ∀ t ∈ [t1, t2, t3, t4], SItem C CI (fun _ => False) ks gs (upd H9 t9 (.tup [.bl true, .bl false])) t := fun t ht => (it1 t ht).keep S10
      replace i5 := i5.keep S10
      replace i6 := i6.keep S10
      replace i7 := i7.keep S10
      replace i8 := i8.keep S10
      generalize upd H9 t9 _ = H10 at *
      refine ⟨(by show 5 ≤ sizeLine; decide), fun LB fB => ?_⟩
      have S11 := Same.upd (o := .lst [.ref t5, .ref t6, .ref t7, .ref t8, .ref t9]) fB
      have eB := upd_same (H := H10) (a := LB) (o := .lst [.ref t5, .ref t6, .ref t7, .ref t8, .ref t9])
      have S011 := S010.trans S11
      replace eA := S11 _ _ eA
      have its : ∀ t ∈ [t1, t2, t3, t4, t5, t6, t7, t8, t9], SItem C CI (fun _ => False) ks gs (upd H10 LB (.lst [.ref t5, .ref t6, .ref t7, .ref t8, .ref t9])) t := fun t ht => by
        rcases List.mem_append.mp (show t ∈ [t1, t2, t3, t4] ++ [t5, t6, t7, t8, t9] from ht) with h | h
        · exact (it1 t h).keep S11
        · simp only [List.mem_cons, List.not_mem_nil, or_false] at h
          rcases h with rfl | rfl | rfl | rfl | rfl
          · exact i5.keep S11
          · exact i6.keep S11
          · exact i7.keep S11
          · exact i8.keep S11
          · exact i9.keep S11
      generalize upd H10 LB _ = H11 at *
      refine ⟨LA, LB, _, _, rfl, rfl, eA, eB, (by show 4 + 5 ≤ sizeLine; decide), fun L fL => ?_⟩
      have S12 := Same.upd (o := .lst ([.ref t1, .ref t2, .ref t3, .ref t4] ++ [.ref t5, .ref t6, .ref t7, .ref t8, .ref t9])) fL
      exact q _ _ ⟨L, [t1, t2, t3, t4, t5, t6, t7, t8, t9], rfl, S011.free fL, S011.trans S12, upd_same, rfl, fun t ht => ((its t ht).off fL).keep S12⟩
    case r1 =>
    rintro _ H2 ⟨L, ts0, rfl, fL, S2, eL2, lt2, it2⟩
    have add : ∀ {H6 : Hp} {t : Addr} {ts : List Addr}, Same H H6 → H6 L = some (.lst (ts.map V.ref)) → (∀ t ∈ ts, SItem C CI (fun a => a = L) ks gs H6 t) → SItem C CI (fun a => a = L) ks gs H6 t → Same H (upd H6 L (.lst (ts.map V.ref ++ [.ref t]))) ∧ upd H6 L (.lst (ts.map V.ref ++ [.ref t])) L = some (.lst ((ts ++ [t]).map V.ref)) ∧ ∀ t' ∈ ts ++ [t], SItem C CI (fun a => a = L) ks gs (upd H6 L (.lst (ts.map V.ref ++ [.ref t]))) t' := fun {H6 t ts} S e it i => by
      refine ⟨fun c o z => ?_, ?_, fun t' ht => ?_⟩
      · rw [upd_ne (ne_of_none z fL)]; exact S _ _ z
      · rw [upd_same, List.map_append]; rfl
      · rcases List.mem_append.mp ht with h | h
        · exact (it t' h).updL e
        · rw [List.mem_singleton.mp h]; exact i.updL e
    refine seq2 (fun σ H3 => ∃ (o4 o5 o6 o7 : Option V) (ts : List Addr), σ = [some (.ref x), some (.ref lk), some (.ref lg), some (.ref L), o4, o5, o6, o7, none, none, none, none] ∧ Same H H3 ∧ H3 L = some (.lst (ts.map V.ref)) ∧ ts.length ≤ 30 ∧ ∀ t ∈ ts, SItem C CI (fun a => a = L) ks gs H3 t) ?s2 ?r2
    case s2 =>
      intro N q
      refine ⟨_, rfl, lk, _, rfl, .inl (SqL.of (S2 _ _ hk)), _, rfl, by omega, by rw [List.length_map]; omega, for_range (fun i σ H3 => ∃ (o4 o5 o6 o7 : Option V) (ts : List Addr), σ = [some (.ref x), some (.ref lk), some (.ref lg), some (.ref L), o4, o5, o6, o7, none, none, none, none] ∧ Same H H3 ∧ H3 L = some (.lst (ts.map V.ref)) ∧ ts.length ≤ 9 + 3 * i ∧ ∀ t ∈ ts, SItem C CI (fun a => a = L) ks gs H3 t) ⟨none, none, none, none, ts0, rfl, S2, eL2, by omega, it2⟩ ?_ ?_⟩
      case refine_2 =>
        rintro σ H3 ⟨o4, o5, o6, o7, ts, a, b, c, d, e⟩
        refine q _ _ ⟨o4, o5, o6, o7, ts, a, b, c, ?_, e⟩
        rw [List.length_map] at d
        omega
      rintro i σ H3 hi ⟨o4, o5, o6, o7, ts, rfl, S3, e3, lt3, it3⟩
      rw [List.length_map] at hi
      have hg3 := S3 _ _ hg
      have hk3 := S3 _ _ hk
      have ig : i < gs.length := by omega
      have c1 : ((0 : Int) + (i : Int)) = ((i : Nat) : Int) := by omega
      refine ⟨_, rfl, lg, _, rfl, .inl (SqL.of hg3), fun lo fo => ?_⟩
      rw [c1]
      have e4 := upd_same (H := H3) (a := lo) (o := .lst (gs.map V.int))
      have S4 := Same.upd (o := .lst (gs.map V.int)) fo
      have hg4 := S4 _ _ hg3
      have mb := ok _ (getD_mem ig)
      refine ⟨_, rfl, _, rfl, lg, _, _, _, rfl, rfl, SqL.of hg4, at_intG ig, _, _, rfl, rfl, _, rfl, _, rfl, lg, _, _, _, rfl, rfl, SqL.of hg4, at_intG ig, _, _, rfl, rfl, .inr ⟨_, rfl, _, _, rfl, rfl, .inl ⟨by omega, by omega⟩, _, rfl, _, rfl, lo, _, _, _, rfl, rfl, e4, ixN_nat (by rw [List.length_map]; exact ig), ?_⟩⟩
      rw [← List.map_set]
      have bz : ∀ {z : Int}, z = (gs.getD i 0 + 1) * (if decide (gs.getD i 0 < 9) then 1 else 0) → -999999999 ≤ z ∧ z ≤ 999999999 := fun {z} e => by
        by_cases h : gs.getD i 0 < 9
        · rw [decide_eq_true h, if_pos rfl] at e; omega
        · rw [decide_eq_false h, if_neg Bool.false_ne_true] at e; omega
      have S4' : Same H3 (upd (upd H3 lo (.lst (gs.map V.int))) lo (.lst ((gs.set i ((gs.getD i 0 + 1) * (if decide (gs.getD i 0 < 9) then 1 else 0))).map V.int))) := fun c o z => by rw [upd_ne (ne_of_none z fo), upd_ne (ne_of_none z fo)]; exact z
      have e5 := upd_same (H := upd H3 lo (.lst (gs.map V.int))) (a := lo) (o := .lst ((gs.set i ((gs.getD i 0 + 1) * (if decide (gs.getD i 0 < 9) then 1 else 0))).map V.int))
      have okO : ∀ g ∈ gs.set i ((gs.getD i 0 + 1) * (if decide (gs.getD i 0 < 9) then 1 else 0)), -999999999 ≤ g ∧ g ≤ 999999999 := fun g hgm => by
        rcases List.mem_or_eq_of_mem_set hgm with h | h
        · exact ok g h
        · exact bz h
      have lenO : (gs.set i ((gs.getD i 0 + 1) * (if decide (gs.getD i 0 < 9) then 1 else 0))).length = ks.length := by rw [List.length_set]; exact len
      generalize gs.set i ((gs.getD i 0 + 1) * (if decide (gs.getD i 0 < 9) then 1 else 0)) = os at *
      generalize upd (upd H3 lo (.lst (gs.map V.int))) lo (.lst (os.map V.int)) = H5 at *
      have S5 := S3.trans S4'
      replace e3 := S4' _ _ e3
      have it5 : ∀ t ∈ ts, SItem C CI (fun a => a = L) ks gs H5 t := fun t ht => (it3 t ht).keep S4'
      refine ⟨_, rfl, .inl ⟨rfl, _, SqL.of e3⟩, _, rfl, _, rfl, ?_⟩
      intro y dy fy fdy nd
      refine make_ok (tp := false) (tp' := false) (ks := ks) (gs := os) (S5 _ _ hk) e5 up few okO lenO fy fdy fun H6 S6 pg6 => ⟨rfl, ?_⟩
      have S06 := S5.trans S6
      refine ⟨_, rfl, _, rfl, _, _, _, _, rfl, rfl, SqL.of (S6 _ _ e5), SqL.of (S06 _ _ hg), fun _ => okP_ints, ?_⟩
      rw [if_neg Bool.false_ne_true, eqPs_ints]
      refine ⟨(by show 2 ≤ sizeLine; decide), fun t7 f7 => ?_⟩
      have S7 := Same.upd (o := .tup [.ref y, .bl (decide (os = gs))]) f7
      have i7 : SItem C CI (fun a => a = L) ks gs (upd H6 t7 (.tup [.ref y, .bl (decide (os = gs))])) t7 := ⟨_, _, upd_same, .inl ⟨y, dy, ks, os, rfl, pg6.keep S7, by rw [decide_eq_true (rfl : ks = ks), Bool.true_and]; exact decide_eq_decide.mpr eq_comm⟩⟩
      have S07 := S06.trans S7
      have e7 := S7 _ _ (S6 _ _ e3)
      have it7 : ∀ t ∈ ts, SItem C CI (fun a => a = L) ks gs (upd H6 t7 (.tup [.ref y, .bl (decide (os = gs))])) t := fun t ht => (it5 t ht).keep (S6.trans S7)
      generalize upd H6 t7 _ = H7 at *
      obtain ⟨S8, e8, it8⟩ := add S07 e7 it7 i7
      refine ⟨L, _, _, rfl, rfl, e7, (by rw [List.length_map]; have := big1000; omega), ?_⟩
      have lt8 : (ts ++ [t7]).length ≤ 10 + 3 * i := by rw [List.length_append]; show ts.length + 1 ≤ _; omega
      generalize ts ++ [t7] = ts8 at *
      generalize upd H7 L (.lst (ts.map V.ref ++ [.ref t7])) = H8 at *
      clear it7 it5 it3 e7 e3 S07 S06 S5 S4' S3 S4 S6 S7 i7 hg3 hk3 hg4 e4 e5 fo f7 fy fdy pg6
      have hk8 := S8 _ _ hk
      refine ⟨_, rfl, _, rfl, _, rfl, lk, _, rfl, SqL.of hk8, fun l9 f9 => ?_⟩
      rw [cut_take (by rw [List.length_map]; omega)]
      have S9 := Same.upd (o := .lst ((ks.map V.int).take i)) f9
      have e9 := upd_same (H := H8) (a := l9) (o := .lst ((ks.map V.int).take i))
      have S09 := S8.trans S9
      generalize upd H8 l9 _ = H9 at *
      refine ⟨_, rfl, _, rfl, _, _, rfl, rfl, _, rfl, lk, _, rfl, SqL.of (S09 _ _ hk), fun l10 f10 => ?_⟩
      rw [show ((i : Nat) : Int) + 1 = ((i + 1 : Nat) : Int) by omega, cut_drop (by rw [List.length_map]; omega)]
      have S10 := Same.upd (o := .lst ((ks.map V.int).drop (i + 1))) f10
      have e10 := upd_same (H := H9) (a := l10) (o := .lst ((ks.map V.int).drop (i + 1)))
      have S010 := S09.trans S10
      replace e9 := S10 _ _ e9
      generalize upd H9 l10 _ = H10 at *
      refine ⟨l9, l10, _, _, rfl, rfl, e9, e10, by simp only [List.length_take, List.length_map, List.length_drop]; have := big1000; omega, fun lf ff => ?_⟩
      rw [er_map]
      have S11 := Same.upd (o := .lst ((ks.eraseIdx i).map V.int)) ff
      have e11 := upd_same (H := H10) (a := lf) (o := .lst ((ks.eraseIdx i).map V.int))
      have S011 := S010.trans S11
      have T11 := ((S9.trans S10).trans S11)
      generalize upd H10 lf _ = H11 at *
      refine ⟨_, rfl, .inl ⟨rfl, _, SqL.of (T11 _ _ e8)⟩, _, rfl, _, rfl, _, rfl, _, rfl, lg, _, rfl, SqL.of (S011 _ _ hg), fun l12 f12 => ?_⟩
      rw [cut_take (by rw [List.length_map]; omega)]
      have S12 := Same.upd (o := .lst ((gs.map V.int).take i)) f12
      have e12 := upd_same (H := H11) (a := l12) (o := .lst ((gs.map V.int).take i))
      have S012 := S011.trans S12
      have T12 := T11.trans S12
      replace e11 := S12 _ _ e11
      generalize upd H11 l12 _ = H12 at *
      refine ⟨_, rfl, _, rfl, _, _, rfl, rfl, _, rfl, lg, _, rfl, SqL.of (S012 _ _ hg), fun l13 f13 => ?_⟩
      rw [show ((i : Nat) : Int) + 1 = ((i + 1 : Nat) : Int) by omega, cut_drop (by rw [List.length_map]; omega)]
      have S13 := Same.upd (o := .lst ((gs.map V.int).drop (i + 1))) f13
      have e13 := upd_same (H := H12) (a := l13) (o := .lst ((gs.map V.int).drop (i + 1)))
      have S013 := S012.trans S13
      have T13 := T12.trans S13
      replace e11 := S13 _ _ e11
      replace e12 := S13 _ _ e12
      generalize upd H12 l13 _ = H13 at *
      refine ⟨l12, l13, _, _, rfl, rfl, e12, e13, by simp only [List.length_take, List.length_map, List.length_drop]; have := big1000; omega, fun l14 f14 => ?_⟩
      rw [er_map]
      have S14 := Same.upd (o := .lst ((gs.eraseIdx i).map V.int)) f14
      have e14 := upd_same (H := H13) (a := l14) (o := .lst ((gs.eraseIdx i).map V.int))
      have S014 := S013.trans S14
      have T14 := T13.trans S14
      replace e11 := S14 _ _ e11
      generalize upd H13 l14 _ = H14 at *
      intro y' dy' fy' fdy' nd'
      refine make_ok (tp := false) (tp' := false) (ks := ks.eraseIdx i) (gs := gs.eraseIdx i) e11 e14 (er_up up i) (by rw [List.length_eraseIdx_of_lt hi]; omega) (fun g hgm => ok g (List.mem_of_mem_eraseIdx hgm)) (by rw [List.length_eraseIdx_of_lt hi, List.length_eraseIdx_of_lt ig]; omega) fy' fdy' fun H15 S15 pg15 => ⟨rfl, ?_⟩
      refine ⟨(by show 2 ≤ sizeLine; decide), fun t16 f16 => ?_⟩
      have S16 := Same.upd (o := .tup [.ref y', .bl false]) f16
      have i16 : SItem C CI (fun a => a = L) ks gs (upd H15 t16 (.tup [.ref y', .bl false])) t16 := ⟨_, _, upd_same, .inl ⟨y', dy', _, _, rfl, pg15.keep S16, by rw [decide_eq_false (er_ne hi)]; rfl⟩⟩
      have S016 := (S014.trans S15).trans S16
      have T16 := (T14.trans S15).trans S16
      have e16 := T16 _ _ e8
      have it16 : ∀ t ∈ ts8, SItem C CI (fun a => a = L) ks gs (upd H15 t16 (.tup [.ref y', .bl false])) t := fun t ht => (it8 t ht).keep T16
      generalize upd H15 t16 _ = H16 at *
      obtain ⟨S17, e17, it17⟩ := add S016 e16 it16 i16
      refine ⟨L, _, _, rfl, rfl, e16, (by rw [List.length_map]; have := big1000; omega), ?_⟩
      have lt17 : (ts8 ++ [t16]).length ≤ 11 + 3 * i := by rw [List.length_append]; show ts8.length + 1 ≤ _; omega
      generalize ts8 ++ [t16] = ts17 at *
      generalize upd H16 L (.lst (ts8.map V.ref ++ [.ref t16])) = H17 at *
      clear it16 it8 e16 e8 S016 S014 S013 S012 S011 S010 S09 S9 S10 S11 S12 S13 S14 S15 S16 T16 T14 T13 T12 T11 i16 f9 f10 ff f12 f13 f14 f16 e9 e10 e11 e12 e13 e14
      have hk17 := S17 _ _ hk
      refine ⟨_, rfl, _, rfl, lk, _, _, _, rfl, rfl, SqL.of hk17, at_intG hi, _, _, rfl, rfl, _, rfl, lk, _, rfl, .inl (SqL.of hk17), rfl, flat_ints, _, rfl, ite2 (fun c2 => ?_) (fun c2 => iteF ?_)⟩
      rotate_left
      · exact ⟨_, _, _, _, ts17, rfl, S17, e17, by omega, it17⟩
      have hnot : ks.getD i 0 + 1 ∉ ks := fun hm => by
        have h := inV_int.mpr hm
        have c2' : (!inV (.int (ks.getD i 0 + 1)) (ks.map V.int)) = true := c2
        rw [h] at c2'
        cases c2'
      have e9 : (10 : Int) ^ (9 : Int).toNat = 1000000000 := by decide +kernel
      refine ⟨_, rfl, _, rfl, lk, _, _, _, rfl, rfl, SqL.of hk17, at_intG hi, _, _, rfl, rfl, cp (by decide) (by decide), _, _, rfl, rfl, _, _, rfl, rfl, _, rfl, ite2 (fun c3 => ?_) (fun c3 => ?_)⟩
      rotate_left
      · exact ⟨_, _, _, _, ts17, rfl, S17, e17, by omega, it17⟩
      have hlt : ks.getD i 0 < (10 : Int) ^ (9 : Int).toNat - 1 := of_decide_eq_true c3
      rw [e9] at hlt
      refine ⟨_, rfl, lk, _, rfl, .inl (SqL.of hk17), fun lm fm => ?_⟩
      have e18 := upd_same (H := H17) (a := lm) (o := .lst (ks.map V.int))
      have S18 := Same.upd (o := .lst (ks.map V.int)) fm
      refine ⟨_, rfl, _, rfl, lk, _, _, _, rfl, rfl, SqL.of (S18 _ _ hk17), at_intG hi, _, _, rfl, rfl, _, rfl, _, rfl, lm, _, _, _, rfl, rfl, e18, ixN_nat (by rw [List.length_map]; exact hi), ?_⟩
      rw [← List.map_set]
      have S19 : Same H17 (upd (upd H17 lm (.lst (ks.map V.int))) lm (.lst ((ks.set i (ks.getD i 0 + 1)).map V.int))) := fun c o z => by rw [upd_ne (ne_of_none z fm), upd_ne (ne_of_none z fm)]; exact z
      have e19 := upd_same (H := upd H17 lm (.lst (ks.map V.int))) (a := lm) (o := .lst ((ks.set i (ks.getD i 0 + 1)).map V.int))
      generalize upd (upd H17 lm (.lst (ks.map V.int))) lm (.lst ((ks.set i (ks.getD i 0 + 1)).map V.int)) = H19 at *
      refine ⟨_, rfl, .inl ⟨rfl, _, SqL.of (S19 _ _ e17)⟩, _, rfl, _, rfl, ?_⟩
      intro y2 dy2 fy2 fdy2 nd2
      refine make_ok (tp := false) (tp' := false) (ks := ks.set i (ks.getD i 0 + 1)) (gs := gs) e19 (S19 _ _ (S17 _ _ hg)) (set_up up hi hnot (by omega)) (by rw [List.length_set]; exact few) ok (by rw [List.length_set]; exact len) fy2 fdy2 fun H20 S20 pg20 => ⟨rfl, ?_⟩
      refine ⟨(by show 2 ≤ sizeLine; decide), fun t21 f21 => ?_⟩
      have S21 := Same.upd (o := .tup [.ref y2, .bl false]) f21
      have i21 : SItem C CI (fun a => a = L) ks gs (upd H20 t21 (.tup [.ref y2, .bl false])) t21 := ⟨_, _, upd_same, .inl ⟨y2, dy2, _, _, rfl, pg20.keep S21, by rw [decide_eq_false (set_ne hi)]; rfl⟩⟩
      have T21 := (S19.trans S20).trans S21
      have e21 := T21 _ _ e17
      have it21 : ∀ t ∈ ts17, SItem C CI (fun a => a = L) ks gs (upd H20 t21 (.tup [.ref y2, .bl false])) t := fun t ht => (it17 t ht).keep T21
      have S021 := S17.trans T21
      generalize upd H20 t21 _ = H21 at *
      obtain ⟨S22, e22, it22⟩ := add S021 e21 it21 i21
      exact ⟨L, _, _, rfl, rfl, e21, (by rw [List.length_map]; have := big1000; omega), _, _, _, _, ts17 ++ [t21], rfl, S22, e22, by rw [List.length_append]; show ts17.length + 1 ≤ _; omega, it22⟩
    case r2 =>
    rintro _ H3 ⟨o4, o5, o6, o7, ts, rfl, S3, e3, lt3, it3⟩
    refine ⟨_, rfl, _, rfl, _, rfl, lk, lg, ks, gs, rfl, S3 _ _ hk, S3 _ _ hg, up, few, len, ok, fun lE H4 ts4 fE S4 e4 lt4 it4 => ?_⟩
    have S04 := S3.trans S4
    refine ⟨L, lE, _, _, rfl, rfl, S4 _ _ e3, e4, by rw [List.length_map, List.length_map]; have := big1000; omega, fun l5 f5 => ?_⟩
    rw [← List.map_append]
    have S5 := Same.upd (o := .lst ((ts ++ ts4).map V.ref)) f5
    have e5 := upd_same (H := H4) (a := l5) (o := .lst ((ts ++ ts4).map V.ref))
    have S05 := S04.trans S5
    have it5 : ∀ t ∈ ts ++ ts4, SItem C CI (fun a => a = L) ks gs (upd H4 l5 (.lst ((ts ++ ts4).map V.ref))) t := fun t ht => by
      rcases List.mem_append.mp ht with h | h
      · exact (it3 t h).keep (S4.trans S5)
      · exact ((it4 t h).s).keep S5
    generalize upd H4 l5 _ = H5 at *
    refine ⟨l5, rfl, ⟨_, SqL.of e5⟩, for_list (fun i σ H6 => ∃ o4 o5 o6 o7 o8 o9 o10 o11, σ = [some (.ref x), some (.ref lk), some (.ref lg), some (.ref L), o4, o5, o6, o7, o8, o9, o10, o11] ∧ Same H5 H6) ⟨_, _, _, _, _, _, _, _, rfl, fun _ _ z => z⟩ (fun i σ H6 _ ⟨_, _, _, _, _, _, _, _, _, S⟩ => SqL.of (S _ _ e5)) ?_ ?_⟩
    · rintro i v σ H6 hi ⟨o4, o5, o6, o7, o8, o9, o10, o11, rfl, S6⟩
      rw [List.getElem?_map] at hi
      obtain ⟨t, ht, rfl⟩ := Option.map_eq_some_iff.mp hi
      obtain ⟨v, b, et, ⟨txt, tl⟩, u, kb, an, ko, w1, w2⟩ := ((it5 t (List.mem_of_getElem? ht)).keep S6).use kn cl ci
      have pg6 := pg.keep (S05.trans S6)
      obtain ⟨tk, tg, hx, _, _⟩ := pg6.pg
      refine ⟨t, _, rfl, SqT.of et, rfl, _, _, rfl, _, _, rfl, rfl, ?_⟩
      refine ⟨_, rfl, v, txt, rfl, tl, fun H7 S7 => ?_⟩
      have hx7 := S7 _ _ hx
      have fin : ∀ {D : V → Hp → Prop}, (D (.bl b) H7) → spSame K C [.ref x, v] H7 D E0 := fun {D} h => by
        refine ⟨x, dx, v, u, ks, gs, kb, rfl, pg6.keep S7, any_keep an S7, ko, fun z => ?_, fun z => ?_⟩
        · obtain ⟨y, dy, e, ks', gs', p, hb⟩ := w1 z
          exact ⟨y, dy, e, ks', gs', p.keepS S7, by rw [← hb]; exact h⟩
        · rw [w2 z] at h; exact h
      refine ⟨_, rfl, x, dx, _, rfl, hx7, rfl, _, rfl, ?_⟩
      dsimp only [tNil, List.append_nil]
      refine fin ?_
      refine ⟨_, rfl, .bl b, _, _, _, rfl, (DV.bl (N := fun _ => False) (H := H7) b).thg, .inl ⟨_, rfl, inst_bool (DV.bl (N := fun _ => False) (H := H7) b).thg⟩, _, rfl, iteF ?_⟩
      refine ⟨_, rfl, _, rfl, rfl, _, rfl, iteE (c := false) (by rw [decide_eq_true rfl]; rfl) (iteF ?_)⟩
      refine ⟨_, rfl, v, txt, rfl, tl.keep S7, fun H8 S8 => ⟨_, rfl, rfl, _, rfl, iteE (c := false) (by rw [decide_eq_true rfl]; rfl) (iteF ⟨_, _, _, _, _, _, _, _, rfl, (S6.trans S7).trans S8⟩)⟩⟩
    · rintro σ H6 ⟨o4, o5, o6, o7, o8, o9, o10, o11, rfl, S6⟩
      exact k H6 (S05.trans S6)
end
end K11

set_option Elab.async false
set_option linter.all false
set_option maxRecDepth 100000
set_option maxHeartbeats 1000000
namespace K11
open PySem L2
theorem sq_same {K : PySem.W.Frag} {H H' : Hp} {a : Addr} {xs : List V} (h : SqL K H a xs) (s : Same H H') : SqL K H' a xs := by
  rcases h with (h | ⟨o, h⟩) | h
  · exact .inl (.inl (s _ _ h))
  · exact .inl (.inr ⟨o, s _ _ h⟩)
  · exact .inr h
theorem kb_same {H H1 H2 : Hp} {p : Addr} (f : H p = none) (s : Same H H1) (k : KB p H1 H2) : Same H H2 := fun b o h => k b o (s b o h) (ne_of_none h f)
def House (C p : Addr) (H : Hp) (t : Addr) : Prop := ∃ (x dx lk lg : Addr) (ks gs : List Int), H t = some (.tup [.ref x, .ref lk, .ref lg]) ∧ PgI C dx H x ks gs ∧ H lk = some (.lst (ks.map V.int)) ∧ H lg = some (.lst (gs.map V.int)) ∧ lk ≠ p ∧ lg ≠ p
theorem House.kb {C p : Addr} {n : Nat} {H H' : Hp} {t : Addr} (x : House C p H t) (B : Box H p n) (k : KB p H H') : House C p H' t := by
  have nl : ∀ b o, H b = some o → (∀ xs, o ≠ .lst xs) → H' b = some o := fun b o h nl => k b o h fun e => by
    subst e
    obtain ⟨_, q⟩ := B.lst
    rw [h] at q
    cases q
    exact nl _ rfl
  obtain ⟨x, dx, lk, lg, ks, gs, h1, ⟨⟨tk, tg, a, b, c⟩, p2, p3, p4, p5⟩, h3, h4, h5, h6⟩ := x
  exact ⟨x, dx, lk, lg, ks, gs, nl _ _ h1 (fun _ z => nomatch z), ⟨⟨tk, tg, nl _ _ a (fun _ z => nomatch z), nl _ _ b (fun _ z => nomatch z), nl _ _ c (fun _ z => nomatch z)⟩, p2, p3, p4, p5⟩, k _ _ h3 h5, k _ _ h4 h6, h5, h6⟩
def spLaw (K : PySem.W.Frag) : Sp := fun vs H Q _ => ∃ (a : Addr) (ns : List Int), vs = [.ref a] ∧ SqL K H a (ns.map V.int) ∧ ns.length ≤ 63 ∧ ∀ H', Q (.bl true) H'
section
variable {P : Program} {w : World} {K : PySem.W.Frag} {mg : Str → Option Value} {base : Heap}
abbrev s_law : Stmt := top 49
theorem sc_law : FnScope ["_law_script", "_law_k", "_law_box_here", "_law_houses", "_law_page", "_law_keys_here", "_law_goods"] ["_law_script"] (defScope s_law) := ⟨rfl, rfl, rfl, by decide +kernel, rfl, by decide +kernel, by decide +kernel⟩
theorem ok_law {C : Addr} (hd : ∃ f fd, Dn K mg "law" "law" s_law ["_law_script"] f fd) (T : Txt K mg) (h1 : OkD P w K mg base "_law_cell" s__law_cell ["_law_script", "_law_k"] 1 (spCell K)) (h2 : OkD P w K mg base "_law_box" s__law_box ["_law_cell_here"] 1 spBox)
    (h3 : OkD P w K mg base "_law_leaf" s__law_leaf ["_law_box_here"] 10 (spLeaf C)) (h4 : OkD P w K mg base "_law_parts_right" s__law_parts_right ["_law_box_here", "_law_page", "_law_keys_here", "_law_goods"] 8 (spPR C)) (h5 : OkD P w K mg base "_law_lists_right" s__law_lists_right ["_law_page", "_law_keys_here", "_law_goods"] 2 (spLR C))
    (h6 : OkD P w K mg base "_law_refusals_right" s__law_refusals_right ["_law_box_here", "_law_page"] 10 (spRR C)) (h7 : OkD P w K mg base "_law_same_right" s__law_same_right ["_law_page", "_law_keys_here", "_law_goods"] 11 (spSR C)) (h8 : OkD P w K mg base "_law_goods_right" s__law_goods_right ["_law_page", "_law_keys_here", "_law_goods"] 8 (spLR C)) :
    OkD P w K mg base "law" s_law ["_law_script"] 13 (spLaw K) := by
  obtain ⟨f, fd, D⟩ := hd
  obtain ⟨f1, fd1, D_law_cell, G_law_cell⟩ := h1
  obtain ⟨f2, fd2, D_law_box, G_law_box⟩ := h2
  obtain ⟨f3, fd3, D_law_leaf, G_law_leaf⟩ := h3
  obtain ⟨f4, fd4, D_law_parts_right, G_law_parts_right⟩ := h4
  obtain ⟨f5, fd5, D_law_lists_right, G_law_lists_right⟩ := h5
  obtain ⟨f6, fd6, D_law_refusals_right, G_law_refusals_right⟩ := h6
  obtain ⟨f7, fd7, D_law_same_right, G_law_same_right⟩ := h7
  obtain ⟨f8, fd8, D_law_goods_right, G_law_goods_right⟩ := h8
  refine ⟨f, fd, D, D.fn.ok sc_law (fun vs H Q E h => ?_) (fun cdv A outer s H vs Q E hr h => ?_)⟩
  · obtain ⟨_, _, rfl, _⟩ := h
    rfl
  · obtain ⟨a, ns, rfl, hS, hz, k⟩ := h
    have sc := sc_law
    refine' ⟨_, (pss_cons (ps_for PassesOwn.never rfl (pi_range1 rfl T.n_range (pa_c (pe_callB (call_max2 rfl) rfl T.n_max bt_max (pa_c pe_int (pa_c (pe_callB (call_min2 rfl) rfl T.n_min bt_min (pa_c pe_int (pa_c (pe_callB call_len_seq rfl T.n_len bt_len (pa_c (pv 0) pa_nil)) pa_nil))) pa_nil))) pa_nil)) (pg_name (i := 1) sc.nd rfl (Or.inl rfl))
      (pss_cons (ps_set (i := 2) sc.nd rfl (Or.inl rfl) (pe_call G_law_box (hr.mono (by decide)) rfl D_law_box.m D_law_box.fn.kp D_law_box.b .nil pass0 (pa_c (pe_call G_law_cell (hr.mono (by decide)) rfl D_law_cell.m D_law_cell.fn.kp D_law_cell.b .nil pass0 (pa_c (pv 0) (pa_c (pv 1) pa_nil))) pa_nil)))
    (pss_cons (ps_set (i := 3) sc.nd rfl (Or.inl rfl) (pe_lst (pa_c (pe_call G_law_leaf (hr.mono (by decide)) rfl D_law_leaf.m D_law_leaf.fn.kp D_law_leaf.b .nil pass0 (pa_c (pv 2) pa_nil)) (pa_c (pe_call G_law_leaf (hr.mono (by decide)) rfl D_law_leaf.m D_law_leaf.fn.kp D_law_leaf.b .nil pass0 (pa_c (pv 2) pa_nil)) pa_nil))))
    (pss_one (ps_for PassesOwn.never rfl (pi_list (pe_op op_cat (pv 3) (pe_slice sl_list (pv 3) po_none (po_some pe_int)))) (pg_tup rfl (pgs_cons (pg_name (i := 4) sc.nd rfl (Or.inl rfl)) (pgs_cons (pg_name (i := 5) sc.nd rfl (Or.inl rfl)) (pgs_cons (pg_name (i := 6) sc.nd rfl (Or.inl rfl)) pgs_nil))))
      (pss_cons (ps_if (PW.pt (pw_or (pt_not (pt_val (pe_call G_law_parts_right (hr.mono (by decide)) rfl D_law_parts_right.m D_law_parts_right.fn.kp D_law_parts_right.b .nil pass0 (pa_c (pv 2) (pa_c (pv 4) (pa_c (pv 5) (pa_c (pv 6) pa_nil))))))) (pw_or1 (pt_not (pt_val (pe_call G_law_lists_right (hr.mono (by decide)) rfl D_law_lists_right.m D_law_lists_right.fn.kp D_law_lists_right.b .nil pass0 (pa_c (pv 4) (pa_c (pv 5) (pa_c (pv 6) pa_nil)))))))))
      (pss_one (ps_ret pe_bl))
      pss_nil)
    (pss_cons (ps_if (PW.pt (pw_or (pt_not (pt_val (pe_call G_law_refusals_right (hr.mono (by decide)) rfl D_law_refusals_right.m D_law_refusals_right.fn.kp D_law_refusals_right.b .nil pass0 (pa_c (pv 2) (pa_c (pv 4) pa_nil))))) (pw_or1 (pt_not (pt_val (pe_call G_law_same_right (hr.mono (by decide)) rfl D_law_same_right.m D_law_same_right.fn.kp D_law_same_right.b .nil pass0 (pa_c (pv 4) (pa_c (pv 5) (pa_c (pv 6) pa_nil)))))))))
      (pss_one (ps_ret pe_bl))
      pss_nil)
    (pss_one (ps_if (pt_not (pt_val (pe_call G_law_goods_right (hr.mono (by decide)) rfl D_law_goods_right.m D_law_goods_right.fn.kp D_law_goods_right.b .nil pass0 (pa_c (pv 4) (pa_c (pv 5) (pa_c (pv 6) pa_nil))))))
      (pss_one (ps_ret pe_bl))
      pss_nil)))))))))
    (pss_one (ps_ret pe_bl))), ?_⟩
    refine ⟨_, rfl, a, _, rfl, .inl hS, _, _, rfl, _, _, rfl, _, rfl, by rw [List.length_map]; split <;> split <;> omega, by rw [List.length_map]; split <;> split <;> omega,
      for_range (fun i σ H6 => (∃ o1 o2 o3 o4 o5 o6 : Option V, σ = [some (.ref a), o1, o2, o3, o4, o5, o6]) ∧ Same H H6) ⟨⟨_, _, _, _, _, _, rfl⟩, Same.refl _⟩ ?_ ?_⟩
    · rintro i σ H6 hi ⟨⟨o1, o2, o3, o4, o5, o6, rfl⟩, S6⟩
      refine ⟨_, rfl, _, rfl, a, i, ns, (by show [V.ref a, V.int (0 + (i : Int))] = _; rw [show (0 : Int) + (i : Int) = ((i : Nat) : Int) by omega]), sq_same hS S6, fun c' => ⟨c', rfl, fun p H7 fp Bp S7 => ?_⟩⟩
      have fpH := S6.free fp
      refine ⟨_, rfl, p, 0, rfl, Bp, by decide, fun t1 l1 l2 x dx ks gs H8 et1 pg1 e1 e2 n1 n2 B8 k8 => ?_⟩
      have ho1 : House C p H8 t1 := ⟨x, dx, l1, l2, ks, gs, et1, pg1, e1, e2, n1, n2⟩
      refine ⟨_, rfl, p, _, rfl, B8, by decide, fun t2 l3 l4 x' dx' ks' gs' H9 et2 pg2 e3 e4 n3 n4 B9 k9 => ?_⟩
      have ho2 : House C p H9 t2 := ⟨x', dx', l3, l4, ks', gs', et2, pg2, e3, e4, n3, n4⟩
      replace ho1 := ho1.kb B8 k9
      have S9 : Same H H9 := kb_same fpH (S6.trans S7) (k8.trans k9)
      refine ⟨(by show 2 ≤ sizeLine; decide), fun lh fh => ?_⟩
      have S10 := Same.upd (o := .lst [.ref t1, .ref t2]) fh
      have eh := upd_same (H := H9) (a := lh) (o := .lst [.ref t1, .ref t2])
      replace ho1 := ho1.kb B9 S10.kb
      replace ho2 := ho2.kb B9 S10.kb
      have B10 := B9.same S10
      replace S9 := S9.trans S10
      generalize upd H9 lh _ = H10 at *
      refine ⟨_, rfl, _, rfl, _, rfl, lh, _, rfl, SqL.of eh, fun l11 f11 => ?_⟩
      rw [show cutV [V.ref t1, V.ref t2] none (some 1) = [V.ref t1] from cut_take (i := 1) (by show 1 ≤ 2; decide)]
      have S11 := Same.upd (o := .lst [.ref t1]) f11
      have e11 := upd_same (H := H10) (a := l11) (o := .lst [.ref t1])
      have eh11 := S11 _ _ eh
      replace ho1 := ho1.kb B10 S11.kb
      replace ho2 := ho2.kb B10 S11.kb
      have B11 := B10.same S11
      replace S9 := S9.trans S11
      refine ⟨lh, l11, _, _, rfl, rfl, eh11, e11, (by show 2 + 1 ≤ sizeLine; decide), fun l12 f12 => ?_⟩
      generalize upd H10 l11 _ = H11 at *
      have S12 := Same.upd (o := .lst ([.ref t1, .ref t2] ++ [.ref t1])) f12
      have e12 := upd_same (H := H11) (a := l12) (o := .lst ([.ref t1, .ref t2] ++ [.ref t1]))
      replace ho1 := ho1.kb B11 S12.kb
      replace ho2 := ho2.kb B11 S12.kb
      have B12 := B11.same S12
      replace S9 := S9.trans S12
      have n12 : l12 ≠ p := B11.ne (H1 := H11) f12
      generalize upd H11 l12 _ = H12 at *
      replace e12 : H12 l12 = some (.lst [.ref t1, .ref t2, .ref t1]) := e12
      refine ⟨l12, rfl, ⟨_, SqL.of e12⟩, for_list (fun j σ H13 => (∃ o1 o3 o4 o5 o6 : Option V, σ = [some (.ref a), o1, some (.ref p), o3, o4, o5, o6]) ∧ Box H13 p (80 + 15 * j) ∧ KB p H12 H13) ?_ (fun i σ H13 _ ⟨_, _, kk⟩ => SqL.of (kk _ _ e12 n12)) ?_ ?_⟩
      · exact ⟨⟨_, _, _, _, _, rfl⟩, B12, Same.kb (Same.refl _)⟩
      · rintro j v σ H13 hj ⟨⟨o1, o3, o4, o5, o6, rfl⟩, B13, k13⟩
        have j3 : j < 3 := (List.getElem?_eq_some_iff.mp hj).1
        have hv : ∃ t, v = .ref t ∧ House C p H13 t := by
          have := List.mem_of_getElem? hj
          simp only [List.mem_cons, List.not_mem_nil, or_false] at this
          rcases this with rfl | rfl | rfl
          · exact ⟨t1, rfl, ho1.kb B12 k13⟩
          · exact ⟨t2, rfl, ho2.kb B12 k13⟩
          · exact ⟨t1, rfl, ho1.kb B12 k13⟩
        obtain ⟨t, rfl, x, dx, lk, lg, ks, gs, et, pg, ek, eg, nk, ng⟩ := hv
        refine ⟨t, _, rfl, SqT.of et, rfl, _, _, rfl, _, _, rfl, _, _, rfl, rfl, ?_⟩
        refine ⟨_, rfl, _, rfl, _, rfl, _, rfl, p, x, dx, lk, lg, _, ks, gs, rfl, B13, by omega, pg, ek, eg, nk, ng, fun H14 B14 k14 => ⟨_, rfl, iteF ?_⟩⟩
        have tr : ∀ {H14 : Hp}, KB p H13 H14 → PgI C dx H14 x ks gs ∧ H14 lk = some (.lst (ks.map V.int)) ∧ H14 lg = some (.lst (gs.map V.int)) := fun {H14} k14 => by
          obtain ⟨tk, tg, a1, b1, c1⟩ := pg.pg
          have nl : ∀ b o, H13 b = some o → (∀ xs, o ≠ .lst xs) → H14 b = some o := fun b o h nl => k14 b o h fun e => by
            subst e
            obtain ⟨_, q⟩ := B13.lst
            rw [h] at q
            cases q
            exact nl _ rfl
          exact ⟨⟨⟨tk, tg, nl _ _ a1 (fun _ z => nomatch z), nl _ _ b1 (fun _ z => nomatch z), nl _ _ c1 (fun _ z => nomatch z)⟩, pg.len, pg.few, pg.up, pg.ok⟩, k14 _ _ ek nk, k14 _ _ eg ng⟩
        obtain ⟨p14, ek14, eg14⟩ := tr k14
        refine ⟨_, rfl, _, rfl, _, rfl, x, dx, lk, lg, ks, gs, rfl, p14, ek14, eg14, fun H15 S15 => ⟨_, rfl, iteF ?_⟩⟩
        have B15 := B14.same S15
        have k15 := k14.trans (Same.kb S15)
        obtain ⟨p15, ek15, eg15⟩ := tr k15
        refine ⟨_, rfl, _, rfl, p, x, dx, _, ks, gs, rfl, B15, by omega, p15, fun H16 B16 k16' => ⟨_, rfl, iteF ?_⟩⟩
        have k16 := k15.trans k16'
        obtain ⟨p16, ek16, eg16⟩ := tr k16
        refine ⟨_, rfl, _, rfl, _, rfl, x, dx, lk, lg, ks, gs, rfl, p16, ek16, eg16, fun H17 S17 => ⟨_, rfl, iteF ?_⟩⟩
        have B17 := B16.same S17
        have k17 := k16.trans (Same.kb S17)
        obtain ⟨p17, ek17, eg17⟩ := tr k17
        refine ⟨_, rfl, _, rfl, _, rfl, x, dx, lk, lg, ks, gs, rfl, p17, ek17, eg17, fun H18 S18 => ⟨_, rfl, iteF ?_⟩⟩
        exact ⟨⟨_, _, _, _, _, rfl⟩, (B17.same S18).mono (by omega), k13.trans (k17.trans (Same.kb S18))⟩
      · rintro σ H13 ⟨⟨o1, o3, o4, o5, o6, rfl⟩, B13, k13⟩
        exact ⟨⟨_, _, _, _, _, _, rfl⟩, kb_same fpH S9 k13⟩
    · rintro σ H6 ⟨⟨o1, o2, o3, o4, o5, o6, rfl⟩, S6⟩
      exact k _
end
end K11

set_option Elab.async false
set_option linter.all false
set_option maxRecDepth 100000
set_option maxHeartbeats 1000000
namespace K11
open PySem L2
structure CF (K : PySem.W.Frag) (mg : Str → Option Value) (T C : Addr) (x q : Str) (st : Stmt) (ps : List Str) : Prop where
  lk : ∃ (qn : Str) (N : Addr) (bs : List Value) (sn : List Str) (sub : List Value) (ab : Bool) (col : Option Bool) (dd : Option Addr) (k0 k1 k2 k3 k5 : Option Value), K.lookup C = some (excClassObj x qn C N bs (.ref T :: bmV) true sn sub ab col dd k0 k1 k2 k3 k5 "ValueError.__new__")
  ini : ∃ fI fd, PySem.W.findIn K (.ref C) "__init__" = some (some (.ref fI)) ∧ PySem.W.isFn K (.ref fI) = true ∧ Fun K "__init__" q st fI fd ∧ Binds K fd ("self" :: ps) []
  kp : PySem.W.keepIn K (.ref C) = true
  sa : PySem.W.findIn K (.ref C) "__setattr__" = some (some (.builtin "object.__setattr__"))
  ga : PySem.W.findIn K (.ref C) "__getattribute__" = some (some (.builtin "BaseException.__getattribute__"))
  no : PySem.W.findIn K (.ref C) "__getattr__" = some none
  ca : PySem.W.findIn K (.ref C) "__class__" = some (some (.builtin "object.__class__"))
  mC : mg x = some (.ref C)
  na : ∀ f ∈ ps, NoAttr K C f
structure TF (K : PySem.W.Frag) (mg : Str → Option Value) (T : Addr) : Prop where
  lk : ∃ (qn : Str) (N : Addr) (bs : List Value) (sn : List Str) (sub : List Value) (ab : Bool) (col : Option Bool) (dd : Option Addr) (k0 k1 k2 k3 k5 : Option Value), K.lookup T = some (excClassObj "TreeError" qn T N bs bmV true sn sub ab col dd k0 k1 k2 k3 k5 "ValueError.__new__") ∧
    ∃ (d0 : Value) (d1 : Option Addr) (es : Array DictEntry) (n : Nat) (sl' : Array (Option Value)), K.lookup N = some ⟨d0, d1, .dict es n, sl'⟩ ∧ strK es = true ∧ nsFind es "__init__" = none
  b : BaseInit K T
  init : PySem.W.findIn K (.ref T) "__init__" = some (some (.builtin "ValueError.__init__"))
  kp : PySem.W.keepIn K (.ref T) = true
  ga : PySem.W.findIn K (.ref T) "__getattribute__" = some (some (.builtin "BaseException.__getattribute__"))
  no : PySem.W.findIn K (.ref T) "__getattr__" = some none
  ca : PySem.W.findIn K (.ref T) "__class__" = some (some (.builtin "object.__class__"))
  cn : PySem.W.specialIn K (.builtin "object.__class__") "__get__" = some (some (.builtin "getset_descriptor.__get__"))
  ct : PySem.W.takesIn K (.builtin "object.__class__") = some true
  mT : mg "TreeError" = some (.ref T)
section
variable {K : PySem.W.Frag} {mg : Str → Option Value} {T C : Addr} {x q : Str} {st : Stmt} {ps : List Str}
theorem cls_in {nm qn : Str} {N : Addr} {bs bm : List Value} {sn : List Str} {sub : List Value} {ab : Bool} {col : Option Bool} {dd : Option Addr} {k0 k1 k2 k3 k5 : Option Value} {id : String} (h : K.lookup C = some (excClassObj nm qn C N bs bm true sn sub ab col dd k0 k1 k2 k3 k5 id)) :
    ∃ cd, PySem.W.clsIn K C = some cd ∧ cd.name = nm ∧ cd.hasDict = true ∧ cd.mro = .ref C :: bm ∧ PySem.W.typeIn K (.ref C) = some (.type "type") := by
  refine ⟨_, by unfold PySem.W.clsIn; rw [h], rfl, rfl, rfl, ?_⟩
  show (K.lookup C).map (·.cls) = _
  rw [h]
  rfl
theorem CF.cd (c : CF K mg T C x q st ps) : ∃ cd, PySem.W.clsIn K C = some cd ∧ cd.name = x ∧ cd.hasDict = true ∧ cd.mro = .ref C :: .ref T :: bmV ∧ PySem.W.typeIn K (.ref C) = some (.type "type") := by
  obtain ⟨_, _, _, _, _, _, _, _, _, _, _, _, _, h⟩ := c.lk
  exact cls_in h
theorem TF.cd (t : TF K mg T) : ∃ cd, PySem.W.clsIn K T = some cd ∧ cd.name = "TreeError" ∧ cd.hasDict = true ∧ cd.mro = .ref T :: bmV ∧ PySem.W.typeIn K (.ref T) = some (.type "type") := by
  obtain ⟨_, _, _, _, _, _, _, _, _, _, _, _, _, h, _⟩ := t.lk
  exact cls_in h
theorem mro_cd {cd : ClassData} {l : List Value} {b : Value} (h : PySem.W.clsIn K C = some cd) (m : cd.mro = .ref C :: l) : PySem.W.mroIn K C b = some ((Value.ref C :: l).contains b) := by
  unfold PySem.W.mroIn
  rw [h, Option.bind_some, m]
  rfl
theorem hd_cd {cd : ClassData} (h : PySem.W.clsIn K C = some cd) (d : cd.hasDict = true) : PySem.W.hasDictIn K C = true := by
  unfold PySem.W.hasDictIn
  rw [h]
  exact d
theorem TF.g (t : TF K mg T) : ExG K T := by
  obtain ⟨cd, h, _, d, m, _⟩ := t.cd
  exact ⟨t.ga, t.no, (mro_cd h m).trans rfl, hd_cd h d, t.ca, t.cn, t.ct, (mro_cd h m).trans rfl, (mro_cd h m).trans rfl, (mro_cd h m).trans rfl, (mro_cd h m).trans rfl, (mro_cd h m).trans rfl⟩
theorem CF.g (c : CF K mg T C x q st ps) (t : TF K mg T) : ExG K C := by
  obtain ⟨cd, h, _, d, m, _⟩ := c.cd
  exact ⟨c.ga, c.no, (mro_cd h m).trans rfl, hd_cd h d, c.ca, t.cn, t.ct, (mro_cd h m).trans rfl, (mro_cd h m).trans rfl, (mro_cd h m).trans rfl, (mro_cd h m).trans rfl, (mro_cd h m).trans rfl⟩
theorem CF.er {C : Addr} {nm q fld : Str} {st : Stmt} (c : CF K mg T C nm q st [fld]) (t : TF K mg T) : ∃ fI fd, ErN K mg nm q st fld C T fI fd := by
  obtain ⟨cd, h, _, d, m, ty⟩ := c.cd
  obtain ⟨fI, fd, i1, i2, i3, i4⟩ := c.ini
  obtain ⟨qn, N, bs, sn, sub, ab, col, dd, k0, k1, k2, k3, k5, l⟩ := c.lk
  obtain ⟨_, TN, _, _, _, _, _, _, _, _, _, _, _, tl, d0, d1, es, n, sl', l2, s1, s2⟩ := t.lk
  exact ⟨fI, fd, { f := ⟨⟨⟨_, _, _, _, _, _, _, _, _, _, _, _, _, _, _, l⟩, ⟨_, _, _, _, tl, d0, d1, es, n, sl', l2, s1, s2⟩, i1, i2, c.kp⟩, hd_cd h d, c.sa⟩, g := c.g t, b := t.b, r := ⟨(mro_cd h m).trans rfl, ty⟩, fn := i3, bi := i4, mC := c.mC, mT := t.mT, no := c.na _ (List.mem_singleton.mpr rfl), xC := ⟨(mro_cd h m).trans rfl, ty, by rw [h]; rfl⟩, self := (mro_cd h m).trans (by rw [List.contains_cons]; simp) }⟩
theorem TF.xm (t : TF K mg T) : ExM K T := by
  obtain ⟨cdT, hT, _, dT, mT, tyT⟩ := t.cd
  exact ⟨(mro_cd hT mT).trans rfl, tyT, by rw [hT]; rfl⟩
theorem CF.apart {C D : Addr} {x y q q' : Str} {st st' : Stmt} {ps ps' : List Str} (c : CF K mg T C x q st ps) (d : CF K mg T D y q' st' ps') (t : TF K mg T) (n1 : x ≠ y) (n2 : y ≠ "TreeError") : PySem.W.mroIn K C (.ref D) = some false := by
  obtain ⟨cd, h, nm, _, m, _⟩ := c.cd
  obtain ⟨cd', h', nm', _, m', _⟩ := d.cd
  obtain ⟨cdT, hT, nmT, _, _, _⟩ := t.cd
  have e1 : D ≠ C := by
    rintro rfl
    rw [h] at h'
    cases h'
    exact n1 (nm.symm.trans nm')
  have e2 : D ≠ T := by
    rintro rfl
    rw [h'] at hT
    cases hT
    exact n2 (nm'.symm.trans nmT)
  rw [mro_cd h m]
  congr 1
  rw [List.contains_cons, List.contains_cons, show (Value.ref D == Value.ref C) = false from beq_eq_false_iff_ne.mpr (fun z => e1 (Value.ref.inj z)), show (Value.ref D == Value.ref T) = false from beq_eq_false_iff_ne.mpr (fun z => e2 (Value.ref.inj z))]
  rfl
theorem cls_mk {h : Heap} (X : K.In h) (G : h.Ns mainGlobals mg) {fI N : Addr} {qn : Str} {bs : List Value} {sn : List Str} {sub : List Value} {ab : Bool} {col : Option Bool} {dd : Option Addr} {k0 k1 k2 k3 k5 : Option Value} {od an : Option Addr} {osl : Array (Option Value)} {kV doc pm cdv ct : Value}
    (aC : PySem.W.nsIn K mainGlobals x = some (some (.ref C))) (aT : PySem.W.nsIn K mainGlobals "TreeError" = some (some (.ref T))) (lC : K.lookup C = some (excClassObj x qn C N bs (.ref T :: bmV) true sn sub ab col dd k0 k1 k2 k3 k5 "ValueError.__new__"))
    (i1 : PySem.W.findIn K (.ref C) "__init__" = some (some (.ref fI))) (i3 : PySem.W.keepIn K (.ref C) = true) (i5 : PySem.W.findIn K (.ref C) "__setattr__" = some (some (.builtin "object.__setattr__")))
    (g1 : PySem.W.findIn K (.ref C) "__getattribute__" = some (some (.builtin "BaseException.__getattribute__"))) (g2 : PySem.W.findIn K (.ref C) "__getattr__" = some none) (g4 : PySem.W.findIn K (.ref C) "__class__" = some (some (.builtin "object.__class__")))
    (l1 : K.lookup fI = some ⟨.type "function", od, .func (PySem.W.fnOf "__init__" q (defArgs st) (defBody st) (defScope st) .none kV doc pm an cdv ct), osl⟩) (c1 : PySem.W.codeIn K cdv q = true) (na : ∀ f ∈ ps, NoAttr K C f)
    (hb : ∀ (kV doc pm : Value) (an : Option Addr) (cdv ct : Value) (us : List Value), us.length = (("self" : Str) :: ps).length → bindArgs (PySem.W.fnOf "__init__" q (defArgs st) (defBody st) (defScope st) .none kV doc pm an cdv ct) ⟨us, []⟩ = pure ((("self" : Str) :: ps).zip us)) :
    ∃ C T, mg "TreeError" = some (.ref T) ∧ CF K mg T C x q st ps := by
  have kf : PySem.W.keepIn K (.ref fI) = true := by unfold PySem.W.keepIn; dsimp only; rw [l1]
  have ff : PySem.W.isFn K (.ref fI) = true := by
    unfold PySem.W.isFn
    rw [show PySem.W.typeIn K (.ref fI) = (K.lookup fI).map (·.cls) from rfl, l1]
    rfl
  exact ⟨C, T, PySem.W.mg_of X G aT, ⟨⟨qn, N, bs, sn, sub, ab, col, dd, k0, k1, k2, k3, k5, lC⟩, ⟨fI, _, i1, ff, fun_mk (st := st) l1 c1 kf, (fun_mk (st := st) l1 c1 kf).binds hb⟩, i3, i5, g1, g2, g4, PySem.W.mg_of X G aC, na⟩⟩
theorem na1 {f : Str} (h : PySem.W.findIn K (.ref C) f = some none) : ∀ g ∈ [f], NoAttr K C g := fun g hg => by rw [List.mem_singleton.mp hg]; exact h
theorem tf_mk {h : Heap} (X : K.In h) (G : h.Ns mainGlobals mg) {N : Addr} {qn : Str} {bs : List Value} {sn : List Str} {sub : List Value} {ab : Bool} {col : Option Bool} {dd : Option Addr} {k0 k1 k2 k3 k5 : Option Value} {d0 : Value} {d1 : Option Addr} {es : Array DictEntry} {n : Nat} {sl' : Array (Option Value)}
    (aT : PySem.W.nsIn K mainGlobals "TreeError" = some (some (.ref T))) (lT : K.lookup T = some (excClassObj "TreeError" qn T N bs bmV true sn sub ab col dd k0 k1 k2 k3 k5 "ValueError.__new__")) (lN : K.lookup N = some ⟨d0, d1, .dict es n, sl'⟩) (s1 : strK es = true) (s2 : nsFind es "__init__" = none)
    (b1 : PySem.W.specialIn K (.ref T) "__getattribute__" = some (some (.builtin "type.__getattribute__"))) (b2 : PySem.W.readsIn K T (.type "type") = true) (b3 : PySem.W.findCls K (.ref T) (.type "type") "__init__" = some (.val (.builtin "ValueError.__init__")))
    (i1 : PySem.W.findIn K (.ref T) "__init__" = some (some (.builtin "ValueError.__init__"))) (i3 : PySem.W.keepIn K (.ref T) = true)
    (g1 : PySem.W.findIn K (.ref T) "__getattribute__" = some (some (.builtin "BaseException.__getattribute__"))) (g2 : PySem.W.findIn K (.ref T) "__getattr__" = some none) (g4 : PySem.W.findIn K (.ref T) "__class__" = some (some (.builtin "object.__class__")))
    (g5 : PySem.W.specialIn K (.builtin "object.__class__") "__get__" = some (some (.builtin "getset_descriptor.__get__"))) (g6 : PySem.W.takesIn K (.builtin "object.__class__") = some true) : ∃ T, TF K mg T :=
  ⟨T, ⟨⟨qn, N, bs, sn, sub, ab, col, dd, k0, k1, k2, k3, k5, lT, d0, d1, es, n, sl', lN, s1, s2⟩, ⟨b1, b2, b3⟩, i1, i3, g1, g2, g4, g5, g6, PySem.W.mg_of X G aT⟩⟩
theorem fn_facts {fI : Addr} {od : Option Addr} {d : FuncData} {osl : Array (Option Value)} (l1 : K.lookup fI = some ⟨.type "function", od, .func d, osl⟩) : PySem.W.keepIn K (.ref fI) = true ∧ PySem.W.isFn K (.ref fI) = true := by
  refine ⟨by unfold PySem.W.keepIn; dsimp only; rw [l1], ?_⟩
  unfold PySem.W.isFn
  rw [show PySem.W.typeIn K (.ref fI) = (K.lookup fI).map (·.cls) from rfl, l1]
  rfl
theorem pg_mk {h : Heap} (X : K.In h) (G : h.Ns mainGlobals mg) {cP fP : Addr} {od an : Option Addr} {osl : Array (Option Value)} {kV doc pm cdv ct : Value}
    (aP : PySem.W.nsIn K mainGlobals "Page" = some (some (.ref cP))) (b1 : PySem.W.specialIn K (.ref cP) "__getattribute__" = some (some (.builtin "type.__getattribute__"))) (b2 : PySem.W.readsIn K cP (.type "type") = true) (b3 : PySem.W.findCls K (.ref cP) (.type "type") "__init__" = some (.val (.ref fP)))
    (l1 : K.lookup fP = some ⟨.type "function", od, .func (PySem.W.fnOf "__init__" "Page.__init__" (defArgs (inClass (top 27) 0)) (defBody (inClass (top 27) 0)) (defScope (inClass (top 27) 0)) .none kV doc pm an cdv ct), osl⟩) (c1 : PySem.W.codeIn K cdv "Page.__init__" = true)
    (hb : ∀ (kV doc pm : Value) (an : Option Addr) (cdv ct : Value) (us : List Value), us.length = 3 → bindArgs (PySem.W.fnOf "__init__" "Page.__init__" (defArgs (inClass (top 27) 0)) (defBody (inClass (top 27) 0)) (defScope (inClass (top 27) 0)) .none kV doc pm an cdv ct) ⟨us, []⟩ = pure ((["self", "keys", "goods"] : List Str).zip us)) :
    ∃ cP fP fdP, PgN K mg cP fP fdP := by
  obtain ⟨kf, ff⟩ := fn_facts l1
  exact ⟨cP, fP, _, ⟨fun_mk l1 c1 kf, (fun_mk (st := inClass (top 27) 0) l1 c1 kf).binds hb, ⟨b1, b2, b3, kf⟩, PySem.W.mg_of X G aP⟩⟩
theorem kdn_mk {h : Heap} (X : K.In h) (G : h.Ns mainGlobals mg) {nm : Str} {C f fK fG : Addr} {od an odK anK odG anG : Option Addr} {osl oslK oslG : Array (Option Value)} {kV doc pm cdv ct kVK docK pmK cdvK ctK kVG docG pmG cdvG ctG : Value}
    (aC : PySem.W.nsIn K mainGlobals nm = some (some (.ref C))) (m1 : PySem.W.makesIn K C = true) (i1 : PySem.W.findIn K (.ref C) "__init__" = some (some (.ref f))) (i2 : PySem.W.keepIn K (.ref C) = true)
    (l1 : K.lookup f = some ⟨.type "function", od, .func (PySem.W.fnOf "__init__" q (defArgs st) (defBody st) (defScope st) .none kV doc pm an cdv ct), osl⟩) (c1 : PySem.W.codeIn K cdv q = true)
    (p1 : PySem.W.plainGet K C Str.empty = true) (p2 : PySem.W.hasDictIn K C = true) (p3 : PySem.W.plainOver K C = true) (p4 : PySem.W.findIn K (.ref C) "__setattr__" = some (some (.builtin "object.__setattr__")))
    (q1 : PySem.W.findIn K (.ref C) "__class__" = some (some (.builtin "object.__class__"))) (q2 : PySem.W.specialIn K (.builtin "object.__class__") "__get__" = some (some (.builtin "getset_descriptor.__get__"))) (q3 : PySem.W.takesIn K (.builtin "object.__class__") = some true) (q4 : PySem.W.mroIn K C (.type "object") = some true)
    (n1 : PySem.W.findIn K (.ref C) "key_row" = some none) (n2 : PySem.W.findIn K (.ref C) "good_row" = some none)
    (k1 : PySem.W.findIn K (.ref C) "all_keys" = some (some (.ref fK))) (lK : K.lookup fK = some ⟨.type "function", odK, .func (PySem.W.fnOf "all_keys" "Page.all_keys" (defArgs (inClass (top 27) 1)) (defBody (inClass (top 27) 1)) (defScope (inClass (top 27) 1)) .none kVK docK pmK anK cdvK ctK), oslK⟩) (cK : PySem.W.codeIn K cdvK "Page.all_keys" = true)
    (g1 : PySem.W.findIn K (.ref C) "goods" = some (some (.ref fG))) (lG : K.lookup fG = some ⟨.type "function", odG, .func (PySem.W.fnOf "goods" "Page.goods" (defArgs (inClass (top 27) 2)) (defBody (inClass (top 27) 2)) (defScope (inClass (top 27) 2)) .none kVG docG pmG anG cdvG ctG), oslG⟩) (cG : PySem.W.codeIn K cdvG "Page.goods" = true)
    (hb : ∀ (kV doc pm : Value) (an : Option Addr) (cdv ct : Value) (us : List Value), us.length = 3 → bindArgs (PySem.W.fnOf "__init__" q (defArgs st) (defBody st) (defScope st) .none kV doc pm an cdv ct) ⟨us, []⟩ = pure ((["self", "keys", "goods"] : List Str).zip us))
    (hbK : ∀ (kV doc pm : Value) (an : Option Addr) (cdv ct : Value) (us : List Value), us.length = 1 → bindArgs (PySem.W.fnOf "all_keys" "Page.all_keys" (defArgs (inClass (top 27) 1)) (defBody (inClass (top 27) 1)) (defScope (inClass (top 27) 1)) .none kV doc pm an cdv ct) ⟨us, []⟩ = pure ((["self"] : List Str).zip us))
    (hbG : ∀ (kV doc pm : Value) (an : Option Addr) (cdv ct : Value) (us : List Value), us.length = 1 → bindArgs (PySem.W.fnOf "goods" "Page.goods" (defArgs (inClass (top 27) 2)) (defBody (inClass (top 27) 2)) (defScope (inClass (top 27) 2)) .none kV doc pm an cdv ct) ⟨us, []⟩ = pure ((["self"] : List Str).zip us)) :
    ∃ C f fd fK fG fdK fdG, KdN K mg nm q st C f fd fK fG ∧ Fun K "all_keys" "Page.all_keys" (inClass (top 27) 1) fK fdK ∧ Fun K "goods" "Page.goods" (inClass (top 27) 2) fG fdG ∧ Binds K fdK ["self"] [] ∧ Binds K fdG ["self"] [] := by
  obtain ⟨kf, ff⟩ := fn_facts l1
  obtain ⟨kK, fK'⟩ := fn_facts lK
  obtain ⟨kG, fG'⟩ := fn_facts lG
  exact ⟨C, f, _, fK, fG, _, _, { mak := ⟨m1, i1, ff, i2⟩, fn := fun_mk (st := st) l1 c1 kf, bi := (fun_mk (st := st) l1 c1 kf).binds hb, m := PySem.W.mg_of X G aC, ins := ⟨⟨p1, p2, p3, p4⟩, q1, q2, q3, q4⟩, n1 := n1, n2 := n2, k := ⟨k1, fK', kK⟩, g := ⟨g1, fG', kG⟩ },
    fun_mk lK cK kK, fun_mk lG cG kG, (fun_mk (st := inClass (top 27) 1) lK cK kK).binds hbK, (fun_mk (st := inClass (top 27) 2) lG cG kG).binds hbG⟩
theorem kit_m {C D : Addr} {dd : Option Addr} {cd : ClassData} {sl : Array (Option Value)} {b : Bool} (l : K.lookup D = some ⟨.type "type", dd, .cls cd, sl⟩) (s : PySem.W.mroIn K C (.ref C) = some true) (m : PySem.W.mroIn K C (.ref D) = some b) : PySem.W.kitOne K (.ref C) (.ref D) = some b := by
  unfold PySem.W.kitOne
  by_cases e : C = D
  · subst e
    rw [if_pos (by simp), ← m, s]
  · rw [if_neg (by intro z; exact e (Value.ref.inj (beq_iff_eq.mp z)))]
    have h' : PySem.W.clsIn K D = some cd := by unfold PySem.W.clsIn; rw [l]
    have ty : PySem.W.typeIn K (.ref D) = some (.type "type") := by
      show (K.lookup D).map (·.cls) = _
      rw [l]
      rfl
    unfold PySem.W.kitCls
    dsimp only
    rw [if_pos (by rw [h', ty]; rfl)]
    exact m
theorem meth_mk {h : Heap} (X : K.In h) (G : h.Ns mainGlobals mg) {cn nm : Str} {C f : Addr} {od an : Option Addr} {osl : Array (Option Value)} {kV doc pm cdv ct : Value}
    (aC : PySem.W.nsIn K mainGlobals cn = some (some (.ref C))) (k1 : PySem.W.findIn K (.ref C) nm = some (some (.ref f))) (l1 : K.lookup f = some ⟨.type "function", od, .func (PySem.W.fnOf nm q (defArgs st) (defBody st) (defScope st) .none kV doc pm an cdv ct), osl⟩) (c1 : PySem.W.codeIn K cdv q = true)
    (hb : ∀ (kV doc pm : Value) (an : Option Addr) (cdv ct : Value) (us : List Value), us.length = ps.length → bindArgs (PySem.W.fnOf nm q (defArgs st) (defBody st) (defScope st) .none kV doc pm an cdv ct) ⟨us, []⟩ = pure (ps.zip us)) :
    ∃ C f fd, mg cn = some (.ref C) ∧ Meth K C nm f ∧ Fun K nm q st f fd ∧ Binds K fd ps [] := by
  obtain ⟨kf, ff⟩ := fn_facts l1
  exact ⟨C, f, _, PySem.W.mg_of X G aC, ⟨k1, ff, kf⟩, fun_mk (st := st) l1 c1 kf, (fun_mk (st := st) l1 c1 kf).binds hb⟩
theorem kit_ty {C : Addr} {cd : ClassData} {dd : Option Addr} {sl : Array (Option Value)} (l : K.lookup C = some ⟨.type "type", dd, .cls cd, sl⟩) (d : PyData) : PySem.W.kitOne K (tyD d) (.ref C) = some false := by
  have h' : PySem.W.clsIn K C = some cd := by unfold PySem.W.clsIn; rw [l]
  have ty : PySem.W.typeIn K (.ref C) = some (.type "type") := by
    show (K.lookup C).map (·.cls) = _
    rw [l]
    rfl
  unfold PySem.W.kitOne PySem.W.kitCls
  dsimp only
  rw [if_neg (by intro z; have := beq_iff_eq.mp z; cases d <;> cases this), if_pos (by rw [h', ty]; rfl)]
  cases d <;> kernel_rfl
theorem kin_mk {h : Heap} (X : K.In h) (G : h.Ns mainGlobals mg) {cL cI : Addr} {d2 d3 : Option Addr} {e2 e3 : ClassData} {s2 s3 : Array (Option Value)} (aL : PySem.W.nsIn K mainGlobals "Leaf" = some (some (.ref cL))) (aI : PySem.W.nsIn K mainGlobals "Inner" = some (some (.ref cI)))
    (lL : K.lookup cL = some ⟨.type "type", d2, .cls e2, s2⟩) (lI : K.lookup cI = some ⟨.type "type", d3, .cls e3, s3⟩) (m2 : PySem.W.mroIn K cI (.ref cI) = some true) (m6 : PySem.W.mroIn K cI (.ref cL) = some false) :
    ∃ cL cI, mg "Leaf" = some (.ref cL) ∧ mg "Inner" = some (.ref cI) ∧ Kin K cL cI := ⟨cL, cI, PySem.W.mg_of X G aL, PySem.W.mg_of X G aI, ⟨kit_m lL m2 m6, kit_ty lL, kit_ty lI⟩⟩
theorem int_of {h : Heap} (X : K.In h) (G : h.Ns mainGlobals mg) {x : Str} {i : Int} {t : Tok} (a : PySem.W.nsIn K mainGlobals x = some (some (.int i t))) : ∃ t, mg x = some (.int i t) := ⟨t, PySem.W.mg_of X G a⟩
theorem fun_uniq {x q : Str} {st : Stmt} {f : Addr} {fd fd' : FuncData} (a : Fun K x q st f fd) (b : Fun K x q st f fd') : fd = fd' := by
  obtain ⟨_, _, _, _, _, _, _, _, _, _, l1, _⟩ := a.ex
  obtain ⟨_, _, _, _, _, _, _, _, _, _, l2, _⟩ := b.ex
  rw [l1] at l2
  cases l2
  rfl
theorem mg_eq {x : Str} {a b : Addr} (h : mg x = some (.ref a)) (h' : mg x = some (.ref b)) : a = b := Value.ref.inj (Option.some.inj (h.symm.trans h'))
end
theorem last {P : Program} {w : World} {K : PySem.W.Frag} {mg : Str → Option Value} {fa : Addr} (T : Txt K mg) (TX : ∃ T, TF K mg T)
    (ENoKey : ∃ C T', mg "TreeError" = some (.ref T') ∧ CF K mg T' C "NoKey" "NoKey.__init__" (inClass (top 3) 0) ["found"])
    (ENoPage : ∃ C T', mg "TreeError" = some (.ref T') ∧ CF K mg T' C "NoPage" "NoPage.__init__" (inClass (top 4) 0) ["found"])
    (PX : ∃ cP fP fdP, PgN K mg cP fP fdP)
    (KL : ∃ C f fd fK fG fdK fdG, KdN K mg "Leaf" "Leaf.__init__" (inClass (top 28) 0) C f fd fK fG ∧ Fun K "all_keys" "Page.all_keys" (inClass (top 27) 1) fK fdK ∧ Fun K "goods" "Page.goods" (inClass (top 27) 2) fG fdG ∧ Binds K fdK ["self"] [] ∧ Binds K fdG ["self"] [])
    (KI : ∃ C f fd fK fG fdK fdG, KdN K mg "Inner" "Inner.__init__" (inClass (top 29) 0) C f fd fK fG ∧ Fun K "all_keys" "Page.all_keys" (inClass (top 27) 1) fK fdK ∧ Fun K "goods" "Page.goods" (inClass (top 27) 2) fG fdG ∧ Binds K fdK ["self"] [] ∧ Binds K fdG ["self"] [])
    (KT : ∃ cL cI, mg "Leaf" = some (.ref cL) ∧ mg "Inner" = some (.ref cI) ∧ Kin K cL cI)
    (Mgood : ∃ C f fd, mg "Leaf" = some (.ref C) ∧ Meth K C "good" f ∧ Fun K "good" "Leaf.good" (inClass (top 28) 1) f fd ∧ Binds K fd ["self", "key"] [])
    (Mpart : ∃ C f fd, mg "Leaf" = some (.ref C) ∧ Meth K C "part" f ∧ Fun K "part" "Leaf.part" (inClass (top 28) 4) f fd ∧ Binds K fd ["self", "low", "high"] [])
    (Mis_kin : ∃ C f fd, mg "Leaf" = some (.ref C) ∧ Meth K C "is_kin" f ∧ Fun K "is_kin" "Leaf.is_kin" (inClass (top 28) 5) f fd ∧ Binds K fd ["self", "thing"] [])
    (Mmany : ∃ C f fd, mg "Leaf" = some (.ref C) ∧ Meth K C "many" f ∧ Fun K "many" "Page.many" (inClass (top 27) 3) f fd ∧ Binds K fd ["self"] [])
    (Msame : ∃ C f fd, mg "Leaf" = some (.ref C) ∧ Meth K C "same" f ∧ Fun K "same" "Page.same" (inClass (top 27) 4) f fd ∧ Binds K fd ["self", "thing"] [])
    (d_is_number : ∃ f fd, Dn K mg "is_number" "is_number" s_is_number ["thing"] f fd) (d_is_whole : ∃ f fd, Dn K mg "is_whole" "is_whole" s_is_whole ["thing", "low", "high"] f fd) (d_is_key : ∃ f fd, Dn K mg "is_key" "is_key" s_is_key ["thing"] f fd) (d_is_good : ∃ f fd, Dn K mg "is_good" "is_good" s_is_good ["thing"] f fd) (d_is_place : ∃ f fd, Dn K mg "is_place" "is_place" s_is_place ["thing"] f fd) (d_is_row : ∃ f fd, Dn K mg "is_row" "is_row" s_is_row ["thing"] f fd) (d_is_rising : ∃ f fd, Dn K mg "is_rising" "is_rising" s_is_rising ["thing"] f fd) (d_in_stretch : ∃ f fd, Dn K mg "in_stretch" "in_stretch" s_in_stretch ["key", "low", "high"] f fd) (d_need_key : ∃ f fd, Dn K mg "need_key" "need_key" s_need_key ["thing"] f fd) (d_are_page_keys : ∃ f fd, Dn K mg "are_page_keys" "are_page_keys" s_are_page_keys ["thing"] f fd) (d_are_goods : ∃ f fd, Dn K mg "are_goods" "are_goods" s_are_goods ["thing", "many"] f fd) (d_are_places : ∃ f fd, Dn K mg "are_places" "are_places" s_are_places ["thing", "many"] f fd) (d__law_cell : ∃ f fd, Dn K mg "_law_cell" "_law_cell" s__law_cell ["_law_script", "_law_k"] f fd) (d__law_box : ∃ f fd, Dn K mg "_law_box" "_law_box" s__law_box ["_law_cell_here"] f fd) (d__law_take : ∃ f fd, Dn K mg "_law_take" "_law_take" s__law_take ["_law_box_here", "_law_many"] f fd) (d__law_keys : ∃ f fd, Dn K mg "_law_keys" "_law_keys" s__law_keys ["_law_box_here", "_law_many"] f fd) (d__law_good : ∃ f fd, Dn K mg "_law_good" "_law_good" s__law_good ["_law_box_here"] f fd) (d__law_leaf : ∃ f fd, Dn K mg "_law_leaf" "_law_leaf" s__law_leaf ["_law_box_here"] f fd) (d__law_near : ∃ f fd, Dn K mg "_law_near" "_law_near" s__law_near ["_law_keys_here"] f fd) (d__law_odd : ∃ f fd, Dn K mg "_law_odd" "_law_odd" s__law_odd ["_law_box_here"] f fd) (d__law_lists_right : ∃ f fd, Dn K mg "_law_lists_right" "_law_lists_right" s__law_lists_right ["_law_page", "_law_keys_here", "_law_goods"] f fd) (d__law_goods_right : ∃ f fd, Dn K mg "_law_goods_right" "_law_goods_right" s__law_goods_right ["_law_page", "_law_keys_here", "_law_goods"] f fd) (d__law_parts_right : ∃ f fd, Dn K mg "_law_parts_right" "_law_parts_right" s__law_parts_right ["_law_box_here", "_law_page", "_law_keys_here", "_law_goods"] f fd) (d__law_page_told : ∃ f fd, Dn K mg "_law_page_told" "_law_page_told" s__law_page_told ["_law_thing"] f fd) (d__law_exchanged : ∃ f fd, Dn K mg "_law_exchanged" "_law_exchanged" s__law_exchanged ["_law_keys_here", "_law_goods"] f fd) (d__law_same_right : ∃ f fd, Dn K mg "_law_same_right" "_law_same_right" s__law_same_right ["_law_page", "_law_keys_here", "_law_goods"] f fd) (d__law_refused : ∃ f fd, Dn K mg "_law_refused" "_law_refused" s__law_refused ["_law_page", "_law_way", "_law_things"] f fd) (d__law_kept_right : ∃ f fd, Dn K mg "_law_kept_right" "_law_kept_right" s__law_kept_right ["_law_page", "_law_way", "_law_things", "_law_due"] f fd) (d__law_is_key : ∃ f fd, Dn K mg "_law_is_key" "_law_is_key" s__law_is_key ["_law_thing"] f fd) (d__law_refusals_right : ∃ f fd, Dn K mg "_law_refusals_right" "_law_refusals_right" s__law_refusals_right ["_law_box_here", "_law_page"] f fd) (d_law : ∃ f fd, Dn K mg "law" "law" s_law ["_law_script"] f fd) (hmg : mg "law" = some (.ref fa)) :
    ∃ fd : FuncData, (∀ (s : Shared) (u : Value), BindsTo s fd ⟨[u], []⟩ [("_law_script", u)]) ∧ ∀ base : Heap, FnOk P w K mg base CX0 13 fa fd ["_law_script"] (spLaw K) := by
  obtain ⟨TT, TX⟩ := TX
  obtain ⟨cNoKey, TNoKey, eNoKey, CNoKey⟩ := ENoKey
  cases mg_eq TX.mT eNoKey
  obtain ⟨fNoKey, fdNoKey, xNoKey⟩ := CNoKey.er TX
  obtain ⟨cNoPage, TNoPage, eNoPage, CNoPage⟩ := ENoPage
  cases mg_eq TX.mT eNoPage
  obtain ⟨fNoPage, fdNoPage, xNoPage⟩ := CNoPage.er TX
  obtain ⟨cP, fP, fdP, y⟩ := PX
  obtain ⟨cL, fL, fdL, fK, fG, fdK, fdG, XL, a1, a2, a3, a4⟩ := KL
  obtain ⟨cI, fN, fdN, fK2, fG2, fdK2, fdG2, XI, b1, b2, b3, b4⟩ := KI
  obtain ⟨cL', cI', e2, e3, kn⟩ := KT
  cases mg_eq XL.m e2
  cases mg_eq XI.m e3
  obtain ⟨C_good, f_good, fd_good, m0, m_good, n_good, b_good⟩ := Mgood
  cases mg_eq XL.m m0
  obtain ⟨C_part, f_part, fd_part, m0, m_part, n_part, b_part⟩ := Mpart
  cases mg_eq XL.m m0
  obtain ⟨C_is_kin, f_is_kin, fd_is_kin, m0, m_is_kin, n_is_kin, b_is_kin⟩ := Mis_kin
  cases mg_eq XL.m m0
  obtain ⟨C_many, f_many, fd_many, m0, m_many, n_many, b_many⟩ := Mmany
  cases mg_eq XL.m m0
  obtain ⟨C_same, f_same, fd_same, m0, m_same, n_same, b_same⟩ := Msame
  cases mg_eq XL.m m0
  obtain ⟨f, fd, Dl⟩ := d_law
  have ef : fa = f := Value.ref.inj (Option.some.inj (hmg.symm.trans Dl.m))
  subst ef
  refine ⟨fd, ?_, fun base => ?_⟩
  · obtain ⟨oc, od, kV, doc, pm, an, cdv, ct, osl, e, lk, hcd⟩ := Dl.fn.ex
    subst e
    exact fun s u => .of_eq rfl
  · have take := ok_take (P := P) (w := w) (base := base) d__law_take T
    have cell := ok_cell (P := P) (w := w) (base := base) d__law_cell T
    have box := ok_box (P := P) (w := w) (base := base) d__law_box T
    have isN := ok_isN (P := P) (w := w) (base := base) d_is_number T
    have isW := ok_isW d_is_whole T isN
    have isK := ok_isK d_is_key T isW
    have isG := ok_isG d_is_good T isW
    have isR := ok_isR (P := P) (w := w) (base := base) d_is_row T
    have lN := ok_lN (P := P) (w := w) (base := base) d__law_is_key T
    have rise := ok_rise d_is_rising T isR isK
    have apk := ok_APK d_are_page_keys T rise
    have ag := ok_AG d_are_goods T isR isG
    have gL := ok_leaf XL xNoPage y T apk ag
    have need := ok_need d_need_key T xNoKey isK
    have isP := ok_isP d_is_place T isN
    have ap := ok_AP d_are_places T isR isP
    have gI := ok_inner XI xNoPage y T apk ap
    have ins := ok_ins (P := P) (w := w) (base := base) d_in_stretch T
    have gd := ok_lgood n_good T XL need
    have pt := ok_part n_part T XL need ins
    have kin := ok_kin (P := P) (w := w) (base := base) n_is_kin T XL.m
    have sm := ok_same n_same T XL m_is_kin b_is_kin kin
    have mn := ok_many (P := P) (w := w) (base := base) n_many T XL.ins.cl XL.n1
    have mK : MtOk P w K mg base CX0 cL "all_keys" ["self"] 1 (spRow cL true) := ⟨fK, fdK, XL.k, a3, ok_ak a1 T XL.ins.cl XL.n1⟩
    have mG : MtOk P w K mg base CX0 cL "goods" ["self"] 1 (spRow cL false) := ⟨fG, fdG, XL.g, a4, ok_gs a2 T XL.ins.cl XL.n2⟩
    have iK : MtOk P w K mg base CX0 cI "all_keys" ["self"] 1 (spRow cI true) := ⟨fK2, fdK2, XI.k, b3, ok_ak b1 T XI.ins.cl XI.n1⟩
    have iG : MtOk P w K mg base CX0 cI "goods" ["self"] 1 (spRow cI false) := ⟨fG2, fdG2, XI.g, b4, ok_gs b2 T XI.ins.cl XI.n2⟩
    have keys := ok_keysU d__law_keys T take
    have good := ok_goodU d__law_good T take
    have odd := ok_odd d__law_odd T take
    have near := ok_near (P := P) (w := w) (base := base) d__law_near T
    have lleaf := ok_lleaf d__law_leaf T XL take keys good gL
    have lr := ok_lr d__law_lists_right T XL.ins mK mG ⟨_, _, m_many, b_many, mn⟩
    have gr := ok_gr d__law_goods_right T XL.ins near ⟨_, _, m_good, b_good, gd⟩
    have pr := ok_pr d__law_parts_right T XL.ins take near ⟨_, _, m_part, b_part, pt⟩
    have told := ok_pt d__law_page_told T XL.m XI.m kn XL.ins XI.ins mK mG iK iG
    have ex := ok_ex d__law_exchanged T XL gL
    have sr := ok_sr d__law_same_right T kn XL.ins XI.ins XL XI gL gI ⟨_, _, m_same, b_same, sm⟩ ex told
    have rf := ok_ref d__law_refused T XL.ins xNoKey TX.xm ⟨_, _, m_good, b_good, gd⟩ ⟨_, _, m_part, b_part, pt⟩
    have kr := ok_kr d__law_kept_right T rf
    have rr := ok_rr d__law_refusals_right T XL.ins take near odd kr rf lN mK
    obtain ⟨f', fd', D', G'⟩ := ok_law ⟨fa, fd, Dl⟩ T cell box lleaf pr lr rr sr gr
    have ef : fa = f' := Value.ref.inj (Option.some.inj (hmg.symm.trans D'.m))
    subst ef
    cases fun_uniq Dl.fn D'.fn
    exact G'
end K11

set_option Elab.async false
set_option linter.all false
def PySem.W.Fast.tw11650417691675415559 : Nat := 0
def PySem.W.Fast.tw3492005752202007687 : Nat := 0
def PySem.W.Fast.tw418494611084211591 : Nat := 0
def PySem.W.Fast.tw5177952190065054280 : Nat := 0
def PySem.W.Fast.tw14892522612220360585 : Nat := 0
def PySem.W.Fast.tw16653588249672618538 : Nat := 0
def PySem.W.Fast.tw11974127029432685418 : Nat := 0
def PySem.W.Fast.tw9266423890768349835 : Nat := 0
def PySem.W.Fast.tw6703898623023624556 : Nat := 0
def PySem.W.Fast.tw12484599578600394382 : Nat := 0
def PySem.W.Fast.tw15412171721414995889 : Nat := 0
def PySem.W.Fast.tw8725313927992101618 : Nat := 0
def PySem.W.Fast.tw18173324709336452051 : Nat := 0
def PySem.W.Fast.tw10103776168853567443 : Nat := 0
def PySem.W.Fast.tw10064742182751447412 : Nat := 0
def PySem.W.Fast.tw10863044046356711199 : Nat := 0
def PySem.W.Fast.tw211257889448021806 : Nat := 0
def PySem.W.Fast.tw678578873453999596 : Nat := 0
open PySem PySem.W PyProof.Rows
set_option maxRecDepth 100000 in
set_option maxHeartbeats 0 in
theorem PySem.Challenge.cw_nolocktree_k11_leaves_looked_up_holds : PySem.Challenge.rw_nolocktree_k11_leaves_looked_up.Holds := by
  w_on; o_law; k_head; (case hw => w_witness2)
  k_fill
  refine L2.walk_ofK (l := PySem.Challenge.rw_nolocktree_k11_leaves_looked_up) (n := 63) (k := 13) (x := "_law_script") (CX := L2.CX0) (sp := K11.spLaw) rfl (by decide) rfl ⟨rfl, by decide, by decide, rfl⟩ (fun w h Y => PySem.W.kIn_of Y) ?F ?S ?C
  case S => exact fun K H a ns hl hO hS => ⟨a, ns, rfl, hS, hl, fun _ => rfl⟩
  case C => exact fun _ _ _ _ z => z
  case F =>
    intro w mg fa h KX G hmg
    have TX : ∃ T, K11.TF (L2.KOf KX) mg T := by
      dsimp only [L2.KOf]
      refine' K11.tf_mk KX G ?aT ?lT ?lN ?s1 ?s2 ?b1 ?b2 ?b3 ?i1 ?i3 ?g1 ?g2 ?g4 ?g5 ?g6
      (case aT => k_is); (case lT => k_is); (case lN => k_is); (case s1 => kernel_rfl); (case s2 => kernel_rfl); (case b1 => k_is); (case b2 => k_is); (case b3 => k_is); (case i1 => k_is); (case i3 => k_is); (case g1 => k_is); (case g2 => k_is); (case g4 => k_is); (case g5 => k_is); (case g6 => k_is)
    have ENoKey : ∃ C T', mg "TreeError" = some (.ref T') ∧ K11.CF (L2.KOf KX) mg T' C "NoKey" "NoKey.__init__" (L2.inClass (K11.top 3) 0) ["found"] := by
      dsimp only [L2.KOf]
      refine' K11.cls_mk KX G ?aC ?aT ?lC ?i1 ?i3 ?i5 ?g1 ?g2 ?g4 ?l1 ?c1 (K11.na1 ?n1) (fun _ _ _ _ _ _ us hl => match us, hl with | [_, _], _ => rfl)
      (case aC => k_is); (case aT => k_is); (case lC => k_is); (case i1 => k_is); (case i3 => k_is); (case i5 => k_is); (case g1 => k_is); (case g2 => k_is); (case g4 => k_is); (case l1 => k_is); (case c1 => k_is); (case n1 => k_is)
    have ENoPage : ∃ C T', mg "TreeError" = some (.ref T') ∧ K11.CF (L2.KOf KX) mg T' C "NoPage" "NoPage.__init__" (L2.inClass (K11.top 4) 0) ["found"] := by
      dsimp only [L2.KOf]
      refine' K11.cls_mk KX G ?aC ?aT ?lC ?i1 ?i3 ?i5 ?g1 ?g2 ?g4 ?l1 ?c1 (K11.na1 ?n1) (fun _ _ _ _ _ _ us hl => match us, hl with | [_, _], _ => rfl)
      (case aC => k_is); (case aT => k_is); (case lC => k_is); (case i1 => k_is); (case i3 => k_is); (case i5 => k_is); (case g1 => k_is); (case g2 => k_is); (case g4 => k_is); (case l1 => k_is); (case c1 => k_is); (case n1 => k_is)
    have PX : ∃ cP fP fdP, K11.PgN (L2.KOf KX) mg cP fP fdP := by
      dsimp only [L2.KOf]
      refine' K11.pg_mk KX G ?aP ?b1 ?b2 ?b3 ?l1 ?c1 (fun _ _ _ _ _ _ us hl => match us, hl with | [_, _, _], _ => rfl)
      (case aP => k_is); (case b1 => k_is); (case b2 => k_is); (case b3 => k_is); (case l1 => k_is); (case c1 => k_is)
    have LX : ∃ C f fd fK fG fdK fdG, K11.KdN (L2.KOf KX) mg "Leaf" "Leaf.__init__" (L2.inClass (K11.top 28) 0) C f fd fK fG ∧ L2.Fun (L2.KOf KX) "all_keys" "Page.all_keys" (L2.inClass (K11.top 27) 1) fK fdK ∧ L2.Fun (L2.KOf KX) "goods" "Page.goods" (L2.inClass (K11.top 27) 2) fG fdG ∧ L2.Binds (L2.KOf KX) fdK ["self"] [] ∧ L2.Binds (L2.KOf KX) fdG ["self"] [] := by
      dsimp only [L2.KOf]
      refine' K11.kdn_mk KX G ?aC ?m1 ?i1 ?i2 ?l1 ?c1 ?p1 ?p2 ?p3 ?p4 ?q1 ?q2 ?q3 ?q4 ?n1 ?n2 ?k1 ?lK ?cK ?g1 ?lG ?cG (fun _ _ _ _ _ _ us hl => match us, hl with | [_, _, _], _ => rfl) (fun _ _ _ _ _ _ us hl => match us, hl with | [_], _ => rfl) (fun _ _ _ _ _ _ us hl => match us, hl with | [_], _ => rfl)
      (case aC => k_is); (case m1 => k_is); (case i1 => k_is); (case i2 => k_is); (case l1 => k_is); (case c1 => k_is); (case p1 => k_is); (case p2 => k_is); (case p3 => k_is); (case p4 => k_is); (case q1 => k_is); (case q2 => k_is); (case q3 => k_is); (case q4 => k_is); (case n1 => k_is); (case n2 => k_is); (case k1 => k_is); (case lK => k_is); (case cK => k_is); (case g1 => k_is); (case lG => k_is); (case cG => k_is)
    have IX : ∃ C f fd fK fG fdK fdG, K11.KdN (L2.KOf KX) mg "Inner" "Inner.__init__" (L2.inClass (K11.top 29) 0) C f fd fK fG ∧ L2.Fun (L2.KOf KX) "all_keys" "Page.all_keys" (L2.inClass (K11.top 27) 1) fK fdK ∧ L2.Fun (L2.KOf KX) "goods" "Page.goods" (L2.inClass (K11.top 27) 2) fG fdG ∧ L2.Binds (L2.KOf KX) fdK ["self"] [] ∧ L2.Binds (L2.KOf KX) fdG ["self"] [] := by
      dsimp only [L2.KOf]
      refine' K11.kdn_mk KX G ?aC ?m1 ?i1 ?i2 ?l1 ?c1 ?p1 ?p2 ?p3 ?p4 ?q1 ?q2 ?q3 ?q4 ?n1 ?n2 ?k1 ?lK ?cK ?g1 ?lG ?cG (fun _ _ _ _ _ _ us hl => match us, hl with | [_, _, _], _ => rfl) (fun _ _ _ _ _ _ us hl => match us, hl with | [_], _ => rfl) (fun _ _ _ _ _ _ us hl => match us, hl with | [_], _ => rfl)
      (case aC => k_is); (case m1 => k_is); (case i1 => k_is); (case i2 => k_is); (case l1 => k_is); (case c1 => k_is); (case p1 => k_is); (case p2 => k_is); (case p3 => k_is); (case p4 => k_is); (case q1 => k_is); (case q2 => k_is); (case q3 => k_is); (case q4 => k_is); (case n1 => k_is); (case n2 => k_is); (case k1 => k_is); (case lK => k_is); (case cK => k_is); (case g1 => k_is); (case lG => k_is); (case cG => k_is)
    have KT : ∃ cL cI, mg "Leaf" = some (.ref cL) ∧ mg "Inner" = some (.ref cI) ∧ K11.Kin (L2.KOf KX) cL cI := by
      dsimp only [L2.KOf]
      refine' K11.kin_mk KX G ?aL ?aI ?lL ?lI ?m2 ?m6
      (case aL => k_is); (case aI => k_is); (case lL => k_is); (case lI => k_is); (case m2 => k_is); (case m6 => k_is)
    have Mgood : ∃ C f fd, mg "Leaf" = some (.ref C) ∧ L2.Meth (L2.KOf KX) C "good" f ∧ L2.Fun (L2.KOf KX) "good" "Leaf.good" (L2.inClass (K11.top 28) 1) f fd ∧ L2.Binds (L2.KOf KX) fd ["self", "key"] [] := by
      dsimp only [L2.KOf]
      refine' K11.meth_mk KX G ?aC ?k1 ?l1 ?c1 (fun _ _ _ _ _ _ us hl => match us, hl with | [_, _], _ => rfl)
      (case aC => k_is); (case k1 => k_is); (case l1 => k_is); (case c1 => k_is)
    have Mpart : ∃ C f fd, mg "Leaf" = some (.ref C) ∧ L2.Meth (L2.KOf KX) C "part" f ∧ L2.Fun (L2.KOf KX) "part" "Leaf.part" (L2.inClass (K11.top 28) 4) f fd ∧ L2.Binds (L2.KOf KX) fd ["self", "low", "high"] [] := by
      dsimp only [L2.KOf]
      refine' K11.meth_mk KX G ?aC ?k1 ?l1 ?c1 (fun _ _ _ _ _ _ us hl => match us, hl with | [_, _, _], _ => rfl)
      (case aC => k_is); (case k1 => k_is); (case l1 => k_is); (case c1 => k_is)
    have Mis_kin : ∃ C f fd, mg "Leaf" = some (.ref C) ∧ L2.Meth (L2.KOf KX) C "is_kin" f ∧ L2.Fun (L2.KOf KX) "is_kin" "Leaf.is_kin" (L2.inClass (K11.top 28) 5) f fd ∧ L2.Binds (L2.KOf KX) fd ["self", "thing"] [] := by
      dsimp only [L2.KOf]
      refine' K11.meth_mk KX G ?aC ?k1 ?l1 ?c1 (fun _ _ _ _ _ _ us hl => match us, hl with | [_, _], _ => rfl)
      (case aC => k_is); (case k1 => k_is); (case l1 => k_is); (case c1 => k_is)
    have Mmany : ∃ C f fd, mg "Leaf" = some (.ref C) ∧ L2.Meth (L2.KOf KX) C "many" f ∧ L2.Fun (L2.KOf KX) "many" "Page.many" (L2.inClass (K11.top 27) 3) f fd ∧ L2.Binds (L2.KOf KX) fd ["self"] [] := by
      dsimp only [L2.KOf]
      refine' K11.meth_mk KX G ?aC ?k1 ?l1 ?c1 (fun _ _ _ _ _ _ us hl => match us, hl with | [_], _ => rfl)
      (case aC => k_is); (case k1 => k_is); (case l1 => k_is); (case c1 => k_is)
    have Msame : ∃ C f fd, mg "Leaf" = some (.ref C) ∧ L2.Meth (L2.KOf KX) C "same" f ∧ L2.Fun (L2.KOf KX) "same" "Page.same" (L2.inClass (K11.top 27) 4) f fd ∧ L2.Binds (L2.KOf KX) fd ["self", "thing"] [] := by
      dsimp only [L2.KOf]
      refine' K11.meth_mk KX G ?aC ?k1 ?l1 ?c1 (fun _ _ _ _ _ _ us hl => match us, hl with | [_, _], _ => rfl)
      (case aC => k_is); (case k1 => k_is); (case l1 => k_is); (case c1 => k_is)
    have T : K11.Txt (L2.KOf KX) mg := by
      dsimp only [L2.KOf]
      refine' ⟨PySem.W.mg_none_of KX G ?n0, PySem.W.mg_none_of KX G ?n1, PySem.W.mg_none_of KX G ?n2, PySem.W.mg_none_of KX G ?n3, PySem.W.mg_none_of KX G ?n4, PySem.W.mg_none_of KX G ?n5, PySem.W.mg_none_of KX G ?n6, PySem.W.mg_none_of KX G ?n7, PySem.W.mg_none_of KX G ?n8, PySem.W.mg_none_of KX G ?n9, PySem.W.mg_none_of KX G ?n10, PySem.W.mg_none_of KX G ?n11, PySem.W.mg_none_of KX G ?n12, PySem.W.mg_none_of KX G ?n13, PySem.W.mg_none_of KX G ?n14, PySem.W.mg_none_of KX G ?n15, K11.int_of KX G ?c0, K11.int_of KX G ?c1, K11.int_of KX G ?c2⟩
      (case n0 => k_is); (case n1 => k_is); (case n2 => k_is); (case n3 => k_is); (case n4 => k_is); (case n5 => k_is); (case n6 => k_is); (case n7 => k_is); (case n8 => k_is); (case n9 => k_is); (case n10 => k_is); (case n11 => k_is); (case n12 => k_is); (case n13 => k_is); (case n14 => k_is); (case n15 => k_is); (case c0 => k_is); (case c1 => k_is); (case c2 => k_is)
    have D_is_number : ∃ f fd, L2.Dn (L2.KOf KX) mg "is_number" "is_number" K11.s_is_number ["thing"] f fd := by
      dsimp only [L2.KOf]
      refine' L2.dn_mk KX G ?a ?l ?c ?k (fun _ _ _ _ _ _ us hl => match us, hl with | [_], _ => rfl)
      (case a => k_is); (case l => k_is); (case c => k_is); (case k => k_is)
    have D_is_whole : ∃ f fd, L2.Dn (L2.KOf KX) mg "is_whole" "is_whole" K11.s_is_whole ["thing", "low", "high"] f fd := by
      dsimp only [L2.KOf]
      refine' L2.dn_mk KX G ?a ?l ?c ?k (fun _ _ _ _ _ _ us hl => match us, hl with | [_, _, _], _ => rfl)
      (case a => k_is); (case l => k_is); (case c => k_is); (case k => k_is)
    have D_is_key : ∃ f fd, L2.Dn (L2.KOf KX) mg "is_key" "is_key" K11.s_is_key ["thing"] f fd := by
      dsimp only [L2.KOf]
      refine' L2.dn_mk KX G ?a ?l ?c ?k (fun _ _ _ _ _ _ us hl => match us, hl with | [_], _ => rfl)
      (case a => k_is); (case l => k_is); (case c => k_is); (case k => k_is)
    have D_is_good : ∃ f fd, L2.Dn (L2.KOf KX) mg "is_good" "is_good" K11.s_is_good ["thing"] f fd := by
      dsimp only [L2.KOf]
      refine' L2.dn_mk KX G ?a ?l ?c ?k (fun _ _ _ _ _ _ us hl => match us, hl with | [_], _ => rfl)
      (case a => k_is); (case l => k_is); (case c => k_is); (case k => k_is)
    have D_is_place : ∃ f fd, L2.Dn (L2.KOf KX) mg "is_place" "is_place" K11.s_is_place ["thing"] f fd := by
      dsimp only [L2.KOf]
      refine' L2.dn_mk KX G ?a ?l ?c ?k (fun _ _ _ _ _ _ us hl => match us, hl with | [_], _ => rfl)
      (case a => k_is); (case l => k_is); (case c => k_is); (case k => k_is)
    have D_is_row : ∃ f fd, L2.Dn (L2.KOf KX) mg "is_row" "is_row" K11.s_is_row ["thing"] f fd := by
      dsimp only [L2.KOf]
      refine' L2.dn_mk KX G ?a ?l ?c ?k (fun _ _ _ _ _ _ us hl => match us, hl with | [_], _ => rfl)
      (case a => k_is); (case l => k_is); (case c => k_is); (case k => k_is)
    have D_is_rising : ∃ f fd, L2.Dn (L2.KOf KX) mg "is_rising" "is_rising" K11.s_is_rising ["thing"] f fd := by
      dsimp only [L2.KOf]
      refine' L2.dn_mk KX G ?a ?l ?c ?k (fun _ _ _ _ _ _ us hl => match us, hl with | [_], _ => rfl)
      (case a => k_is); (case l => k_is); (case c => k_is); (case k => k_is)
    have D_in_stretch : ∃ f fd, L2.Dn (L2.KOf KX) mg "in_stretch" "in_stretch" K11.s_in_stretch ["key", "low", "high"] f fd := by
      dsimp only [L2.KOf]
      refine' L2.dn_mk KX G ?a ?l ?c ?k (fun _ _ _ _ _ _ us hl => match us, hl with | [_, _, _], _ => rfl)
      (case a => k_is); (case l => k_is); (case c => k_is); (case k => k_is)
    have D_need_key : ∃ f fd, L2.Dn (L2.KOf KX) mg "need_key" "need_key" K11.s_need_key ["thing"] f fd := by
      dsimp only [L2.KOf]
      refine' L2.dn_mk KX G ?a ?l ?c ?k (fun _ _ _ _ _ _ us hl => match us, hl with | [_], _ => rfl)
      (case a => k_is); (case l => k_is); (case c => k_is); (case k => k_is)
    have D_are_page_keys : ∃ f fd, L2.Dn (L2.KOf KX) mg "are_page_keys" "are_page_keys" K11.s_are_page_keys ["thing"] f fd := by
      dsimp only [L2.KOf]
      refine' L2.dn_mk KX G ?a ?l ?c ?k (fun _ _ _ _ _ _ us hl => match us, hl with | [_], _ => rfl)
      (case a => k_is); (case l => k_is); (case c => k_is); (case k => k_is)
    have D_are_goods : ∃ f fd, L2.Dn (L2.KOf KX) mg "are_goods" "are_goods" K11.s_are_goods ["thing", "many"] f fd := by
      dsimp only [L2.KOf]
      refine' L2.dn_mk KX G ?a ?l ?c ?k (fun _ _ _ _ _ _ us hl => match us, hl with | [_, _], _ => rfl)
      (case a => k_is); (case l => k_is); (case c => k_is); (case k => k_is)
    have D_are_places : ∃ f fd, L2.Dn (L2.KOf KX) mg "are_places" "are_places" K11.s_are_places ["thing", "many"] f fd := by
      dsimp only [L2.KOf]
      refine' L2.dn_mk KX G ?a ?l ?c ?k (fun _ _ _ _ _ _ us hl => match us, hl with | [_, _], _ => rfl)
      (case a => k_is); (case l => k_is); (case c => k_is); (case k => k_is)
    have D__law_cell : ∃ f fd, L2.Dn (L2.KOf KX) mg "_law_cell" "_law_cell" K11.s__law_cell ["_law_script", "_law_k"] f fd := by
      dsimp only [L2.KOf]
      refine' L2.dn_mk KX G ?a ?l ?c ?k (fun _ _ _ _ _ _ us hl => match us, hl with | [_, _], _ => rfl)
      (case a => k_is); (case l => k_is); (case c => k_is); (case k => k_is)
    have D__law_box : ∃ f fd, L2.Dn (L2.KOf KX) mg "_law_box" "_law_box" K11.s__law_box ["_law_cell_here"] f fd := by
      dsimp only [L2.KOf]
      refine' L2.dn_mk KX G ?a ?l ?c ?k (fun _ _ _ _ _ _ us hl => match us, hl with | [_], _ => rfl)
      (case a => k_is); (case l => k_is); (case c => k_is); (case k => k_is)
    have D__law_take : ∃ f fd, L2.Dn (L2.KOf KX) mg "_law_take" "_law_take" K11.s__law_take ["_law_box_here", "_law_many"] f fd := by
      dsimp only [L2.KOf]
      refine' L2.dn_mk KX G ?a ?l ?c ?k (fun _ _ _ _ _ _ us hl => match us, hl with | [_, _], _ => rfl)
      (case a => k_is); (case l => k_is); (case c => k_is); (case k => k_is)
    have D__law_keys : ∃ f fd, L2.Dn (L2.KOf KX) mg "_law_keys" "_law_keys" K11.s__law_keys ["_law_box_here", "_law_many"] f fd := by
      dsimp only [L2.KOf]
      refine' L2.dn_mk KX G ?a ?l ?c ?k (fun _ _ _ _ _ _ us hl => match us, hl with | [_, _], _ => rfl)
      (case a => k_is); (case l => k_is); (case c => k_is); (case k => k_is)
    have D__law_good : ∃ f fd, L2.Dn (L2.KOf KX) mg "_law_good" "_law_good" K11.s__law_good ["_law_box_here"] f fd := by
      dsimp only [L2.KOf]
      refine' L2.dn_mk KX G ?a ?l ?c ?k (fun _ _ _ _ _ _ us hl => match us, hl with | [_], _ => rfl)
      (case a => k_is); (case l => k_is); (case c => k_is); (case k => k_is)
    have D__law_leaf : ∃ f fd, L2.Dn (L2.KOf KX) mg "_law_leaf" "_law_leaf" K11.s__law_leaf ["_law_box_here"] f fd := by
      dsimp only [L2.KOf]
      refine' L2.dn_mk KX G ?a ?l ?c ?k (fun _ _ _ _ _ _ us hl => match us, hl with | [_], _ => rfl)
      (case a => k_is); (case l => k_is); (case c => k_is); (case k => k_is)
    have D__law_near : ∃ f fd, L2.Dn (L2.KOf KX) mg "_law_near" "_law_near" K11.s__law_near ["_law_keys_here"] f fd := by
      dsimp only [L2.KOf]
      refine' L2.dn_mk KX G ?a ?l ?c ?k (fun _ _ _ _ _ _ us hl => match us, hl with | [_], _ => rfl)
      (case a => k_is); (case l => k_is); (case c => k_is); (case k => k_is)
    have D__law_odd : ∃ f fd, L2.Dn (L2.KOf KX) mg "_law_odd" "_law_odd" K11.s__law_odd ["_law_box_here"] f fd := by
      dsimp only [L2.KOf]
      refine' L2.dn_mk KX G ?a ?l ?c ?k (fun _ _ _ _ _ _ us hl => match us, hl with | [_], _ => rfl)
      (case a => k_is); (case l => k_is); (case c => k_is); (case k => k_is)
    have D__law_lists_right : ∃ f fd, L2.Dn (L2.KOf KX) mg "_law_lists_right" "_law_lists_right" K11.s__law_lists_right ["_law_page", "_law_keys_here", "_law_goods"] f fd := by
      dsimp only [L2.KOf]
      refine' L2.dn_mk KX G ?a ?l ?c ?k (fun _ _ _ _ _ _ us hl => match us, hl with | [_, _, _], _ => rfl)
      (case a => k_is); (case l => k_is); (case c => k_is); (case k => k_is)
    have D__law_goods_right : ∃ f fd, L2.Dn (L2.KOf KX) mg "_law_goods_right" "_law_goods_right" K11.s__law_goods_right ["_law_page", "_law_keys_here", "_law_goods"] f fd := by
      dsimp only [L2.KOf]
      refine' L2.dn_mk KX G ?a ?l ?c ?k (fun _ _ _ _ _ _ us hl => match us, hl with | [_, _, _], _ => rfl)
      (case a => k_is); (case l => k_is); (case c => k_is); (case k => k_is)
    have D__law_parts_right : ∃ f fd, L2.Dn (L2.KOf KX) mg "_law_parts_right" "_law_parts_right" K11.s__law_parts_right ["_law_box_here", "_law_page", "_law_keys_here", "_law_goods"] f fd := by
      dsimp only [L2.KOf]
      refine' L2.dn_mk KX G ?a ?l ?c ?k (fun _ _ _ _ _ _ us hl => match us, hl with | [_, _, _, _], _ => rfl)
      (case a => k_is); (case l => k_is); (case c => k_is); (case k => k_is)
    have D__law_page_told : ∃ f fd, L2.Dn (L2.KOf KX) mg "_law_page_told" "_law_page_told" K11.s__law_page_told ["_law_thing"] f fd := by
      dsimp only [L2.KOf]
      refine' L2.dn_mk KX G ?a ?l ?c ?k (fun _ _ _ _ _ _ us hl => match us, hl with | [_], _ => rfl)
      (case a => k_is); (case l => k_is); (case c => k_is); (case k => k_is)
    have D__law_exchanged : ∃ f fd, L2.Dn (L2.KOf KX) mg "_law_exchanged" "_law_exchanged" K11.s__law_exchanged ["_law_keys_here", "_law_goods"] f fd := by
      dsimp only [L2.KOf]
      refine' L2.dn_mk KX G ?a ?l ?c ?k (fun _ _ _ _ _ _ us hl => match us, hl with | [_, _], _ => rfl)
      (case a => k_is); (case l => k_is); (case c => k_is); (case k => k_is)
    have D__law_same_right : ∃ f fd, L2.Dn (L2.KOf KX) mg "_law_same_right" "_law_same_right" K11.s__law_same_right ["_law_page", "_law_keys_here", "_law_goods"] f fd := by
      dsimp only [L2.KOf]
      refine' L2.dn_mk KX G ?a ?l ?c ?k (fun _ _ _ _ _ _ us hl => match us, hl with | [_, _, _], _ => rfl)
      (case a => k_is); (case l => k_is); (case c => k_is); (case k => k_is)
    have D__law_refused : ∃ f fd, L2.Dn (L2.KOf KX) mg "_law_refused" "_law_refused" K11.s__law_refused ["_law_page", "_law_way", "_law_things"] f fd := by
      dsimp only [L2.KOf]
      refine' L2.dn_mk KX G ?a ?l ?c ?k (fun _ _ _ _ _ _ us hl => match us, hl with | [_, _, _], _ => rfl)
      (case a => k_is); (case l => k_is); (case c => k_is); (case k => k_is)
    have D__law_kept_right : ∃ f fd, L2.Dn (L2.KOf KX) mg "_law_kept_right" "_law_kept_right" K11.s__law_kept_right ["_law_page", "_law_way", "_law_things", "_law_due"] f fd := by
      dsimp only [L2.KOf]
      refine' L2.dn_mk KX G ?a ?l ?c ?k (fun _ _ _ _ _ _ us hl => match us, hl with | [_, _, _, _], _ => rfl)
      (case a => k_is); (case l => k_is); (case c => k_is); (case k => k_is)
    have D__law_is_key : ∃ f fd, L2.Dn (L2.KOf KX) mg "_law_is_key" "_law_is_key" K11.s__law_is_key ["_law_thing"] f fd := by
      dsimp only [L2.KOf]
      refine' L2.dn_mk KX G ?a ?l ?c ?k (fun _ _ _ _ _ _ us hl => match us, hl with | [_], _ => rfl)
      (case a => k_is); (case l => k_is); (case c => k_is); (case k => k_is)
    have D__law_refusals_right : ∃ f fd, L2.Dn (L2.KOf KX) mg "_law_refusals_right" "_law_refusals_right" K11.s__law_refusals_right ["_law_box_here", "_law_page"] f fd := by
      dsimp only [L2.KOf]
      refine' L2.dn_mk KX G ?a ?l ?c ?k (fun _ _ _ _ _ _ us hl => match us, hl with | [_, _], _ => rfl)
      (case a => k_is); (case l => k_is); (case c => k_is); (case k => k_is)
    have D_law : ∃ f fd, L2.Dn (L2.KOf KX) mg "law" "law" K11.s_law ["_law_script"] f fd := by
      dsimp only [L2.KOf]
      refine' L2.dn_mk KX G ?a ?l ?c ?k (fun _ _ _ _ _ _ us hl => match us, hl with | [_], _ => rfl)
      (case a => k_is); (case l => k_is); (case c => k_is); (case k => k_is)
    obtain ⟨fd, hb, hf⟩ := K11.last (P := PySem.Challenge.rw_nolocktree_k11_leaves_looked_up.prog) (w := w) T TX ENoKey ENoPage PX LX IX KT Mgood Mpart Mis_kin Mmany Msame D_is_number D_is_whole D_is_key D_is_good D_is_place D_is_row D_is_rising D_in_stretch D_need_key D_are_page_keys D_are_goods D_are_places D__law_cell D__law_box D__law_take D__law_keys D__law_good D__law_leaf D__law_near D__law_odd D__law_lists_right D__law_goods_right D__law_parts_right D__law_page_told D__law_exchanged D__law_same_right D__law_refused D__law_kept_right D__law_is_key D__law_refusals_right D_law hmg
    exact ⟨fd, hb, fun base _ _ => hf base⟩
