import PyProof.Rows.All
import Wide.All
import OpenK.AllK
import Wide.FinOn
import Lean
import PyProof.EqAt
import PyProof.EqKinds
import PyProof.TupleCall
import PyProof.ExcInit
import PyProof.ExcClass3
import PyProof.ExcBaseAll.ValueError
import PyProof.ExcAttrAll.ValueError
import PyProof.ReprRoads
import PyProof.ReprReads
import PyProof.ExcRepr
import PyProof.RaisesMany
import PyProof.StationsW
import PyProof.RulesTry
import PyProof.RulesAs
import PyProof.Draws
import PyProof.EnumMake
import PyProof.EnumFor
import PyProof.ReprLen
import PyProof.ConsumeWalk
import PyProof.WalksMore
import PyProof.ListRange
import PyProof.Rows.SetFrom
import PyProof.SetRoads
import PyProof.FactsAll.subtypes_4
import PyProof.CollectStr
import PyProof.DictWalks
import PyProof.Rows.SortWalk
import PyProof.ZipIter
import PyProof.DictList
import PyProof.DictUpdate
import PyProof.MeetsSeq2
import PyProof.AttrMissHeap
import PyProof.TupleIter
import PyProof.FactsAll.zip
import KE.KDictOf
import KE.KEqDict
import PyProof.NsDelKeeps
import PySem.Challenge.RW_nolocktree_k12_goods_put_and_taken
set_option Elab.async false
set_option linter.all false
set_option maxRecDepth 100000
namespace L2
open PySem PySem.Spec PyProof.Rows

abbrev Key := Sum Int Str
def keyIs : Key → Value → Bool
  | .inl k, v => Value.isInt k v
  | .inr x, v => Value.isStrOf x v
def keyH (w : World) : Key → Int
  | .inl k => hashInt k
  | .inr x => hashStr w x
theorem keyIs_shape : ∀ {k : Key} {v : Value}, keyIs k v = true → (∃ i t, k = Sum.inl i ∧ v = Value.int i t) ∨ (∃ x t, k = Sum.inr x ∧ v = Value.str x t)
  | .inl i, v, h => by
    obtain ⟨t, e⟩ := Value.isInt_shape (k := i) (v := v) h
    exact .inl ⟨i, t, rfl, e⟩
  | .inr x, v, h => by
    obtain ⟨t, e⟩ := Value.isStrOf_shape (x := x) (v := v) h
    exact .inr ⟨x, t, rfl, e⟩
theorem keyIs_int (i : Int) (t : Tok) : keyIs (.inl i) (.int i t) = true := by simp [keyIs, Value.isInt]
theorem keyIs_str (x : Str) (t : Tok) : keyIs (.inr x) (.str x t) = true := by simp [keyIs, Value.isStrOf]
theorem key_ll (a b : Int) : decide ((Sum.inl a : Key) = Sum.inl b) = (a == b) := by
  by_cases e : a = b
  · subst e; simp
  · have h : ¬ (Sum.inl a : Key) = Sum.inl b := fun q => e (Sum.inl.inj q)
    rw [decide_eq_false h]
    exact (beq_eq_false_iff_ne.mpr e).symm
theorem key_rr (a b : Str) : decide ((Sum.inr a : Key) = Sum.inr b) = decide (a = b) := by
  by_cases e : a = b
  · subst e; simp
  · have h : ¬ (Sum.inr a : Key) = Sum.inr b := fun q => e (Sum.inr.inj q)
    rw [decide_eq_false h, decide_eq_false e]
theorem key_lr (a : Int) (b : Str) : decide ((Sum.inl a : Key) = Sum.inr b) = false := decide_eq_false (fun q => nomatch q)
theorem key_rl (a : Str) (b : Int) : decide ((Sum.inr a : Key) = Sum.inl b) = false := decide_eq_false (fun q => nomatch q)

def mixKind (prog : Program) (w : World) : PySem.KeyKind prog w Key where
  is := keyIs
  hash := keyH w
  inj := fun v a b ha hb => by
    rcases keyIs_shape ha with ⟨i, t, rfl, rfl⟩ | ⟨x, t, rfl, rfl⟩
    · rcases keyIs_shape hb with ⟨j, u, rfl, e⟩ | ⟨y, u, rfl, e⟩
      · injection e with e1 _; rw [e1]
      · exact nomatch e
    · rcases keyIs_shape hb with ⟨j, u, rfl, e⟩ | ⟨y, u, rfl, e⟩
      · exact nomatch e
      · injection e with e1 _; rw [e1]
  byValue := fun k v h => by
    rcases keyIs_shape h with ⟨i, t, rfl, rfl⟩ | ⟨x, t, rfl, rfl⟩ <;> rfl
  pyHash := fun hv h => by
    rcases keyIs_shape hv with ⟨i, t, rfl, rfl⟩ | ⟨x, t, rfl, rfl⟩
    · exact wpAny_pyHash_int h
    · exact wpAny_pyHash_str h
  eqBool := fun hu hv h => by
    rcases keyIs_shape hu with ⟨i, t, rfl, rfl⟩ | ⟨x, t, rfl, rfl⟩
    · rcases keyIs_shape hv with ⟨j, u, rfl, rfl⟩ | ⟨y, u, rfl, rfl⟩
      · rw [key_ll] at h; exact wpAny_eqBool_int h
      · rw [key_lr] at h; exact SeqAt.EqAt.int_str i t y u _ _ _ _ h
    · rcases keyIs_shape hv with ⟨j, u, rfl, rfl⟩ | ⟨y, u, rfl, rfl⟩
      · rw [key_rl] at h; exact SeqAt.EqAt.str_int x t j u _ _ _ _ h
      · rw [key_rr] at h; exact wpAny_eqBool_str h
  «strs» := fun k x t v h => by
    rcases keyIs_shape h with ⟨i, u, rfl, e⟩ | ⟨y, u, rfl, e⟩
    · exact nomatch e
    · injection e with e1 _
      subst e1
      cases v <;> rfl

theorem mixKind_is (prog : Program) (w : World) (k : Key) (v : Value) : (mixKind prog w).is k v = keyIs k v := rfl
theorem mixKind_int (prog : Program) (w : World) (i : Int) (t : Tok) : (mixKind prog w).is (.inl i) (.int i t) = true := keyIs_int i t
theorem mixKind_str (prog : Program) (w : World) (x : Str) (t : Tok) : (mixKind prog w).is (.inr x) (.str x t) = true := keyIs_str x t
end L2

namespace L2
open PySem PySem.Spec PyProof.Rows

inductive V where
  | non | bl (b : Bool) | int (i : Int) | str (x : Str) | byt (b : Array UInt8) | flt (b : UInt64) | ref (a : Addr) | ty (n : String)
  deriving DecidableEq

def RelV : V → Value → Prop
  | .non, u => u = Value.none
  | .bl b, u => u = Value.bool b
  | .int i, u => ∃ t, u = Value.int i t
  | .str x, u => ∃ t, u = Value.str x t
  | .byt b, u => ∃ t, u = Value.bytes b t
  | .flt b, u => ∃ t, u = Value.float b t
  | .ref a, u => u = Value.ref a
  | .ty n, u => u = Value.type n

abbrev Vals : List V → List Value → Prop := Paired RelV
theorem Vals.length {xs : List V} {us : List Value} (r : Vals xs us) : xs.length = us.length := Paired.length r
theorem Vals.get : ∀ {xs : List V} {us : List Value} {i : Nat} {x : V}, Vals xs us → xs[i]? = some x → ∃ u, us[i]? = some u ∧ RelV x u
  | _, _, _, _, .nil, e => by simp at e
  | _, _, 0, _, .cons r _, e => by simp at e; subst e; exact ⟨_, rfl, r⟩
  | _, _, i + 1, x, .cons _ t, e => by
    obtain ⟨u, h1, h2⟩ := Vals.get (i := i) (x := x) t (by simpa using e)
    exact ⟨u, by simpa using h1, h2⟩
theorem Vals.set {x : V} {u : Value} (r : RelV x u) : ∀ {xs : List V} {us : List Value} (i : Nat), Vals xs us → Vals (xs.set i x) (us.set i u)
  | _, _, _, .nil => .nil
  | _, _, 0, .cons _ t => .cons r t
  | _, _, i + 1, .cons q t => .cons q (Vals.set r i t)
theorem Vals.append : ∀ {xs ys : List V} {us ws : List Value}, Vals xs us → Vals ys ws → Vals (xs ++ ys) (us ++ ws)
  | _, _, _, _, .nil, s => s
  | _, _, _, _, .cons r t, s => .cons r (Vals.append t s)
theorem Vals.take : ∀ {xs : List V} {us : List Value} (n : Nat), Vals xs us → Vals (xs.take n) (us.take n)
  | _, _, 0, _ => .nil
  | _, _, _ + 1, .nil => .nil
  | _, _, n + 1, .cons r t => .cons r (Vals.take n t)
theorem Vals.drop : ∀ {xs : List V} {us : List Value} (n : Nat), Vals xs us → Vals (xs.drop n) (us.drop n)
  | _, _, 0, r => r
  | _, _, _ + 1, .nil => .nil
  | _, _, n + 1, .cons _ t => Vals.drop n t
theorem Vals.none_of : ∀ {xs : List V} {us : List Value} {i : Nat}, Vals xs us → xs[i]? = none → us[i]? = none := fun {xs us i} r e => by
  have h1 := r.length
  have h2 : xs.length ≤ i := List.getElem?_eq_none_iff.mp e
  exact List.getElem?_eq_none_iff.mpr (by omega)

def RelO : Option V → Option Value → Prop
  | some v, some u => RelV v u
  | none, none => True
  | _, _ => False
def KV {κ : Type} : List (κ × V) → List (κ × Value) → Prop := Paired fun (p : κ × V) (q : κ × Value) => p.1 = q.1 ∧ RelV p.2 q.2

def kV : Key → V
  | .inl i => .int i
  | .inr x => .str x

inductive HO where
  /-- a list -/
  | lst (xs : List V)
  /-- a tuple (never changes) -/
  | tup (xs : List V)
  /-- a dict whose keys are ints and texts; one whose keys are tuples of ints and texts (the empty one is both) -/
  | dK (kvs : List (Key × V)) | dT (kvs : List (List Key × V))
  /-- a set of ints: its members, its size -/
  | set (S : Int → Bool) (n : Nat)
  /-- an instance of the class at C, its dict at dx, its attributes -/
  | ins (C dx : Addr) (fs : List (Str × V))
  /-- the dict of the instance at x -/
  | own (x : Addr)
  /-- the dict of an exception -/
  | xd (fs : List (Str × V))
  /-- a bound method, f of x -/
  | met (f x : Addr)
  /-- a range object lo, lo + 1, .. below hi -/
  | rng (lo hi : Int)
  /-- a thing that is known to the object (the script; a dict while a loop walks it): read, never written while it is so -/
  | frz (o : Obj) (u : HO)
  /-- a code object's table -/
  | tbl (ps : Array Value)
  /-- any other thing, by what is true of its one object (a def of one's own: SetO a S n := HO.ext fun h => ..) -/
  | ext (φ : Heap → Prop)

abbrev Hp := Addr → Option HO
def upd (H : Hp) (a : Addr) (o : HO) : Hp := fun b => if b = a then some o else H b
theorem upd_same {H : Hp} {a : Addr} {o : HO} : upd H a o a = some o := by unfold upd; rw [if_pos rfl]
theorem upd_ne {H : Hp} {a b : Addr} {o : HO} (h : b ≠ a) : upd H a o b = H b := by unfold upd; rw [if_neg h]
theorem upd_upd {H : Hp} {a : Addr} {o u : HO} : upd (upd H a o) a u = upd H a u := by
  funext b; unfold upd; split <;> rfl
theorem ne_of {H : Hp} {a b : Addr} {o u : HO} (h : H a = some o) (h' : H b = some u) (d : o ≠ u) : a ≠ b := by
  intro e; subst e; rw [h] at h'; exact d (Option.some.inj h')
theorem ne_of_none {H : Hp} {a b : Addr} {o : HO} (h : H a = some o) (h' : H b = none) : a ≠ b := by
  intro e; subst e; rw [h] at h'; cases h'

theorem tup_nodict {h : Heap} {xs : Array Value} : ∀ o, (h.push { cls := .type "tuple", data := .seq xs }).get? h.objs.size = some o → o.dict = none := fun o e => by
  rw [Heap.get?_push_size _ rfl] at e
  cases e
  rfl
section
variable (P : Program) (w : World)
def ObjOk (H : Hp) (h : Heap) (a : Addr) : HO → Prop
  | .lst xs => xs.length ≤ sizeLine ∧ ∃ (its : List Value) (n : Nat), Vals xs its ∧ h.get? a = some { cls := .type "list", data := .seq its.toArray n }
  | .tup xs => xs.length ≤ sizeLine ∧ ∃ its : List Value, Vals xs its ∧ IsTup h a its.toArray ∧ ∀ o, h.get? a = some o → o.dict = none
  | .dK kvs => kvs.length ≤ sizeLine ∧ (a == sysModules) = false ∧ ∃ vs, KV kvs vs ∧ h.DictOf (mixKind P w) a vs
  | .dT kvs => kvs.length ≤ sizeLine ∧ (a == sysModules) = false ∧ ∃ xs : List (List Key × Addr × Value),
      Paired (fun (p : List Key × V) (q : List Key × Addr × Value) => p.1 = q.1 ∧ H q.2.1 = some (.tup (p.1.map kV)) ∧ RelV p.2 q.2.2) kvs xs ∧
      ∃ o es ep, h.get? a = some o ∧ o.ExactDict ∧ o.data = .dict es ep ∧ es.toList = xs.map (entryOfKey (tupleKind (mixKind P w))) ∧ (xs.map (·.1)).Nodup
  | .set S n => h.SetOf (intKind P w) a S n
  | .ins C dx fs => H dx = some (.own a) ∧ fs.length ≤ 1000 ∧ dx ≠ a ∧ h.get? a = some (PySem.W.instObj C dx) ∧
      ∃ mA, h.Ns1 dx mA ∧ (∀ f, RelO (fs.lookup f) (mA f)) ∧ PySem.Within mA (fs.map (·.1))
  | .own _ => ∃ o, h.get? a = some o
  | .xd fs => ∃ mA, h.Ns1 a mA ∧ ∀ f, RelO (fs.lookup f) (mA f)
  | .rng lo hi => ∃ t u v, h.get? a = some { cls := .type "range", data := .fields #[.int lo t, .int hi u, .int 1 v] }
  | .frz o u => h.get? a = some o ∧ ObjOk H h a u
  | .tbl ps => h.get? a = some { cls := .none, data := .fields ps }
  | .met f x => h.get? a = some (PySem.W.methodObj (.ref f) (.ref x))
  | .ext φ => φ h ∧ (∃ o, h.get? a = some o) ∧ ∀ h1 h2 : Heap, φ h1 → (∀ o, h1.get? a = some o → h2.get? a = some o) → φ h2
def HOk (H : Hp) (h : Heap) : Prop := ∀ a o, H a = some o → ObjOk P w H h a o
end

section
variable {P : Program} {w : World} {H H' : Hp} {h h' : Heap} {a : Addr} {o : HO}
theorem ObjOk.lt (x : ObjOk P w H h a o) : a < h.objs.size := by
  cases o with
  | lst xs => obtain ⟨_, _, _, _, e⟩ := x; exact Heap.lt_size e
  | tup xs => obtain ⟨_, _, _, p, _⟩ := x; exact p.lt
  | dK kvs => obtain ⟨_, _, _, _, o, _, _, e, _⟩ := x; exact Heap.lt_size e
  | dT kvs => obtain ⟨_, _, _, _, o, _, _, e, _⟩ := x; exact Heap.lt_size e
  | set S n => obtain ⟨o, _, _, _, e, _⟩ := x; exact Heap.lt_size e
  | ins C dx fs => obtain ⟨_, _, _, e, _⟩ := x; exact Heap.lt_size e
  | own y => obtain ⟨_, e⟩ := x; exact Heap.lt_size e
  | xd fs => obtain ⟨_, ⟨_, _, _, e, _⟩, _⟩ := x; exact Heap.lt_size e
  | rng lo hi => obtain ⟨_, _, _, e⟩ := x; exact Heap.lt_size e
  | frz ob u => obtain ⟨e, _⟩ := x; exact Heap.lt_size e
  | tbl ps => exact Heap.lt_size (show h.get? a = some _ from x)
  | met f y => exact Heap.lt_size (show h.get? a = some _ from x)
  | ext φ => obtain ⟨_, ⟨_, e⟩, _⟩ := x; exact Heap.lt_size e
theorem Paired.mapP {α β : Type} {F G : α → β → Prop} : ∀ {l₁ : List α} {l₂ : List β}, Paired F l₁ l₂ → (∀ a b, F a b → G a b) → Paired G l₁ l₂
  | _, _, .nil, _ => .nil
  | _, _, .cons r t, f => .cons (f _ _ r) (Paired.mapP t f)
theorem ObjOk.stay (x : ObjOk P w H h a o) (k : ∀ b u, (b = a ∨ H b = some (.own a)) → h.get? b = some u → h'.get? b = some u)
    (ho : ∀ b, H b = some (.own a) → H' b = some (.own a)) (ht : ∀ b xs, H b = some (.tup xs) → H' b = some (.tup xs)) : ObjOk P w H' h' a o := by
  induction o with
  | lst xs => obtain ⟨z, its, n, r, e⟩ := x; exact ⟨z, its, n, r, k _ _ (.inl rfl) e⟩
  | tup xs =>
    obtain ⟨z, its, r, ⟨ob, e, c⟩, dn⟩ := x
    have e2 := k _ _ (.inl rfl) e
    exact ⟨z, its, r, ⟨ob, e2, c⟩, fun o q => by rw [e2] at q; cases q; exact dn _ e⟩
  | dK kvs => obtain ⟨z, y, vs, r, ob, es, ep, e, c⟩ := x; exact ⟨z, y, vs, r, ob, es, ep, k _ _ (.inl rfl) e, c⟩
  | dT kvs =>
    obtain ⟨z, y, xs, r, ob, es, ep, e, c⟩ := x
    exact ⟨z, y, xs, Paired.mapP r fun p q z => ⟨z.1, ht _ _ z.2.1, z.2.2⟩, ob, es, ep, k _ _ (.inl rfl) e, c⟩
  | set S n => obtain ⟨ob, es, ep, t, e, c⟩ := x; exact ⟨ob, es, ep, t, k _ _ (.inl rfl) e, c⟩
  | ins C dx fs =>
    obtain ⟨d, z, ne, e, mA, ⟨od, es, ep, e2, c⟩, r⟩ := x
    exact ⟨ho _ d, z, ne, k _ _ (.inl rfl) e, mA, ⟨od, es, ep, k _ _ (.inr d) e2, c⟩, r⟩
  | own y => obtain ⟨ob, e⟩ := x; exact ⟨ob, k _ _ (.inl rfl) e⟩
  | xd fs => obtain ⟨mA, ⟨od, es, ep, e, c⟩, r⟩ := x; exact ⟨mA, ⟨od, es, ep, k _ _ (.inl rfl) e, c⟩, r⟩
  | rng lo hi => obtain ⟨t, u, v, e⟩ := x; exact ⟨t, u, v, k _ _ (.inl rfl) e⟩
  | frz ob u ih => obtain ⟨e, q⟩ := x; exact ⟨k _ _ (.inl rfl) e, ih q⟩
  | tbl ps =>
    have e : h.get? a = some { cls := .none, data := .fields ps } := x
    show h'.get? a = some { cls := .none, data := .fields ps }
    exact k a _ (.inl rfl) e
  | met f y =>
    have e : h.get? a = some (PySem.W.methodObj (.ref f) (.ref y)) := x
    show h'.get? a = some (PySem.W.methodObj (.ref f) (.ref y))
    exact k a _ (.inl rfl) e
  | ext φ => obtain ⟨p, ⟨o, e⟩, st⟩ := x; exact ⟨st _ _ p fun o q => k _ _ (.inl rfl) q, ⟨o, k _ _ (.inl rfl) e⟩, st⟩
theorem HOk.lt (x : HOk P w H h) (e : H a = some o) : a < h.objs.size := (x a o e).lt
theorem HOk.fresh (x : HOk P w H h) (e : h.objs.size ≤ a) : H a = none := by
  cases q : H a with
  | none => rfl
  | some u => exact absurd (Nat.lt_of_lt_of_le (x.lt q) e) (Nat.lt_irrefl _)
theorem HOk.kept (x : HOk P w H h) (k : ∀ b u, h.get? b = some u → h'.get? b = some u) : HOk P w H h' := fun a o e =>
  (x a o e).stay (fun b u _ q => k b u q) (fun _ q => q) fun _ _ q => q
theorem HOk.laid (x : HOk P w H h) (k : ∀ b u, h.get? b = some u → h'.get? b = some u) (hp : h.objs.size ≤ a) (new : ObjOk P w (upd H a o) h' a o) : HOk P w (upd H a o) h' := fun b u e => by
  have hn := x.fresh hp
  by_cases hb : b = a
  · subst hb; rw [upd_same] at e; cases e; exact new
  · rw [upd_ne hb] at e
    exact (x b u e).stay (fun c v _ q => k c v q) (fun c q => by rw [upd_ne (ne_of_none q hn)]; exact q) fun c xs q => by rw [upd_ne (ne_of_none q hn)]; exact q
end

def Rd (H : Hp) (a : Addr) (u : HO) : Prop := H a = some u ∨ ∃ o, H a = some (.frz o u)
theorem Rd.of {H : Hp} {a : Addr} {u : HO} (h : H a = some u) : Rd H a u := .inl h
theorem Rd.ok {P : Program} {w : World} {H : Hp} {h : Heap} {a : Addr} {u : HO} (r : Rd H a u) (x : HOk P w H h) : ObjOk P w H h a u := by
  rcases r with r | ⟨o, r⟩
  · exact x a u r
  · obtain ⟨_, q⟩ := x a _ r
    exact q
def Mut : Option HO → Prop
  | some (.lst _) => True
  | some (.dK _) => True
  | some (.dT _) => True
  | some (.set _ _) => True
  | some (.ins _ _ _) => True
  | some (.ext _) => True
  | _ => False
section
variable {P : Program} {w : World} {H : Hp} {h h' : Heap} {x e : Addr} {o' : HO}
theorem HOk.write (ok : HOk P w H h) (mu : Mut (H x)) (he : e = x ∨ H e = some (.own x)) (k : ∀ b u, b ≠ e → h.get? b = some u → h'.get? b = some u) (heo : ∃ u, h'.get? e = some u)
    (new : ObjOk P w (upd H x o') h' x o') : HOk P w (upd H x o') h' := fun b u q => by
  have nown : ∀ c y, H c = some (.own y) → c ≠ x := fun c y r z => by subst z; rw [r] at mu; exact mu
  have ntup : ∀ c xs, H c = some (.tup xs) → c ≠ x := fun c xs r z => by subst z; rw [r] at mu; exact mu
  by_cases hb : b = x
  · subst hb; rw [upd_same] at q; cases q; exact new
  · rw [upd_ne hb] at q
    by_cases hbe : b = e
    · have q' : H b = some (.own x) := by
        rcases he with z | z
        · exact absurd (hbe.trans z) hb
        · rw [hbe]; exact z
      rw [q] at q'; cases q'
      obtain ⟨v, hv⟩ := heo
      exact ⟨v, by rw [hbe]; exact hv⟩
    · refine (ok b u q).stay (fun c v hc r => k c v ?_ r) (fun c r => by rw [upd_ne (nown c b r)]; exact r) fun c xs r => by rw [upd_ne (ntup c xs r)]; exact r
      rcases hc with rfl | hc
      · exact hbe
      · rintro rfl
        rcases he with z | z
        · exact nown c b hc z
        · rw [hc] at z; cases z; exact hb rfl
end

structure Un (fs ex : List Addr) (H H' : Hp) (h h' : Heap) : Prop where
  keep : ∀ b o, h.get? b = some o → H b = none → b ∉ fs → b ∉ ex → h'.get? b = some o
  slot : ∀ b o, h.get? b = some o → H b = none → b ∈ fs → b ∉ ex → ∃ sl, h'.get? b = some { o with slots := sl }
  free : ∀ b o, h.get? b = some o → H b = none → b ∉ ex → H' b = none
  there : ∀ b o, h.get? b = some o → b ∉ ex → ∃ o', h'.get? b = some o'
  tups : ∀ b xs, H b = some (.tup xs) → H' b = some (.tup xs)
  frzs : ∀ b o u, H b = some (.frz o u) → H' b = some (.frz o u)
  tbls : ∀ b ps, H b = some (.tbl ps) → ∃ more, H' b = some (.tbl (ps ++ more))
section
variable {fs fs' ex ex' : List Addr} {H H1 H2 : Hp} {h h1 h2 h' : Heap} {a x e : Addr} {o : HO}
theorem Un.any (u : Un fs ex H H1 h h1) {b : Addr} {ob : Obj} (q : h.get? b = some ob) (n : H b = none) (hx : b ∉ ex) : ∃ sl, h1.get? b = some { ob with slots := sl } := by
  by_cases hb : b ∈ fs
  · exact u.slot b ob q n hb hx
  · exact ⟨ob.slots, u.keep b ob q n hb hx⟩
theorem Un.trans (a : Un fs ex H H1 h h1) (b : Un fs ex H1 H2 h1 h2) : Un fs ex H H2 h h2 where
  keep := fun c ob q n hc hx => b.keep c ob (a.keep c ob q n hc hx) (a.free c ob q n hx) hc hx
  slot := fun c ob q n hc hx => by
    obtain ⟨sl, e1⟩ := a.slot c ob q n hc hx
    obtain ⟨sl', e2⟩ := b.slot c _ e1 (a.free c ob q n hx) hc hx
    exact ⟨sl', e2⟩
  free := fun c ob q n hx => by
    obtain ⟨o', e1⟩ := a.there c ob q hx
    exact b.free c o' e1 (a.free c ob q n hx) hx
  there := fun c ob q hx => by
    obtain ⟨o', e1⟩ := a.there c ob q hx
    exact b.there c o' e1 hx
  tups := fun c xs q => b.tups c xs (a.tups c xs q)
  frzs := fun c ob xs q => b.frzs c ob xs (a.frzs c ob xs q)
  tbls := fun c ps q => by
    obtain ⟨m1, e1⟩ := a.tbls c ps q
    obtain ⟨m2, e2⟩ := b.tbls c _ e1
    exact ⟨m1 ++ m2, by rw [e2, Array.append_assoc]⟩
theorem Un.kept (k : ∀ b u, h.get? b = some u → h'.get? b = some u) : Un fs ex H H h h' :=
  ⟨fun b ob q _ _ _ => k b ob q, fun b ob q _ _ _ => ⟨ob.slots, k b ob q⟩, fun _ _ _ n _ => n, fun b ob q _ => ⟨ob, k b ob q⟩, fun _ _ q => q, fun _ _ _ q => q, fun _ ps q => ⟨#[], by rw [q]; simp⟩⟩
theorem Un.refl : Un fs ex H H h h := Un.kept fun _ _ q => q
theorem Un.laid (k : ∀ b u, h.get? b = some u → h'.get? b = some u) (hp : h.objs.size ≤ a) (hn : H a = none) : Un fs ex H (upd H a o) h h' where
  keep := fun b u q _ _ _ => k b u q
  slot := fun b u q _ _ _ => ⟨u.slots, k b u q⟩
  free := fun b u q n _ => by rw [upd_ne (Nat.ne_of_lt (Nat.lt_of_lt_of_le (Heap.lt_size q) hp))]; exact n
  there := fun b u q _ => ⟨u, k b u q⟩
  tups := fun b xs q => by rw [upd_ne (ne_of_none q hn)]; exact q
  frzs := fun b u xs q => by rw [upd_ne (ne_of_none q hn)]; exact q
  tbls := fun b ps q => ⟨#[], by rw [upd_ne (ne_of_none q hn), q]; simp⟩
theorem Un.write (mu : Mut (H x)) (he : e = x ∨ H e = some (.own x)) (k : ∀ b u, b ≠ e → h.get? b = some u → h'.get? b = some u) (heo : ∃ u, h'.get? e = some u) : Un fs ex H (upd H x o) h h' := by
  have hx : ∀ b, H b = none → b ≠ x := fun b n z => by subst z; rw [n] at mu; exact mu
  have hb : ∀ b, H b = none → b ≠ e := fun b n z => by
    subst z
    rcases he with r | r
    · exact hx b n r
    · rw [n] at r; cases r
  have hm : ∀ b u, H b = some u → ¬ Mut (some u) → b ≠ x := fun b u q nm z => by subst z; rw [q] at mu; exact nm mu
  refine ⟨fun b u q n _ _ => k b u (hb b n) q, fun b u q n _ _ => ⟨u.slots, k b u (hb b n) q⟩, fun b u q n _ => by rw [upd_ne (hx b n)]; exact n, fun b u q _ => ?_,
    fun b xs q => by rw [upd_ne (hm b _ q fun z => z)]; exact q, fun b u xs q => by rw [upd_ne (hm b _ q fun z => z)]; exact q, fun b ps q => ⟨#[], by rw [upd_ne (hm b _ q fun z => z), q]; simp⟩⟩
  by_cases hbe : b = e
  · subst hbe; exact heo
  · exact ⟨u, k b u hbe q⟩
theorem Un.mono (u : Un fs ex H H1 h h1) (hs : ∀ b ∈ fs, b ∈ fs') (hx : ∀ b ∈ ex, b ∈ ex') : Un fs' ex' H H1 h h1 :=
  ⟨fun b ob q n hb he => u.keep b ob q n (fun z => hb (hs b z)) fun z => he (hx b z), fun _ _ q n _ he => u.any q n fun z => he (hx _ z), fun b ob q n he => u.free b ob q n fun z => he (hx b z), fun b ob q he => u.there b ob q fun z => he (hx b z), u.tups, u.frzs, u.tbls⟩
end

def trk (h : Heap) (H : Hp) : List Addr := (List.range h.objs.size).filter fun a => (H a).isSome
def hidT (h : Heap) (H : Hp) : Heap := PySem.W.hideAll h (trk h H)
theorem hidT_size (h : Heap) (H : Hp) : (hidT h H).objs.size = h.objs.size := PySem.W.hideAll_size _ _
theorem hidT_get {h : Heap} {H : Hp} {b : Addr} {o : Obj} (e : h.get? b = some o) (n : H b = none) : (hidT h H).get? b = some o :=
  PySem.W.hideAll_get _ e fun hm => by
    have q : (H b).isSome = true := (List.mem_filter.mp hm).2
    rw [n] at q; simp at q
theorem of_hidT {h : Heap} {H : Hp} {b : Addr} {o : Obj} (e : (hidT h H).get? b = some o) : h.get? b = some o ∧ H b = none := by
  have e' : h.get? b = some o := PySem.W.of_hideAll (trk h H) e
  refine ⟨e', ?_⟩
  cases q : H b with
  | none => rfl
  | some x =>
    have hm : b ∈ trk h H := List.mem_filter.mpr ⟨List.mem_range.mpr (Heap.lt_size e'), by simp [q]⟩
    have z : (hidT h H).get? b = none := PySem.W.hideAll_none (trk h H) hm
    rw [z] at e; cases e

def allNews (g h : Heap) (L : Addr) : List (Addr × Obj) := (List.range h.objs.size).filterMap fun a => if a = L ∨ (g.get? a).isSome = true then none else (h.get? a).map fun o => (a, o)
def rest (g h : Heap) (L d : Addr) : List (Addr × Obj) := (allNews g h L).filter fun p => decide (p.1 ≠ d)
end L2

namespace L2
open PySem PySem.Spec PyProof.Rows

structure Mod (K : PySem.W.Frag) (mg : Str → Option Value) (base : Heap) : Prop where
  kin : K.In base
  glob : base.Ns mainGlobals mg
  blt : ∃ mb, base.Ns builtinsNs mb ∧ ∀ x : Str, x ≠ "__name__" → mb x = bootBuiltins x
  nolimit : base.NoLimit

structure Cx where
  prog : Program
  w : World
  K : PySem.W.Frag
  mg : Str → Option Value
  base : Heap
  A : Around
  N : List Str
  s₀ : Shared
  H₀ : Hp
  env : Env
  outer : List Env
  stack : List Env
  ex : List Addr
  fn : Str → Bool
  calm : Bool
  pn : List (Addr × Obj)
  xe : Value → Shared → Prop
def frs (l : List Env) : List Addr := l.filterMap (·.frame)
abbrev Cx.fs (X : Cx) : List Addr := frs X.outer

def Vis (sc : Scope) (x : Str) : Prop := sc.names.lookup x = some .local ∨ sc.names.lookup x = some .cell ∨ sc.names.lookup x = some .free
def Loc (sc : Scope) (x : Str) : Prop := sc.names.lookup x = some .local ∨ sc.names.lookup x = some .cell
def Look (env : Env) (h : Heap) (m : Str → Option Value) (x : Str) (u : Value) : Prop :=
  (env.kindOf x = some .local ∧ m x = some u) ∨ ((env.kindOf x = some .cell ∨ env.kindOf x = some .free) ∧ ∃ c, env.cells.lookup x = some c ∧ h.IsCell c (some u))

structure Cx.Ok (X : Cx) : Prop where
  mod : Mod X.K X.mg X.base
  kind : X.env.scope.kind = .function
  glob : X.env.globals = mainGlobals
  blt : X.env.builtins = builtinsNs
  above : X.s₀.heap.objs.size ≤ X.env.locals
  inj : ∀ x y c, X.env.cells.lookup x = some c → X.env.cells.lookup y = some c → x = y
  has : ∀ x, (X.env.kindOf x = some .cell ∨ X.env.kindOf x = some .free) → ∃ c, X.env.cells.lookup x = some c
  cab : ∀ x c, X.fn x = true → X.env.cells.lookup x = some c → X.s₀.heap.objs.size ≤ c
  hd : X.calm = true → X.A.handled = none
  frames : X.A.frames = some X.stack
  stk : X.stack = X.outer ∨ (X.stack = X.env :: X.outer ∧ X.env.frame = some X.env.locals)
  exf : ∀ b ∈ X.ex, b ≠ X.env.locals ∧ ∀ x c, X.env.cells.lookup x = some c → c ≠ b
  bs : ∀ b o, X.base.get? b = some o → X.s₀.heap.get? b = some o ∧ X.H₀ b = none
  bsz : X.base.objs.size ≤ X.s₀.heap.objs.size
  noex : ∀ b o, X.base.get? b = some o → b ∉ X.ex
  exfs : ∀ b ∈ X.ex, b ∉ X.fs
  funs : X.s₀.heap.FunFrames X.base X.outer
  frf : ∀ b ∈ X.fs, X.H₀ b = none

structure Inv (X : Cx) (pins : List (Addr × Obj)) (σ : List (Option V)) (H : Hp) (s : Shared) : Prop where
  ok : X.Ok
  os : s.os = X.s₀.os
  bare : AllBare s.gens
  base : Un X.fs X.ex X.H₀ H X.s₀.heap s.heap
  loc : ∃ m, s.heap.Ns X.env.locals m ∧ ∀ (i : Nat) (x : Str) (v : V), X.N[i]? = some x → σ[i]? = some (some v) → Vis X.env.scope x → ∃ u, RelV v u ∧ Look X.env s.heap m x u
  cell : ∀ x c, X.env.cells.lookup x = some c → ∃ v, s.heap.IsCell c v
  free : H X.env.locals = none
  freeC : ∀ x c, X.env.cells.lookup x = some c → H c = none
  pin : ∀ p ∈ X.pn ++ pins, s.heap.get? p.1 = some p.2 ∧ H p.1 = none ∧ p.1 ≠ X.env.locals ∧ p.1 ∉ X.fs ∧ ∀ v, p.2.data ≠ .cell v
  hok : HOk X.prog X.w H s.heap
  len : σ.length = X.N.length

section
variable {X : Cx} {pins : List (Addr × Obj)} {σ : List (Option V)} {H H' : Hp} {s : Shared} {h' : Heap}

theorem Cx.Ok.nofr (ok : X.Ok) {b : Addr} {o : Obj} (e : X.base.get? b = some o) : b ∉ X.fs := fun hb => by
  have := (ok.funs.mem hb).1
  rw [e] at this; cases this
theorem Inv.bs (I : Inv X pins σ H s) : ∀ b o, X.base.get? b = some o → s.heap.get? b = some o ∧ H b = none := fun b o e =>
  ⟨I.base.keep b o (I.ok.bs b o e).1 (I.ok.bs b o e).2 (I.ok.nofr e) (I.ok.noex b o e), I.base.free b o (I.ok.bs b o e).1 (I.ok.bs b o e).2 (I.ok.noex b o e)⟩
theorem Inv.bk (I : Inv X pins σ H s) : ∀ b o, X.base.get? b = some o → s.heap.get? b = some o := fun b o e => (I.bs b o e).1
theorem Inv.mod (I : Inv X pins σ H s) : Mod X.K X.mg X.base := I.ok.mod
theorem Inv.kIn (I : Inv X pins σ H s) : X.K.In s.heap := I.ok.mod.kin.keeps I.bk
theorem Inv.nolimit (I : Inv X pins σ H s) : s.heap.NoLimit := I.ok.mod.nolimit.keeps I.bk
theorem Inv.fr (I : Inv X pins σ H s) : ∃ m, Fr X.base X.env.locals s.heap m :=
  let ⟨m, hn, _⟩ := I.loc
  ⟨m, hn, I.bk, Nat.le_trans I.ok.bsz I.ok.above⟩
theorem Inv.lt (I : Inv X pins σ H s) : X.env.locals < s.heap.objs.size := let ⟨_, hn, _⟩ := I.loc; hn.lt
theorem Inv.sz (I : Inv X pins σ H s) : X.s₀.heap.objs.size ≤ s.heap.objs.size := Nat.le_trans I.ok.above (Nat.le_of_lt I.lt)
theorem Inv.nofs (I : Inv X pins σ H s) {a : Addr} (h : s.heap.objs.size ≤ a) : a ∉ X.fs := fun hb => by
  obtain ⟨_, o, ho, _⟩ := I.ok.funs.mem hb
  exact absurd (Nat.lt_of_lt_of_le (Heap.lt_size ho) (Nat.le_trans I.sz h)) (Nat.lt_irrefl _)
theorem Inv.cne (I : Inv X pins σ H s) : ∀ x c, X.env.cells.lookup x = some c → c ≠ X.env.locals := fun x c e z => by
  obtain ⟨v, o, ho, hd⟩ := I.cell x c e
  obtain ⟨m, ⟨o', es, ep, ho', hd', _⟩, _⟩ := I.loc
  rw [z, ho'] at ho; cases ho; rw [hd'] at hd; cases hd
theorem Inv.funs (I : Inv X pins σ H s) : s.heap.FunFrames X.base X.outer := by
  have all : ∀ (l : List Env), (∀ b ∈ frs l, b ∈ X.fs) → X.s₀.heap.FunFrames X.base l → s.heap.FunFrames X.base l := by
    intro l
    induction l with
    | nil => intro _ _; trivial
    | cons env r ih =>
      intro hs hl
      obtain ⟨hk, ⟨L, o, hf, hn, ho, hd⟩, hr⟩ := hl
      have hL : L ∈ X.fs := hs L (by unfold frs; rw [List.filterMap_cons, hf]; exact List.mem_cons_self)
      obtain ⟨sl, e⟩ := I.base.slot L o ho (I.ok.frf L hL) hL fun z => I.ok.exfs L z hL
      exact ⟨hk, ⟨L, _, hf, hn, e, hd⟩, ih (fun b hb => hs b (by unfold frs; rw [List.filterMap_cons, hf]; exact List.mem_cons_of_mem _ hb)) hr⟩
  exact all X.outer (fun _ hb => hb) I.ok.funs

theorem Inv.stack (I : Inv X pins σ H s) : s.heap.FunFrames X.base X.stack := by
  rcases I.ok.stk with e | ⟨e, hf⟩
  · rw [e]; exact I.funs
  · rw [e]
    obtain ⟨m, hn, _⟩ := I.loc
    refine .cons (by rw [I.ok.kind]; decide) hf hn ?_ I.funs
    exact Heap.get?_none_of_le (Nat.le_trans I.ok.bsz I.ok.above)
theorem Inv.stkSub (I : Inv X pins σ H s) : ∀ b ∈ frs X.stack, b ∈ X.env.locals :: X.fs := fun b hb => by
  rcases I.ok.stk with e | ⟨e, hf⟩
  · rw [e] at hb; exact List.mem_cons_of_mem _ hb
  · rw [e] at hb
    unfold frs at hb
    rw [List.filterMap_cons, hf] at hb
    exact hb
theorem Inv.stkFree (I : Inv X pins σ H s) : ∀ b ∈ frs X.stack, H b = none := fun b hb => by
  rcases List.mem_cons.mp (I.stkSub b hb) with e | hb
  · rw [e]; exact I.free
  · obtain ⟨_, o, ho, _⟩ := I.ok.funs.mem hb
    exact I.base.free b o ho (I.ok.frf b hb) fun z => I.ok.exfs b z hb

theorem Inv.step {g' : Array GenState} {t' : Nat} {d' : Drawn} {ch : List Addr} (I : Inv X pins σ H s)
    (hch : ∀ b ∈ ch, (b ∈ X.ex ∨ X.s₀.heap.objs.size ≤ b) ∧ b ≠ X.env.locals ∧ (∀ x c, X.env.cells.lookup x = some c → c ≠ b) ∧ ∀ p ∈ X.pn ++ pins, p.1 ≠ b)
    (keep : ∀ b o, b ≠ X.env.locals → b ∉ X.fs → b ∉ ch → s.heap.get? b = some o → H b = none → h'.get? b = some o)
    (slot : ∀ b o, b ≠ X.env.locals → b ∈ X.fs → b ∉ ch → s.heap.get? b = some o → H b = none → ∃ sl, h'.get? b = some { o with slots := sl }) (free : ∀ b o, b ∉ ch → s.heap.get? b = some o → H b = none → H' b = none)
    (there : ∀ b o, b ∉ ch → s.heap.get? b = some o → ∃ o', h'.get? b = some o')
    (tups : ∀ b xs, H b = some (.tup xs) → H' b = some (.tup xs)) (frzs : ∀ b o u, H b = some (.frz o u) → H' b = some (.frz o u)) (tbls : ∀ b ps, H b = some (.tbl ps) → ∃ more, H' b = some (.tbl (ps ++ more)))
    (ns : ∀ m, s.heap.Ns X.env.locals m → h'.Ns X.env.locals m) (hok : HOk X.prog X.w H' h') (hg : AllBare g') :
    Inv X pins σ H' { s with heap := h', gens := g', drawn := d', toks := t' } := by
  have neL : ∀ b o, X.s₀.heap.get? b = some o → b ≠ X.env.locals := fun b o e => Nat.ne_of_lt (Nat.lt_of_lt_of_le (Heap.lt_size e) I.ok.above)
  have neC : ∀ b o, X.s₀.heap.get? b = some o → b ∉ X.ex → b ∉ ch := fun b o e hx hb => by
    rcases (hch b hb).1 with z | z
    · exact hx z
    · exact absurd (Nat.lt_of_lt_of_le (Heap.lt_size e) z) (Nat.lt_irrefl _)
  have cellK : ∀ x c, X.env.cells.lookup x = some c → ∀ v, s.heap.IsCell c v → h'.IsCell c v := fun x c e v ⟨o, ho, hd⟩ => by
    have nch : c ∉ ch := fun z => (hch c z).2.2.1 x c e rfl
    by_cases hc : c ∈ X.fs
    · obtain ⟨sl, q⟩ := slot c o (I.cne x c e) hc nch ho (I.freeC x c e)
      exact ⟨_, q, hd⟩
    · exact ⟨o, keep c o (I.cne x c e) hc nch ho (I.freeC x c e), hd⟩
  refine ⟨I.ok, I.os, hg, ⟨fun b o e n hb hx => ?_, fun b o e n hb hx => ?_, fun b o e n hx => ?_, fun b o e hx => ?_, fun b xs e => tups b xs (I.base.tups b xs e), fun b o xs e => frzs b o xs (I.base.frzs b o xs e), fun b ps e => ?_⟩, ?_, fun x c e => ?_, ?_, fun x c e => ?_, fun p hp => ?_, hok, I.len⟩
  · exact keep b o (neL b o e) hb (neC b o e hx) (I.base.keep b o e n hb hx) (I.base.free b o e n hx)
  · obtain ⟨sl, e1⟩ := I.base.slot b o e n hb hx
    obtain ⟨sl', e2⟩ := slot b _ (neL b o e) hb (neC b o e hx) e1 (I.base.free b o e n hx)
    exact ⟨sl', e2⟩
  · obtain ⟨o', e1⟩ := I.base.there b o e hx
    exact free b o' (neC b o e hx) e1 (I.base.free b o e n hx)
  · obtain ⟨o', e1⟩ := I.base.there b o e hx
    exact there b o' (neC b o e hx) e1
  · obtain ⟨m1, e1⟩ := I.base.tbls b ps e
    obtain ⟨m2, e2⟩ := tbls b _ e1
    exact ⟨m1 ++ m2, by rw [e2, Array.append_assoc]⟩
  · obtain ⟨m, hn, hl⟩ := I.loc
    refine ⟨m, ns m hn, fun i x v e1 e2 e3 => ?_⟩
    obtain ⟨u, r, l⟩ := hl i x v e1 e2 e3
    refine ⟨u, r, ?_⟩
    rcases l with l | ⟨k, c, e, z⟩
    · exact .inl l
    · exact .inr ⟨k, c, e, cellK x c e _ z⟩
  · obtain ⟨v, z⟩ := I.cell x c e
    exact ⟨v, cellK x c e v z⟩
  · obtain ⟨m, ⟨o, _, _, ho, _⟩, _⟩ := I.loc
    exact free _ o (fun z => (hch _ z).2.1 rfl) ho I.free
  · obtain ⟨v, o, ho, hd⟩ := I.cell x c e
    exact free c o (fun z => (hch c z).2.2.1 x c e rfl) ho (I.freeC x c e)
  · obtain ⟨e, n, ne, nf, d⟩ := I.pin p hp
    have nch : p.1 ∉ ch := fun z => (hch p.1 z).2.2.2 p hp rfl
    exact ⟨keep p.1 p.2 ne nf nch e n, free p.1 p.2 nch e n, ne, nf, d⟩
theorem Inv.un {t' : Nat} (I : Inv X pins σ H s) (u : Un X.fs [] H H' s.heap h') (hok : HOk X.prog X.w H' h') : Inv X pins σ H' { s with heap := h', toks := t' } := by
  obtain ⟨m, ⟨o, es, ep, ho, r⟩, _⟩ := id I.loc
  obtain ⟨sl, hL⟩ := u.any ho I.free (by simp)
  exact I.step (g' := s.gens) (d' := s.drawn) (ch := []) (fun _ z => nomatch z) (fun b o _ hb _ e n => u.keep b o e n hb (by simp)) (fun b o _ hb _ e n => u.slot b o e n hb (by simp)) (fun b o _ e n => u.free b o e n (by simp)) (fun b o _ e => u.there b o e (by simp)) u.tups u.frzs u.tbls (fun m' hm => by
    obtain ⟨o', es', ep', ho', r'⟩ := hm
    rw [ho] at ho'; cases ho'
    exact ⟨_, es', ep', hL, r'⟩) hok I.bare
theorem Inv.call {g' : Array GenState} {t' : Nat} {d' : Drawn} {ch : List Addr} (I : Inv X pins σ H s) (u : Un (frs X.stack) ch H H' s.heap h') (hok : HOk X.prog X.w H' h') (hg : AllBare g')
    (hch : ∀ b ∈ ch, (b ∈ X.ex ∨ X.s₀.heap.objs.size ≤ b) ∧ b ≠ X.env.locals ∧ (∀ x c, X.env.cells.lookup x = some c → c ≠ b) ∧ ∀ p ∈ X.pn ++ pins, p.1 ≠ b) :
    Inv X pins σ H' { s with heap := h', gens := g', drawn := d', toks := t' } := by
  obtain ⟨m, ⟨o, es, ep, ho, r⟩, _⟩ := id I.loc
  obtain ⟨sl, hL⟩ := u.any ho I.free fun z => (hch _ z).2.1 rfl
  exact I.step (ch := ch) hch (fun b o hL hb hc e n => u.keep b o e n (fun z => (List.mem_cons.mp (I.stkSub b z)).elim hL hb) hc) (fun b o _ _ hc e n => u.any e n hc) (fun b o hc e n => u.free b o e n hc) (fun b o hc e => u.there b o e hc) u.tups u.frzs u.tbls (fun m' hm => by
    obtain ⟨o', es', ep', ho', r'⟩ := hm
    rw [ho] at ho'; cases ho'
    exact ⟨_, es', ep', hL, r'⟩) hok hg
theorem Inv.turned {t' : Nat} {it : Addr} (I : Inv X pins σ H s) (k : ∀ b o, b ≠ it → s.heap.get? b = some o → h'.get? b = some o) (hn : H it = none) (hL : it ≠ X.env.locals)
    (h1 : it ∈ X.ex ∨ X.s₀.heap.objs.size ≤ it) (h2 : ∀ x c, X.env.cells.lookup x = some c → c ≠ it) (h3 : ∀ p ∈ X.pn ++ pins, p.1 ≠ it) : Inv X pins σ H { s with heap := h', toks := t' } := by
  have nit : ∀ b u, H b = some u → b ≠ it := fun b u e z => by rw [z, hn] at e; cases e
  refine I.step (g' := s.gens) (d' := s.drawn) (ch := [it]) (fun b hb => ?_) (fun b o _ _ hc e _ => k b o (fun z => hc (by simp [z])) e) (fun b o _ _ hc e _ => ⟨o.slots, k b o (fun z => hc (by simp [z])) e⟩) (fun _ _ _ _ n => n)
    (fun b o hc e => ⟨o, k b o (fun z => hc (by simp [z])) e⟩) (fun _ _ e => e) (fun _ _ _ e => e) (fun b ps e => ⟨#[], by rw [e]; simp⟩) (fun m hm => ?_) (fun b u e => ?_) I.bare
  · have e : b = it := by simpa using hb
    subst e
    exact ⟨h1, hL, h2, h3⟩
  · obtain ⟨o, es, ep, ho, r⟩ := hm
    exact ⟨o, es, ep, k _ o (Ne.symm hL) ho, r⟩
  · refine (I.hok b u e).stay (fun c v hc q => k c v ?_ q) (fun _ q => q) fun _ _ q => q
    rcases hc with z | z
    · rw [z]; exact nit b u e
    · exact nit c _ z
theorem Inv.tok (I : Inv X pins σ H s) (t : Nat) : Inv X pins σ H { s with toks := t } := I.un (h' := s.heap) (t' := t) Un.refl I.hok
theorem Inv.kept {t' : Nat} (I : Inv X pins σ H s) (k : ∀ b u, s.heap.get? b = some u → h'.get? b = some u) : Inv X pins σ H { s with heap := h', toks := t' } := I.un (Un.kept k) (I.hok.kept k)
theorem Inv.laid {a : Addr} {o : HO} {t' : Nat} (I : Inv X pins σ H s) (k : ∀ b u, s.heap.get? b = some u → h'.get? b = some u) (hp : s.heap.objs.size ≤ a) (new : ObjOk X.prog X.w (upd H a o) h' a o) :
    Inv X pins σ (upd H a o) { s with heap := h', toks := t' } := I.un (Un.laid k hp (I.hok.fresh hp)) (I.hok.laid k hp new)
theorem Inv.write {x e : Addr} {o : HO} {t' : Nat} (I : Inv X pins σ H s) (mu : Mut (H x)) (he : e = x ∨ H e = some (.own x)) (k : ∀ b u, b ≠ e → s.heap.get? b = some u → h'.get? b = some u) (heo : ∃ u, h'.get? e = some u)
    (new : ObjOk X.prog X.w (upd H x o) h' x o) : Inv X pins σ (upd H x o) { s with heap := h', toks := t' } := I.un (Un.write mu he k heo) (I.hok.write mu he k heo new)
theorem Inv.pins_of {pins' : List (Addr × Obj)} (I : Inv X pins σ H s) (h : ∀ p ∈ pins', s.heap.get? p.1 = some p.2 ∧ H p.1 = none ∧ p.1 ≠ X.env.locals ∧ p.1 ∉ X.fs ∧ ∀ v, p.2.data ≠ .cell v) : Inv X pins' σ H s :=
  ⟨I.ok, I.os, I.bare, I.base, I.loc, I.cell, I.free, I.freeC, fun p hp => (List.mem_append.mp hp).elim (fun z => I.pin p (List.mem_append_left _ z)) (h p), I.hok, I.len⟩

theorem nodup_ix {N : List Str} (hN : N.Nodup) {i j : Nat} {x : Str} (a : N[i]? = some x) (b : N[j]? = some x) : i = j := by
  obtain ⟨h1, e1⟩ := List.getElem?_eq_some_iff.mp a
  obtain ⟨h2, e2⟩ := List.getElem?_eq_some_iff.mp b
  exact (List.getElem_inj hN).mp (e1.trans e2.symm)

theorem store_ok2 {M : Model} {A : Around} {E : Value → Shared → Prop} {i : Nat} {x : Str} {v : V} {u : Value} {Q : Unit → Shared → Prop} (I : Inv X pins σ H s) (hN : X.N.Nodup) (hi : X.N[i]? = some x) (hx : Loc X.env.scope x) (r : RelV v u)
    (h : ∀ s', Inv X pins (σ.set i (some v)) H s' → (∃ a, Heap.SameBut a s.heap s'.heap ∧ (a = X.env.locals ∨ X.env.cells.lookup x = some a)) → Q () s') (hf : X.fn x = true ∨ X.env.scope.names.lookup x = some .local := by first | exact .inl rfl | exact .inr rfl | assumption) : wpAny M A (storeName X.env x u) Q E s := by
  obtain ⟨m, hn, hl⟩ := id I.loc
  have hcls : (X.env.scope.kind == .class || (X.env.scope.kind == .module && X.env.locals != X.env.globals)) = false := by rw [I.ok.kind]; rfl
  have hiσ : i < σ.length := by rw [I.len]; exact (List.getElem?_eq_some_iff.mp hi).1
  have cne := I.cne
  have tracked : ∀ {a : Addr} {h' : Heap}, (∃ o, s.heap.get? a = some o ∧ H a = none) → Heap.SameBut a s.heap h' → HOk X.prog X.w H h' := fun {a h'} ha hs b ob e => by
    obtain ⟨_, _, hfree⟩ := ha
    refine (I.hok b ob e).stay (fun c w' hc q => (hs.2 c ?_).trans q) (fun _ q => q) fun _ _ q => q
    rintro rfl
    rcases hc with rfl | hc
    · rw [hfree] at e; cases e
    · rw [hfree] at hc; cases hc
  rcases hx with hk | hk
  · refine wpAny_storeName_local hk hn (fun h' hn' hs => ?_) hcls
    obtain ⟨oL, _, _, hoL, _⟩ := id hn
    refine h _ ⟨I.ok, I.os, I.bare, ⟨fun b o e n hb hx => ?_, fun b o e n hb hx => ?_, I.base.free, fun b o e hx => ?_, I.base.tups, I.base.frzs, I.base.tbls⟩, ⟨_, hn', fun j y v' e1 e2 e3 => ?_⟩, fun y c e => ?_, I.free, I.freeC, fun p hp => ?_, tracked ⟨oL, hoL, I.free⟩ hs, by simpa using I.len⟩ ⟨_, hs, .inl rfl⟩
    · exact (hs.2 b (Nat.ne_of_lt (Nat.lt_of_lt_of_le (Heap.lt_size e) I.ok.above))).trans (I.base.keep b o e n hb hx)
    · obtain ⟨sl, e1⟩ := I.base.slot b o e n hb hx
      exact ⟨sl, (hs.2 b (Nat.ne_of_lt (Nat.lt_of_lt_of_le (Heap.lt_size e) I.ok.above))).trans e1⟩
    · obtain ⟨o', e1⟩ := I.base.there b o e hx
      exact ⟨o', (hs.2 b (Nat.ne_of_lt (Nat.lt_of_lt_of_le (Heap.lt_size e) I.ok.above))).trans e1⟩
    · by_cases hj : j = i
      · subst hj
        rw [hi] at e1; cases e1
        rw [List.getElem?_set_self hiσ] at e2
        cases e2
        exact ⟨u, r, .inl ⟨hk, by simp⟩⟩
      · rw [List.getElem?_set_ne (Ne.symm hj)] at e2
        obtain ⟨u', r', q⟩ := hl j y v' e1 e2 e3
        refine ⟨u', r', ?_⟩
        rcases q with ⟨k, e⟩ | ⟨k, c, e, z⟩
        · refine .inl ⟨k, ?_⟩
          have : y ≠ x := fun e => hj (nodup_ix hN e1 (e ▸ hi))
          simp [this, e]
        · exact .inr ⟨k, c, e, z.sameBut hs (cne y c e)⟩
    · obtain ⟨w', z⟩ := I.cell y c e
      exact ⟨w', z.sameBut hs (cne y c e)⟩
    · obtain ⟨e, n, ne, nf, d⟩ := I.pin p hp
      exact ⟨(hs.2 p.1 ne).trans e, n, ne, nf, d⟩
  · have hfn : X.fn x = true := by
      rcases hf with z | z
      · exact z
      · rw [z] at hk; cases hk
    obtain ⟨c, hc⟩ := I.ok.has x (.inl hk)
    obtain ⟨w', z⟩ := I.cell x c hc
    refine wpAny_storeName_cell I.ok.kind hk hc z (fun h' hc' hs => ?_)
    obtain ⟨oc, hoc, hocd⟩ := id z
    refine h { s with heap := h' } ⟨I.ok, I.os, I.bare, ⟨fun b o e n hb hx => ?_, fun b o e n hb hx => ?_, I.base.free, fun b o e hx => ?_, I.base.tups, I.base.frzs, I.base.tbls⟩, ⟨m, hn.sameBut hs (Ne.symm (cne x c hc)), fun j y v' e1 e2 e3 => ?_⟩, fun y c' e => ?_, I.free, I.freeC, fun p hp => ?_, tracked ⟨oc, hoc, I.freeC x c hc⟩ hs, by simpa using I.len⟩ ⟨c, hs, .inr hc⟩
    · exact (hs.2 b (Nat.ne_of_lt (Nat.lt_of_lt_of_le (Heap.lt_size e) (I.ok.cab x c hfn hc)))).trans (I.base.keep b o e n hb hx)
    · obtain ⟨sl, e1⟩ := I.base.slot b o e n hb hx
      exact ⟨sl, (hs.2 b (Nat.ne_of_lt (Nat.lt_of_lt_of_le (Heap.lt_size e) (I.ok.cab x c hfn hc)))).trans e1⟩
    · obtain ⟨o', e1⟩ := I.base.there b o e hx
      exact ⟨o', (hs.2 b (Nat.ne_of_lt (Nat.lt_of_lt_of_le (Heap.lt_size e) (I.ok.cab x c hfn hc)))).trans e1⟩
    · by_cases hj : j = i
      · subst hj
        rw [hi] at e1; cases e1
        rw [List.getElem?_set_self hiσ] at e2
        cases e2
        exact ⟨u, r, .inr ⟨.inl hk, c, hc, hc'⟩⟩
      · rw [List.getElem?_set_ne (Ne.symm hj)] at e2
        obtain ⟨u', r', q⟩ := hl j y v' e1 e2 e3
        refine ⟨u', r', ?_⟩
        rcases q with q | ⟨k, c', e, z'⟩
        · exact .inl q
        · refine .inr ⟨k, c', e, z'.sameBut hs ?_⟩
          rintro rfl
          exact hj (nodup_ix hN e1 (I.ok.inj _ _ _ e hc ▸ hi))
    · by_cases hcc : c' = c
      · subst hcc; exact ⟨_, hc'⟩
      · obtain ⟨w2, z2⟩ := I.cell y c' e
        exact ⟨w2, z2.sameBut hs hcc⟩
    · obtain ⟨e, n, ne, nf, d⟩ := I.pin p hp
      refine ⟨(hs.2 p.1 ?_).trans e, n, ne, nf, d⟩
      intro q
      rw [q, hoc] at e
      have q' : oc = p.2 := Option.some.inj e
      exact d w' (by rw [← q']; exact hocd)
theorem store_ok {M : Model} {A : Around} {E : Value → Shared → Prop} {i : Nat} {x : Str} {v : V} {u : Value} {Q : Unit → Shared → Prop} (I : Inv X pins σ H s) (hN : X.N.Nodup) (hi : X.N[i]? = some x) (hx : Loc X.env.scope x) (r : RelV v u)
    (h : ∀ s', Inv X pins (σ.set i (some v)) H s' → Q () s') (hf : X.fn x = true ∨ X.env.scope.names.lookup x = some .local := by first | exact .inl rfl | exact .inr rfl | assumption) : wpAny M A (storeName X.env x u) Q E s :=
  store_ok2 I hN hi hx r (fun s' I' _ => h s' I') hf
theorem Inv.call' {s' : Shared} {ch : List Addr} (I : Inv X pins σ H s) (ho : s'.os = s.os) (u : Un (frs X.stack) ch H H' s.heap s'.heap) (hok : HOk X.prog X.w H' s'.heap) (hg : AllBare s'.gens)
    (hch : ∀ b ∈ ch, (b ∈ X.ex ∨ X.s₀.heap.objs.size ≤ b) ∧ b ≠ X.env.locals ∧ (∀ x c, X.env.cells.lookup x = some c → c ≠ b) ∧ ∀ p ∈ X.pn ++ pins, p.1 ≠ b) : Inv X pins σ H' s' := by
  obtain ⟨h', g', d', t', o'⟩ := s'
  have e : o' = s.os := ho
  subst e
  exact I.call (g' := g') (t' := t') (d' := d') u hok hg hch
end

abbrev XK := Value → Option Addr → Hp → Prop
abbrev St := List (Option V)
abbrev VK := V → Hp → Prop
abbrev TE := St → Hp → VK → Prop
abbrev TT := St → Hp → (Bool → Hp → Prop) → Prop
abbrev TA := St → Hp → (List V → Hp → Prop) → Prop
structure Ends where
  nx : St → Hp → Prop
  rt : VK
  bk : St → Hp → Prop := fun _ _ => False
  ct : St → Hp → Prop := fun _ _ => False
abbrev TS := Ends → St → Hp → Prop

def EP (X : Cx) (pins : List (Addr × Obj)) (σ : St) (Q : VK) (u : Value) (s' : Shared) : Prop := ∃ v H', Inv X pins σ H' s' ∧ RelV v u ∧ Q v H'
def TP (X : Cx) (pins : List (Addr × Obj)) (σ : St) (Q : Bool → Hp → Prop) (b : Bool) (s' : Shared) : Prop := ∃ H', Inv X pins σ H' s' ∧ Q b H'
def AP (X : Cx) (pins : List (Addr × Obj)) (σ : St) (Q : List V → Hp → Prop) (us : List Value) (s' : Shared) : Prop := ∃ vs H', Inv X pins σ H' s' ∧ Vals vs us ∧ Q vs H'
def SP (X : Cx) (pins : List (Addr × Obj)) (D : Ends) (f : Flow) (s' : Shared) : Prop :=
  match f with
  | .next => ∃ σ' H', Inv X pins σ' H' s' ∧ D.nx σ' H'
  | .brk => ∃ σ' H', Inv X pins σ' H' s' ∧ D.bk σ' H'
  | .cont => ∃ σ' H', Inv X pins σ' H' s' ∧ D.ct σ' H'
  | .ret u => ∃ v σ' H', Inv X pins σ' H' s' ∧ RelV v u ∧ D.rt v H'

def PE (X : Cx) (e : Expr) (t : TE) : Prop :=
  ∀ (pins : List (Addr × Obj)) (s : Shared) (σ : St) (H : Hp) (Q : VK), Inv X pins σ H s → t σ H Q → wpAny (model X.prog X.w) X.A (eval e X.env) (EP X pins σ Q) X.xe s
def PT (X : Cx) (e : Expr) (t : TT) : Prop :=
  ∀ (pins : List (Addr × Obj)) (s : Shared) (σ : St) (H : Hp) (Q : Bool → Hp → Prop), Inv X pins σ H s → t σ H Q → wpAny (model X.prog X.w) X.A (isTrue e X.env (eval e X.env)) (TP X pins σ Q) X.xe s
def PW (X : Cx) (e : Expr) (t : TT) : Prop :=
  ∀ (whole : Sem Value) (pins : List (Addr × Obj)) (s : Shared) (σ : St) (H : Hp) (Q : Bool → Hp → Prop), Inv X pins σ H s → t σ H Q → wpAny (model X.prog X.w) X.A (isTrue e X.env whole) (TP X pins σ Q) X.xe s
theorem PW.pt {X : Cx} {e : Expr} {t : TT} (h : PW X e t) : PT X e t := h _
def PA (X : Cx) (es : List Expr) (t : TA) : Prop :=
  ∀ (pos : Pos) (pins : List (Addr × Obj)) (s : Shared) (σ : St) (H : Hp) (Q : List V → Hp → Prop), Inv X pins σ H s → t σ H Q → wpAny (model X.prog X.w) X.A (spliced (backTo pos (starEach es X.env))) (AP X pins σ Q) X.xe s
def PS (X : Cx) (st : Stmt) (t : TS) : Prop :=
  ∀ (pins : List (Addr × Obj)) (s : Shared) (σ : St) (H : Hp) (D : Ends), Inv X pins σ H s → t D σ H → wpAny (model X.prog X.w) X.A (exec st X.env) (SP X pins D) X.xe s
def PSs (X : Cx) (st : List Stmt) (t : TS) : Prop :=
  ∀ (pins : List (Addr × Obj)) (s : Shared) (σ : St) (H : Hp) (D : Ends), Inv X pins σ H s → t D σ H → wpAny (model X.prog X.w) X.A (execs st X.env) (SP X pins D) X.xe s
theorem thn {α : Type} {t : Sem α} {Q Q' : α → Shared → Prop} {M : Model} {A : Around} {E : Value → Shared → Prop} {s : Shared} (h : wpAny M A t Q E s) (hQ : ∀ a s, Q a s → Q' a s) : wpAny M A t Q' E s := wpAny_mono h hQ fun _ _ x => x
end L2

namespace L2
open PySem PySem.Spec PyProof.Rows
section
variable {X : Cx}

def tVar (i : Nat) : TE := fun σ H Q => ∃ v, σ[i]? = some (some v) ∧ Q v H
def tC (v : V) : TE := fun _ H Q => Q v H
theorem pe_var {i : Nat} {x : Str} {pos : Pos} (hN : X.N[i]? = some x) (hv : Vis X.env.scope x) (hd : (x == ("__debug__" : Str)) = false := by decide) (hcd : (x == ("__classdict__" : Str)) = false := by decide) : PE X (.Name x pos) (tVar i) := by
  intro pins s σ H Q I h
  obtain ⟨v, e, h⟩ := h
  obtain ⟨m, hn, hl⟩ := I.loc
  obtain ⟨u, r, l⟩ := hl i x v hN e hv
  have fin : EP X pins σ Q u s := ⟨v, H, I, r, h⟩
  rcases l with ⟨hk, hm⟩ | ⟨hk, c, hc, hcell⟩
  · exact wpAny_Name (wpAny_loadName_local I.ok.kind hk hn hm fin) hd
  · rcases hk with hk | hk
    · exact wpAny_Name (wpAny_loadName_cell I.ok.kind hk hc hcell fin) hd
    · exact wpAny_Name (wpAny_loadName_free I.ok.kind hk hc hcell fin hcd) hd
theorem pe_int {i j pos} : PE X (.Constant (.int i) j pos) (tC (.int i)) := fun _ _ _ H _ I h => wpAny_Constant_int ⟨.int i, H, I.tok _, ⟨_, rfl⟩, h⟩
theorem pe_bl {b j pos} : PE X (.Constant (.bool b) j pos) (tC (.bl b)) := fun _ _ _ H _ I h => Constant_bool ⟨.bl b, H, I, rfl, h⟩
theorem pe_non {j pos} : PE X (.Constant .none j pos) (tC .non) := fun _ _ _ H _ I h => Constant_none ⟨.non, H, I, rfl, h⟩
theorem pe_str {x j pos} : PE X (.Constant (.str x) j pos) (tC (.str x)) := fun _ _ _ H _ I h => Calls.Constant_str ⟨.str x, H, I.tok _, ⟨_, rfl⟩, h⟩

def Gl (X : Cx) (x : Str) : Prop := X.env.kindOf x = some .globalImplicit
theorem ld_glob {E : Value → Shared → Prop} {pins : List (Addr × Obj)} {s : Shared} {σ : St} {H : Hp} {x : Str} {u : Value} {pos : Pos} {Q : Value → Shared → Prop} (I : Inv X pins σ H s) (hg : Gl X x) (hm : X.mg x = some u) (h : Q u s)
    (hd : (x == ("__debug__" : Str)) = false := by decide) : wpAny (model X.prog X.w) X.A (eval (.Name x pos) X.env) Q E s :=
  Calls.Name_function_global I.ok.kind hg (Calls.loadGlobal_global (by rw [I.ok.glob]; exact I.mod.glob.keeps I.bk) hm h) hd
theorem ld_blt {E : Value → Shared → Prop} {pins : List (Addr × Obj)} {s : Shared} {σ : St} {H : Hp} {x : Str} {u : Value} {pos : Pos} {Q : Value → Shared → Prop} (I : Inv X pins σ H s) (hg : Gl X x) (hm : X.mg x = none) (hv : bootBuiltins x = some u) (h : Q u s)
    (hn : x ≠ "__name__" := by decide) (hd : (x == ("__debug__" : Str)) = false := by decide) : wpAny (model X.prog X.w) X.A (eval (.Name x pos) X.env) Q E s := by
  obtain ⟨mb, h1, h2⟩ := I.mod.blt
  exact Calls.Name_function_global I.ok.kind hg (Calls.loadGlobal_builtin (by rw [I.ok.glob]; exact I.mod.glob.keeps I.bk) hm (by rw [I.ok.blt]; exact h1.keeps I.bk) ((h2 x hn).trans hv) h) hd
theorem pe_glob {x : Str} {v : V} {u : Value} {pos : Pos} (hg : Gl X x) (hm : X.mg x = some u) (r : RelV v u) (hd : (x == ("__debug__" : Str)) = false := by decide) : PE X (.Name x pos) (tC v) :=
  fun _ _ _ H _ I h => ld_glob I hg hm ⟨v, H, I, r, h⟩ hd
theorem pe_bltn {x : Str} {v : V} {u : Value} {pos : Pos} (hg : Gl X x) (hm : X.mg x = none) (hv : bootBuiltins x = some u) (r : RelV v u) (hn : x ≠ "__name__" := by decide) (hd : (x == ("__debug__" : Str)) = false := by decide) : PE X (.Name x pos) (tC v) :=
  fun _ _ _ H _ I h => ld_blt I hg hm hv ⟨v, H, I, r, h⟩ hn hd

variable {a b : Expr} {ta tb : TE} {pos : Pos}
def tB (t : TE) : TT := fun σ H Q => t σ H fun x H1 => ∃ c, x = .bl c ∧ Q c H1
theorem pt_val {e : Expr} {t : TE} (h : PE X e t) (he : ∀ whole, isTrue e X.env whole = (do let v ← whole; standAt e.pos; holding [v] (truthy v)) := by intro _; rfl) : PT X e (tB t) := by
  intro pins s σ H Q I hw
  refine isTrue_plain (thn (h pins s σ H _ I hw) fun v s1 ⟨x, H1, I1, r1, q1⟩ => ?_) (he _)
  obtain ⟨d, rfl, q⟩ := q1
  cases r1
  exact wpAny_truthy_bool ⟨H1, I1, q⟩

variable {tA tB' : TT} {rest : List Expr}
def tAnd (t u : TT) : TT := fun σ H Q => t σ H fun c H1 => if c = true then u σ H1 Q else Q false H1
def tOr (t u : TT) : TT := fun σ H Q => t σ H fun c H1 => if c = true then Q true H1 else u σ H1 Q
def tNot (t : TT) : TT := fun σ H Q => t σ H fun c H1 => Q (!c) H1
theorem pw_and1 (ha : PT X a tA) : PW X (.BoolOp .And [a] pos) tA := by
  intro wh pins s σ H Q I h
  refine isTrue_and (thn (ha pins s σ H Q I h) fun c s1 e => ?_)
  cases c with
  | true => exact isTrue_and_nil e
  | false => exact e
theorem pw_or1 (ha : PT X a tA) : PW X (.BoolOp .Or [a] pos) tA := by
  intro wh pins s σ H Q I h
  refine isTrue_or (thn (ha pins s σ H Q I h) fun c s1 e => ?_)
  cases c with
  | false => exact isTrue_or_nil e
  | true => exact e
theorem pw_and (ha : PT X a tA) (hb : PW X (.BoolOp .And (b :: rest) pos) tB') : PW X (.BoolOp .And (a :: b :: rest) pos) (tAnd tA tB') := by
  intro wh pins s σ H Q I h
  refine isTrue_and (thn (ha pins s σ H _ I h) fun c s1 ⟨H1, I1, q1⟩ => ?_)
  cases c with
  | true => exact hb wh pins s1 σ H1 Q I1 q1
  | false => exact ⟨H1, I1, q1⟩
theorem pw_or (ha : PT X a tA) (hb : PW X (.BoolOp .Or (b :: rest) pos) tB') : PW X (.BoolOp .Or (a :: b :: rest) pos) (tOr tA tB') := by
  intro wh pins s σ H Q I h
  refine isTrue_or (thn (ha pins s σ H _ I h) fun c s1 ⟨H1, I1, q1⟩ => ?_)
  cases c with
  | true => exact ⟨H1, I1, q1⟩
  | false => exact hb wh pins s1 σ H1 Q I1 q1
theorem pt_not (ha : PT X a tA) : PT X (.UnaryOp .Not a pos) (tNot tA) := by
  intro pins s σ H Q I h
  exact isTrue_not (ha pins s σ H (fun c H1 => Q (!c) H1) I h)
def tAndV (ta tb : TE) : TE := fun σ H Q => ta σ H fun x H1 => ∃ c, x = .bl c ∧ if c = true then tb σ H1 Q else Q (.bl false) H1
def tNotV (ta : TE) : TE := fun σ H Q => ta σ H fun x H1 => ∃ c, x = .bl c ∧ Q (.bl (!c)) H1
theorem pe_one {op} {t : TE} (h : PE X a t) : PE X (.BoolOp op [a] pos) t := fun pins s σ H Q I hw => BoolOp_one (h pins s σ H Q I hw)
theorem pe_and (ha : PE X a ta) (hb : PE X (.BoolOp .And (b :: rest) pos) tb) : PE X (.BoolOp .And (a :: b :: rest) pos) (tAndV ta tb) := by
  intro pins s σ H Q I h
  refine BoolOp_and (thn (ha pins s σ H _ I h) fun v s1 ⟨x, H1, I1, r1, q1⟩ => ?_)
  obtain ⟨c, rfl, q1⟩ := q1
  cases r1
  refine wpAny_truthy_bool ?_
  cases c with
  | true => exact hb pins s1 σ H1 Q I1 q1
  | false => exact ⟨.bl false, H1, I1, rfl, q1⟩
theorem pe_not (ha : PE X a ta) : PE X (.UnaryOp .Not a pos) (tNotV ta) := by
  intro pins s σ H Q I h
  refine UnaryOp_ (thn (ha pins s σ H _ I h) fun v s1 ⟨x, H1, I1, r1, q1⟩ => ?_)
  obtain ⟨c, rfl, q1⟩ := q1
  cases r1
  exact not_of (wpAny_truthy_bool ⟨.bl (!c), H1, I1, rfl, q1⟩)
def tIf (t : TT) (ta tb : TE) : TE := fun σ H Q => t σ H fun c H1 => if c = true then ta σ H1 Q else tb σ H1 Q
theorem pe_ifExp {c : Expr} (hc : PT X c tA) (ha : PE X a ta) (hb : PE X b tb) : PE X (.IfExp c a b pos) (tIf tA ta tb) := by
  intro pins s σ H Q I h
  refine wpAny_IfExp (thn (hc pins s σ H _ I h) fun d s1 ⟨H1, I1, q1⟩ => ?_)
  cases d with
  | true => exact ha pins s1 σ H1 Q I1 q1
  | false => exact hb pins s1 σ H1 Q I1 q1
end
end L2

namespace L2
open PySem PySem.Spec PyProof.Rows

def SqL (K : PySem.W.Frag) (H : Hp) (a : Addr) (xs : List V) : Prop :=
  Rd H a (.lst xs) ∨
    ∃ (o : Obj) (its : Array Value) (n : Nat), K.lookup a = some o ∧ o.cls = .type "list" ∧ o.dict = none ∧ o.data = .seq its n ∧ its.size ≤ sizeLine ∧ Vals xs its.toList
def SqT (K : PySem.W.Frag) (H : Hp) (a : Addr) (xs : List V) : Prop :=
  Rd H a (.tup xs) ∨
    ∃ (o : Obj) (its : Array Value) (n : Nat), K.lookup a = some o ∧ o.cls = .type "tuple" ∧ o.data = .seq its n ∧ its.size ≤ sizeLine ∧ Vals xs its.toList
def absV : Value → Option V
  | .none => some .non
  | .bool b => some (.bl b)
  | .int i _ => some (.int i)
  | .str x _ => some (.str x)
  | .bytes b _ => some (.byt b)
  | .float b _ => some (.flt b)
  | .ref a => some (.ref a)
  | .type n => some (.ty n)
  | _ => none
theorem RelV.abs {x : V} {u : Value} (r : RelV x u) : absV u = some x := by
  cases x with
  | non => cases r; rfl
  | bl _ => cases r; rfl
  | int _ => obtain ⟨t, rfl⟩ := r; rfl
  | str _ => obtain ⟨t, rfl⟩ := r; rfl
  | byt _ => obtain ⟨t, rfl⟩ := r; rfl
  | flt _ => obtain ⟨t, rfl⟩ := r; rfl
  | ref _ => cases r; rfl
  | ty _ => cases r; rfl
theorem RelV.inj {x y : V} {u : Value} (r : RelV x u) (q : RelV y u) : x = y := Option.some.inj (r.abs.symm.trans q.abs)
theorem Vals.inj : ∀ {xs ys : List V} {us : List Value}, Vals xs us → Vals ys us → xs = ys
  | _, _, _, .nil, .nil => rfl
  | _, _, _, .cons r t, .cons r' t' => by rw [r.inj r', Vals.inj t t']
section
variable {X : Cx} {pins : List (Addr × Obj)} {σ : St} {H : Hp} {s : Shared} {a : Addr} {xs ys : List V}
theorem SqL.of {K : PySem.W.Frag} (h : H a = some (.lst xs)) : SqL K H a xs := .inl (.inl h)
theorem SqT.of {K : PySem.W.Frag} (h : H a = some (.tup xs)) : SqT K H a xs := .inl (.inl h)
theorem Inv.list (I : Inv X pins σ H s) (h : SqL X.K H a xs) : ∃ its : List Value, Vals xs its ∧ PlainL s.heap a its.toArray ∧ xs.length ≤ sizeLine := by
  rcases h with h | ⟨o, its, n, hk, hc, hd, hs, hz, r⟩
  · obtain ⟨z, its, n, r, e⟩ := h.ok I.hok
    exact ⟨its, r, ⟨_, n, e, rfl, rfl, rfl⟩, z⟩
  · refine ⟨its.toList, r, ⟨o, n, I.kIn a o hk, hc, hd, by simpa using hs⟩, ?_⟩
    have e := r.length
    simp only [Array.length_toList] at e
    omega
theorem Inv.tuple (I : Inv X pins σ H s) (h : SqT X.K H a xs) : ∃ its : List Value, Vals xs its ∧ IsTup s.heap a its.toArray ∧ xs.length ≤ sizeLine := by
  rcases h with h | ⟨o, its, n, hk, hc, hs, hz, r⟩
  · obtain ⟨z, its, r, p, _⟩ := h.ok I.hok
    exact ⟨its, r, p, z⟩
  · refine ⟨its.toList, r, ⟨o, I.kIn a o hk, hc, n, by simpa using hs⟩, ?_⟩
    have e := r.length
    simp only [Array.length_toList] at e
    omega
theorem Inv.list_inj (I : Inv X pins σ H s) (h : SqL X.K H a xs) (h' : SqL X.K H a ys) : xs = ys := by
  obtain ⟨its, r, ⟨o, n, e, _, _, d⟩, _⟩ := I.list h
  obtain ⟨its', r', ⟨o', n', e', _, _, d'⟩, _⟩ := I.list h'
  rw [e] at e'; cases e'
  rw [d] at d'
  injection d' with d1 _
  have : its = its' := by simpa using congrArg Array.toList d1
  subst this
  exact r.inj r'
theorem Inv.tuple_inj (I : Inv X pins σ H s) (h : SqT X.K H a xs) (h' : SqT X.K H a ys) : xs = ys := by
  obtain ⟨its, r, ⟨o, e, _, n, d⟩, _⟩ := I.tuple h
  obtain ⟨its', r', ⟨o', e', _, n', d'⟩, _⟩ := I.tuple h'
  rw [e] at e'; cases e'
  rw [d] at d'
  injection d' with d1 _
  have : its = its' := by simpa using congrArg Array.toList d1
  subst this
  exact r.inj r'
end

abbrev Cx.wish (X : Cx) (E : Value → Shared → Prop) : Cx := { X with xe := E }
abbrev Cx.nox (X : Cx) : Cx := X.wish fun _ _ => False
theorem Cx.Ok.wish {X : Cx} (ok : X.Ok) (E : Value → Shared → Prop) : (X.wish E).Ok :=
  ⟨ok.mod, ok.kind, ok.glob, ok.blt, ok.above, ok.inj, ok.has, ok.cab, ok.hd, ok.frames, ok.stk, ok.exf, ok.bs, ok.bsz, ok.noex, ok.exfs, ok.funs, ok.frf⟩
theorem Cx.Ok.unwish {X : Cx} {E : Value → Shared → Prop} (ok : (X.wish E).Ok) : X.Ok :=
  ⟨ok.mod, ok.kind, ok.glob, ok.blt, ok.above, ok.inj, ok.has, ok.cab, ok.hd, ok.frames, ok.stk, ok.exf, ok.bs, ok.bsz, ok.noex, ok.exfs, ok.funs, ok.frf⟩
section
variable {X : Cx} {pins : List (Addr × Obj)} {σ : St} {H : Hp} {s : Shared} {E : Value → Shared → Prop}
theorem Inv.wish (I : Inv X pins σ H s) (E : Value → Shared → Prop) : Inv (X.wish E) pins σ H s := ⟨I.ok.wish E, I.os, I.bare, I.base, I.loc, I.cell, I.free, I.freeC, I.pin, I.hok, I.len⟩
theorem Inv.unwish (I : Inv (X.wish E) pins σ H s) : Inv X pins σ H s := ⟨I.ok.unwish, I.os, I.bare, I.base, I.loc, I.cell, I.free, I.freeC, I.pin, I.hok, I.len⟩
theorem SP.unwish {D : Ends} {f : Flow} {s' : Shared} (h : SP (X.wish E) pins D f s') : SP X pins D f s' := by
  cases f with
  | next => obtain ⟨σ', H', I, q⟩ := h; exact ⟨σ', H', I.unwish, q⟩
  | brk => obtain ⟨σ', H', I, q⟩ := h; exact ⟨σ', H', I.unwish, q⟩
  | cont => obtain ⟨σ', H', I, q⟩ := h; exact ⟨σ', H', I.unwish, q⟩
  | ret u => obtain ⟨v, σ', H', I, r, q⟩ := h; exact ⟨v, σ', H', I.unwish, r, q⟩
theorem PE.nox {e : Expr} {t : TE} (h : PE X.nox e t) : PE X e t := fun pins s σ H Q I hw =>
  wpAny_mono (h pins s σ H Q (I.wish _) hw) (fun _ _ ⟨v, H', I', r, q⟩ => ⟨v, H', I'.unwish, r, q⟩) fun _ _ z => False.elim z
theorem PT.nox {e : Expr} {t : TT} (h : PT X.nox e t) : PT X e t := fun pins s σ H Q I hw =>
  wpAny_mono (h pins s σ H Q (I.wish _) hw) (fun _ _ ⟨H', I', q⟩ => ⟨H', I'.unwish, q⟩) fun _ _ z => False.elim z
theorem PSs.nox {st : List Stmt} {t : TS} (h : PSs X.nox st t) : PSs X st t := fun pins s σ H D I hw =>
  wpAny_mono (h pins s σ H D (I.wish _) hw) (fun _ _ q => q.unwish) fun _ _ z => False.elim z
end

section
variable {X : Cx} {st : Stmt} {rest : List Stmt} {t u : TS} {e : Expr} {te : TE} {pos : Pos}
def tNext : TS := fun D σ H => D.nx σ H
def tSeq (t u : TS) : TS := fun D σ H => t { D with nx := u D } σ H
theorem pss_nil : PSs X [] tNext := fun _ _ σ H _ I h => wpAny_execs_nil ⟨σ, H, I, h⟩
theorem pss_cons (h1 : PS X st t) (h2 : PSs X rest u) : PSs X (st :: rest) (tSeq t u) := by
  intro pins s σ H D I h
  refine wpAny_execs_cons (thn (h1 pins s σ H { D with nx := u D } I h) fun f s1 q => ?_)
  cases f with
  | next =>
    obtain ⟨σ', H', I', q⟩ := q
    exact h2 pins s1 σ' H' D I' q
  | ret v => exact q
  | brk => exact q
  | cont => exact q
theorem pss_one (h1 : PS X st t) : PSs X [st] t := by
  intro pins s σ H D I h
  refine wpAny_execs_cons (thn (h1 pins s σ H D I h) fun f s1 q => ?_)
  cases f with
  | next => exact wpAny_execs_nil q
  | ret v => exact q
  | brk => exact q
  | cont => exact q
theorem Inv.quiet {pins : List (Addr × Obj)} {σ : St} {H : Hp} {s : Shared} (I : Inv X pins σ H s) : interactive X.env = false := by simp [interactive, I.ok.kind]
def tDrop (te : TE) : TS := fun D σ H => te σ H fun _ H1 => D.nx σ H1
theorem ps_expr (he : PE X e te) (hs : swapsWith e none pos.line X.env = pure false := by rfl) : PS X (.Expr e pos) (tDrop te) := by
  intro pins s σ H D I h
  exact wpAny_Expr_any (thn (he pins s σ H _ I h) fun v s1 ⟨x, H1, I1, r1, q1⟩ => ⟨σ, H1, I1, q1⟩) I.quiet hs
def tRet (te : TE) : TS := fun D σ H => te σ H D.rt
theorem ps_ret (he : PE X e te) : PS X (.Return (some e) pos) (tRet te) := by
  intro pins s σ H D I h
  exact wpAny_Return_some (thn (he pins s σ H _ I h) fun v s1 ⟨x, H1, I1, r1, q1⟩ => ⟨x, σ, H1, I1, r1, q1⟩)
def tIfS (c : TT) (t u : TS) : TS := fun D σ H => c σ H fun b H1 => if b = true then t D σ H1 else u D σ H1
theorem ps_if {c : Expr} {a b : List Stmt} {tc : TT} (hc : PT X c tc) (ha : PSs X a t) (hb : PSs X b u) : PS X (.If c a b pos) (tIfS tc t u) := by
  intro pins s σ H D I h
  refine wpAny_If (thn (hc pins s σ H _ I h) fun d s1 ⟨H1, I1, q1⟩ => ?_)
  cases d with
  | true => exact ha pins s1 σ H1 D I1 q1
  | false => exact hb pins s1 σ H1 D I1 q1
end

abbrev TG := V → St → Hp → (St → Hp → Prop) → Prop
abbrev TGs := List V → St → Hp → (St → Hp → Prop) → Prop
def PG (X : Cx) (target : Expr) (t : TG) : Prop :=
  ∀ (pins : List (Addr × Obj)) (s : Shared) (σ : St) (H : Hp) (v : V) (u : Value) (Q : St → Hp → Prop), Inv X pins σ H s → RelV v u → t v σ H Q →
    wpAny (model X.prog X.w) X.A (assign target X.env u) (fun _ s' => ∃ σ' H', Inv X pins σ' H' s' ∧ Q σ' H') X.xe s
def PGs (X : Cx) (ts : List Expr) (t : TGs) : Prop :=
  ∀ (pins : List (Addr × Obj)) (s : Shared) (σ : St) (H : Hp) (vs : List V) (us : List Value) (Q : St → Hp → Prop), Inv X pins σ H s → Vals vs us → t vs σ H Q →
    wpAny (model X.prog X.w) X.A (assignInOrder ((assignEach ts X.env).map (·.2)) us) (fun _ s' => ∃ σ' H', Inv X pins σ' H' s' ∧ Q σ' H') X.xe s
abbrev TSet := V → V → V → Hp → (Hp → Prop) → Prop
def PSet (X : Cx) (t : TSet) : Prop :=
  ∀ (pins : List (Addr × Obj)) (s : Shared) (σ : St) (H : Hp) (o i v : V) (ov iv u : Value) (Q : Hp → Prop), Inv X pins σ H s → RelV o ov → RelV i iv → RelV v u → t o i v H Q →
    wpAny (model X.prog X.w) X.A (setItem ov iv u) (fun _ s' => ∃ H', Inv X pins σ H' s' ∧ Q H') X.xe s
section
variable {X : Cx} {pos : Pos}
def gName (i : Nat) : TG := fun v σ H Q => Q (σ.set i (some v)) H
theorem pg_name {i : Nat} {x : Str} (hN : X.N.Nodup) (hi : X.N[i]? = some x) (hx : Loc X.env.scope x) (hf : X.fn x = true ∨ X.env.scope.names.lookup x = some .local := by first | exact .inl rfl | exact .inr rfl | assumption) : PG X (.Name x pos) (gName i) := by
  intro pins s σ H v u Q I r h
  exact wpAny_assign_Name (store_ok I hN hi hx r (fun s' I' => ⟨_, H, I', h⟩) hf)
def gNil : TGs := fun vs σ H Q => vs = [] ∧ Q σ H
def gCons (t : TG) (u : TGs) : TGs := fun vs σ H Q => ∃ v r, vs = v :: r ∧ t v σ H fun σ' H' => u r σ' H' Q
theorem pgs_nil : PGs X [] gNil := by
  intro pins s σ H vs us Q I r h
  obtain ⟨e, h⟩ := h
  subst e
  cases r
  exact assignInOrder_nil ⟨σ, H, I, h⟩
theorem pgs_cons {e : Expr} {es : List Expr} {t : TG} {u : TGs} (h1 : PG X e t) (h2 : PGs X es u)
    (hs : (assignEach (e :: es) X.env).map (·.2) = assign e X.env :: (assignEach es X.env).map (·.2) := by rfl) : PGs X (e :: es) (gCons t u) := by
  intro pins s σ H vs us Q I r h
  obtain ⟨v, vr, e1, h⟩ := h
  subst e1
  cases r with
  | cons r rr =>
    rw [hs]
    refine assignInOrder_cons (thn (h1 pins s σ H _ _ _ I r h) fun _ s1 ⟨σ1, H1, I1, q1⟩ => ?_)
    exact h2 pins s1 σ1 H1 _ _ Q I1 rr q1
def gTup (K : PySem.W.Frag) (n : Nat) (t : TGs) : TG := fun v σ H Q => ∃ a xs, v = .ref a ∧ SqT K H a xs ∧ xs.length = n ∧ t xs σ H Q
theorem pg_tup {es : List Expr} {k : Nat} {t : TGs} {n : Nat} (hc : X.calm = true) (h : PGs X es t)
    (hn : (assignEach es X.env).length = n := by rfl) (hst : (assignEach es X.env).findIdx? (·.1) = none := by rfl) : PG X (.Tuple es k pos) (gTup X.K n t) := by
  intro pins s σ H v u Q I r hw
  obtain ⟨a, xs, e1, hq, hl, hw⟩ := hw
  subst e1
  cases r
  obtain ⟨its, rv, ht, hz⟩ := I.tuple hq
  refine assign_Tuple_tuple (I.ok.hd hc) ht (by simp [hn, ← hl, rv.length]) hst fun h' hx => ?_
  have I1 : Inv X pins σ H { s with heap := h' } := I.kept (t' := s.toks) fun b o e => hx b o (Nat.ne_of_lt (Heap.lt_size e)) e
  exact h pins _ σ H xs _ Q I1 (by simpa using rv) hw
def gSub (to ti : TE) (t : TSet) : TG := fun v σ H Q => to σ H fun o H1 => ti σ H1 fun i H2 => t o i v H2 fun H3 => Q σ H3
theorem pg_sub {o i : Expr} {to ti : TE} {t : TSet} (ho : PE X o to) (hi : PE X i ti) (hs : PSet X t)
    (ha : ∀ v, assign (.Subscript o i pos) X.env v = (do
      let ov ← holding [v] (eval o X.env)
      let iv ← holding [v, ov] (eval i X.env)
      standAt pos
      holding [v, ov, iv] (setItem ov iv v)
      release [v, ov, iv] []) := by intro _; rfl) : PG X (.Subscript o i pos) (gSub to ti t) := by
  intro pins s σ H v u Q I r h
  rw [ha]
  refine wpAny_bind (wpAny_holding (thn (ho pins s σ H _ I h) fun ov s1 ⟨x, H1, I1, r1, q1⟩ => ?_))
  refine wpAny_bind (wpAny_holding (thn (hi pins s1 σ H1 _ I1 q1) fun iv s2 ⟨y, H2, I2, r2, q2⟩ => ?_))
  refine wpAny_bind (wpAny_standAt (wpAny_bind (wpAny_holding (thn (hs pins s2 σ H2 x y v ov iv u _ I2 r1 r2 r q2) fun _ s3 ⟨H3, I3, q3⟩ => ?_))))
  exact wpAny_release ⟨σ, H3, I3, q3⟩
def tAsg (te : TE) (g : TG) : TS := fun D σ H => te σ H fun x H1 => g x σ H1 D.nx
theorem ps_asg {tg e : Expr} {te : TE} {g : TG} (he : PE X e te) (hg : PG X tg g) (hs : swapsWithSole [tg] e pos.line X.env = pure false := by rfl) (hw : swappedStores [tg] e X.env = pure none := by rfl)
    (h1 : (assignEach [tg] X.env).map (·.2) = [assign tg X.env] := by rfl) : PS X (.Assign [tg] e pos) (tAsg te g) := by
  intro pins s σ H D I h
  refine wpAny_Assign_stores (thn (he pins s σ H _ I h) fun v s1 ⟨x, H1, I1, r1, q1⟩ => ?_) hs hw
  rw [h1]
  exact thn (hg pins s1 σ H1 x v _ I1 r1 q1) fun _ s2 q => q
theorem ps_set {i : Nat} {x : Str} {e : Expr} {te : TE} {pos' : Pos} (hN : X.N.Nodup) (hi : X.N[i]? = some x) (hx : Loc X.env.scope x) (he : PE X e te) (hs : swapsWith e (some (.Name x pos')) pos.line X.env = pure false := by rfl) (hf : X.fn x = true ∨ X.env.scope.names.lookup x = some .local := by first | exact .inl rfl | exact .inr rfl | assumption) :
    PS X (.Assign [.Name x pos'] e pos) (tAsg te (gName i)) := by
  intro pins s σ H D I h
  refine wpAny_Assign_Name (thn (he pins s σ H _ I h) fun v s1 ⟨y, H1, I1, r1, q1⟩ => ?_) hs
  exact store_ok I1 hN hi hx r1 (fun s2 I2 => ⟨_, H1, I2, q1⟩) hf
def tPar (i j : Nat) (ta : TA) : TS := fun D σ H => ta σ H fun vs H1 => ∃ v w, vs = [v, w] ∧ D.nx ((σ.set i (some v)).set j (some w)) H1
theorem ps_par {i j : Nat} {x y : Str} {a b : Expr} {ta : TA} {px py pt : Pos} {kt k2 pt2} (hc : X.calm = true) (hN : X.N.Nodup) (hi : X.N[i]? = some x) (hj : X.N[j]? = some y) (hij : i ≠ j)
    (hx : X.env.scope.names.lookup x = some .local) (hy : X.env.scope.names.lookup y = some .local) (ha : PA X [a, b] ta)
    (hw : swappedStores [.Tuple [.Name x px, .Name y py] kt pt] (.Tuple [a, b] k2 pt2) X.env = pure (some [x, y]))
    (hs : swapsWithSole [.Tuple [.Name x px, .Name y py] kt pt] (.Tuple [a, b] k2 pt2) pos.line X.env = pure false := by rfl) :
    PS X (.Assign [.Tuple [.Name x px, .Name y py] kt pt] (.Tuple [a, b] k2 pt2) pos) (tPar i j ta) := by
  intro pins s σ H D I h
  rw [exec_Assign_arm]
  refine wpAny_bind (wpAny_standAt ?_)
  rw [hs]
  refine wpAny_bind (wpAny_pure ?_)
  rw [if_neg (by decide)]
  refine wpAny_bind (Tuple_ (thn (ha _ pins s σ H _ I h) fun us s1 ⟨vs, H1, I1, r1, q1⟩ => ?_))
  obtain ⟨v, w, e1, q1⟩ := q1
  subst e1
  obtain ⟨u1, u2, rfl, rv, rw'⟩ : ∃ u1 u2, us = [u1, u2] ∧ RelV v u1 ∧ RelV w u2 := by
    cases r1 with
    | cons p q =>
      cases q with
      | cons p' q' =>
        cases q'
        exact ⟨_, _, rfl, p, p'⟩
  refine wpAny_newObj_type ?_ (by show 2 ≤ sizeLine; decide)
  have I2 : Inv X pins σ H1 { s1 with heap := s1.heap.push { cls := .type "tuple", data := .seq [u1, u2].toArray } } := I1.kept (t' := s1.toks) fun b o e => Heap.get?_push_of_some _ e
  rw [hw]
  refine wpAny_bind (wpAny_pure ?_)
  show wpAny (model X.prog X.w) X.A (do rule "assign.swapped-stores"; let items ← unpackItems (.ref s1.heap.objs.size) 2 none; assignInOrder [fun v => bindName X.env y v, fun v => bindName X.env x v] items.reverse; pure Flow.next) _ _ _
  refine wpAny_bind (wpAny_rule (wpAny_bind (unpackItems_tuple (items := #[u1, u2]) (I.ok.hd hc) (IsTup.new s1.heap _) fun h' hx' => ?_)))
  have I3 := I2.kept (h' := h') (t' := s1.toks) fun b o e => hx' b o (Nat.ne_of_lt (Heap.lt_size e)) e
  show wpAny _ _ (assignInOrder [fun v => bindName X.env y v, fun v => bindName X.env x v] [u2, u1] >>= fun _ => pure Flow.next) _ _ _
  refine wpAny_bind (assignInOrder_cons (wpAny_bindName (store_ok I3 hN hj (.inl hy) rw' (fun s2 I4 => ?_) (.inr hy))))
  refine assignInOrder_cons (wpAny_bindName (store_ok I4 hN hi (.inl hx) rv (fun s3 I5 => assignInOrder_nil (wpAny_pure ?_)) (.inr hx)))
  rw [List.set_comm _ _ (Ne.symm hij)] at I5
  exact ⟨_, H1, I5, q1⟩
end

section
variable {X : Cx} {pos : Pos}
end

structure It where
  go : Nat → Hp → Prop
  yld : Nat → Hp → V → Hp → Prop
  stop : Nat → Hp → Prop
def FpOk (X : Cx) (pins : List (Addr × Obj)) (H : Hp) (b : Addr) : Prop :=
  H b = none ∧ b ≠ X.env.locals ∧ b ∉ X.fs ∧ (b ∈ X.ex ∨ X.s₀.heap.objs.size ≤ b) ∧ (∀ x c, X.env.cells.lookup x = some c → c ≠ b) ∧ ∀ p ∈ X.pn ++ pins, p.1 ≠ b
theorem Inv.fpOk {X : Cx} {pins : List (Addr × Obj)} {σ : St} {H H' : Hp} {s : Shared} {b : Addr} (I : Inv X pins σ H s) (hb : s.heap.objs.size ≤ b) (hn : H' b = none) : FpOk X pins H' b := by
  refine ⟨hn, Nat.ne_of_gt (Nat.lt_of_lt_of_le I.lt hb), I.nofs hb, .inr (Nat.le_trans I.sz hb), fun x c e z => ?_, fun p hp z => ?_⟩
  · obtain ⟨v, q⟩ := I.cell x c e
    exact absurd (Nat.lt_of_lt_of_le q.lt (by rw [z]; exact hb)) (Nat.lt_irrefl _)
  · exact absurd (Nat.lt_of_lt_of_le (Heap.lt_size (I.pin p hp).1) (by rw [z]; exact hb)) (Nat.lt_irrefl _)
structure Turn (P : Program) (w : World) (K : PySem.W.Frag) (tg : Expr) (J : It) (fp : List Addr) (it : Addr) (tn : Nat → Heap → Prop) : Prop where
  mem : it ∈ fp
  obj : ∀ i h, tn i h → ∀ b ∈ fp, ∃ o, h.get? b = some o ∧ ∀ v, o.data ≠ .cell v
  keep : ∀ i h h', tn i h → (∀ b ∈ fp, ∀ o, h.get? b = some o → h'.get? b = some o) → tn i h'
  item : ∀ (X : Cx), X.prog = P → X.w = w → X.K = K → X.calm = true → ∀ (i : Nat) (pins : List (Addr × Obj)) (s : Shared) (σ : St) (H : Hp) (E : Value → Shared → Prop), Inv X pins σ H s → (∀ b ∈ fp, FpOk X pins H b) → tn i s.heap → J.go i H →
    wpAny (model P w) X.A (pyNext (.ref it)) (fun r s1 => ∃ u, r = some u ∧
      wpAny (model P w) X.A (letOwnedTupleGo tg (.ref it) u) (fun _ s2 => ∃ x H', Inv X pins σ H' s2 ∧ RelV x u ∧ J.yld i H x H' ∧ tn (i + 1) s2.heap ∧ ∀ b ∈ fp, H' b = none) E s1) E s
  done : ∀ (X : Cx), X.prog = P → X.w = w → X.K = K → X.calm = true → ∀ (i : Nat) (pins : List (Addr × Obj)) (s : Shared) (σ : St) (H : Hp) (E : Value → Shared → Prop), Inv X pins σ H s → (∀ b ∈ fp, FpOk X pins H b) → tn i s.heap → J.stop i H →
    wpAny (model P w) X.A (pyNext (.ref it)) (fun r s1 => r = none ∧ Inv X pins σ H s1) E s
  self : ∀ (A : Around) (i : Nat) (s : Shared) (Q : Value → Shared → Prop) (E : Value → Shared → Prop), tn i s.heap → Q (.ref it) s → wpAny (model P w) A (pyIter (.ref it)) Q E s
abbrev TI := St → Hp → (It → Hp → Prop) → Prop
def PIE (X : Cx) (pins : List (Addr × Obj)) (σ : St) (tg : Expr) (R : It → Hp → Prop) (itv : Value) (s2 : Shared) : Prop :=
  ∃ (it : Addr) (fp : List Addr) (tn : Nat → Heap → Prop) (J : It) (H' : Hp), itv = .ref it ∧ Inv X pins σ H' s2 ∧ Turn X.prog X.w X.K tg J fp it tn ∧ tn 0 s2.heap ∧ (∀ b ∈ fp, FpOk X pins H' b) ∧ R J H'
def PI (X : Cx) (tg iter : Expr) (wi : TI) : Prop :=
  ∀ (pins : List (Addr × Obj)) (s : Shared) (σ : St) (H : Hp) (R : It → Hp → Prop), Inv X pins σ H s → wi σ H R →
    wpAny (model X.prog X.w) X.A (eval iter X.env) (fun v s1 => wpAny (model X.prog X.w) X.A (pyIter v) (PIE X pins σ tg R) X.xe s1) X.xe s

theorem go_of {M : Model} {A : Around} {E : Value → Shared → Prop} {s : Shared} {tg : Expr} {it : Addr} {u : Value} {o : Obj} {n : String} {vs : Array Value} {Q : Unit → Shared → Prop} (ho : s.heap.get? it = some o) (hc : o.cls = .type n) (hd : o.data = .fields vs)
    (hn : ["enumerate", "zip", "dict_itemiterator", "dict_reverseitemiterator", "odict_iterator", "itertools.zip_longest", "itertools.pairwise"].contains n = false) (hQ : Q () s) : wpAny M A (letOwnedTupleGo tg (.ref it) u) Q E s := by
  unfold letOwnedTupleGo
  cases tg <;> first
    | exact wpAny_pure hQ
    | (cases u <;> first
        | exact wpAny_pure hQ
        | (refine wpAny_bind (wpAny_load ho ?_)
           rw [hc, hd]
           show wpAny M A (if (["enumerate", "zip", "dict_itemiterator", "dict_reverseitemiterator", "odict_iterator", "itertools.zip_longest", "itertools.pairwise"].contains n && vs[0]? == some (rawInt _)) = true then _ else _) Q E s
           rw [if_neg (by intro h; rw [hn, Bool.false_and] at h; cases h)]
           exact wpAny_pure hQ))

def Itl (K : PySem.W.Frag) (a : Addr) : It :=
  ⟨fun i H => ∃ xs x, SqL K H a xs ∧ xs[i]? = some x, fun i H x H' => H' = H ∧ ∀ xs, SqL K H a xs → xs[i]? = some x, fun i H => ∃ xs, SqL K H a xs ∧ xs.length ≤ i⟩
def Itt (K : PySem.W.Frag) (a : Addr) : It :=
  ⟨fun i H => ∃ xs x, SqT K H a xs ∧ xs[i]? = some x, fun i H x H' => H' = H ∧ ∀ xs, SqT K H a xs → xs[i]? = some x, fun i H => ∃ xs, SqT K H a xs ∧ xs.length ≤ i⟩
def Itr (lo : Int) (n : Nat) : It := ⟨fun i _ => i < n, fun i H x H' => H' = H ∧ x = .int (lo + i), fun i _ => n ≤ i⟩
theorem turn_list {P : Program} {w : World} {K : PySem.W.Frag} {tg : Expr} (a it : Addr) : Turn P w K tg (Itl K a) [it] it (fun i h => h.IsListIter it a i) where
  mem := by simp
  obj := fun i h st b hb => by
    have e : b = it := by simpa using hb
    subst e
    obtain ⟨o, e, c, d⟩ := st
    exact ⟨o, e, fun v z => by rw [d] at z; cases z⟩
  keep := fun i h h' st k => st.at fun o e => k it (by simp) o e
  item := by
    intro X hP hw hK hc i pins s σ H E I hf st hg
    subst hP hw hK
    obtain ⟨xs, x, hq, hx⟩ := hg
    obtain ⟨its, rv, p, hz⟩ := I.list hq
    obtain ⟨u, hu, ru⟩ := rv.get hx
    obtain ⟨f0, f1, f2, f3, f4, f5⟩ := hf it (by simp)
    refine wpAny_pyNext_list_item st p.isList (x := u) (by simpa using hu) fun h' st' sb => ?_
    have I1 : Inv X pins σ H { s with heap := h' } := I.turned (t' := s.toks) (fun b o hb e => (sb.2 b hb).trans e) f0 f1 f3 f4 f5
    obtain ⟨o, e, c, d⟩ := id st'
    exact ⟨u, rfl, go_of (s := { s with heap := h' }) e c d (by decide) ⟨x, H, I1, ru, ⟨rfl, fun ys hy => by rw [I.list_inj hy hq]; exact hx⟩, st', fun b hb => (hf b hb).1⟩⟩
  done := by
    intro X hP hw hK hc i pins s σ H E I hf st hg
    subst hP hw hK
    obtain ⟨xs, hq, hx⟩ := hg
    obtain ⟨its, rv, p, hz⟩ := I.list hq
    obtain ⟨f0, f1, f2, f3, f4, f5⟩ := hf it (by simp)
    have hl := rv.length
    exact wpAny_pyNext_list_end (I.ok.hd hc) st p.isList (by simp; omega) fun h' eb => ⟨rfl, I.turned (t' := s.toks) (fun b o hb e => eb b o hb e) f0 f1 f3 f4 f5⟩
  self := fun _ _ _ _ _ st h => wpAny_pyIter_listiter st h
theorem turn_tuple {P : Program} {w : World} {K : PySem.W.Frag} {tg : Expr} (a it : Addr) : Turn P w K tg (Itt K a) [it] it (fun i h => h.IsTupleIter it a i) where
  mem := by simp
  obj := fun i h st b hb => by
    have e : b = it := by simpa using hb
    subst e
    obtain ⟨o, e, c, d⟩ := st
    exact ⟨o, e, fun v z => by rw [d] at z; cases z⟩
  keep := fun i h h' st k => st.at fun o e => k it (by simp) o e
  item := by
    intro X hP hw hK hc i pins s σ H E I hf st hg
    subst hP hw hK
    obtain ⟨xs, x, hq, hx⟩ := hg
    obtain ⟨its, rv, p, hz⟩ := I.tuple hq
    obtain ⟨u, hu, ru⟩ := rv.get hx
    obtain ⟨f0, f1, f2, f3, f4, f5⟩ := hf it (by simp)
    refine wpAny_pyNext_tuple_item st (show s.heap.IsTuple a its.toArray from p) (x := u) (by simpa using hu) fun h' st' sb => ?_
    have I1 : Inv X pins σ H { s with heap := h' } := I.turned (t' := s.toks) (fun b o hb e => (sb.2 b hb).trans e) f0 f1 f3 f4 f5
    obtain ⟨o, e, c, d⟩ := id st'
    exact ⟨u, rfl, go_of (s := { s with heap := h' }) e c d (by decide) ⟨x, H, I1, ru, ⟨rfl, fun ys hy => by rw [I.tuple_inj hy hq]; exact hx⟩, st', fun b hb => (hf b hb).1⟩⟩
  done := by
    intro X hP hw hK hc i pins s σ H E I hf st hg
    subst hP hw hK
    obtain ⟨xs, hq, hx⟩ := hg
    obtain ⟨its, rv, p, hz⟩ := I.tuple hq
    obtain ⟨f0, f1, f2, f3, f4, f5⟩ := hf it (by simp)
    have hl := rv.length
    exact wpAny_pyNext_tuple_end (I.ok.hd hc) st (show s.heap.IsTuple a its.toArray from p) (by simp; omega) fun h' eb => ⟨rfl, I.turned (t' := s.toks) (fun b o hb e => eb b o hb e) f0 f1 f3 f4 f5⟩
  self := fun _ _ _ _ _ st h => wpAny_pyIter_tupleiter st h
theorem turn_range {P : Program} {w : World} {K : PySem.W.Frag} {tg : Expr} (it : Addr) (lo : Int) (n : Nat) : Turn P w K tg (Itr lo n) [it] it (fun i h => IsRangeIter h it (lo + (i : Nat) * 1) ((n : Int) - (i : Nat)) 1) where
  mem := by simp
  obj := fun i h st b hb => by
    have e : b = it := by simpa using hb
    subst e
    exact ⟨_, st, fun v z => by
      have z' : Data.fields _ = Data.cell v := z
      cases z'⟩
  keep := fun i h h' st k => k it (by simp) _ st
  item := by
    intro X hP hw hK hc i pins s σ H E I hf st hg
    subst hP hw hK
    obtain ⟨f0, f1, f2, f3, f4, f5⟩ := hf it (by simp)
    have W := Walks.range (prog := X.prog) (w := X.w) (I.ok.hd hc) it lo 1 n
    refine W.item i s _ _ hg st fun v h' tk hv st' kk => ?_
    obtain ⟨t, rfl⟩ := hv
    have I1 : Inv X pins σ H { s with heap := h', toks := tk } := I.turned (fun b o hb e => kk b o (by simpa using hb) e) f0 f1 f3 f4 f5
    refine ⟨_, rfl, go_of (s := { s with heap := h', toks := tk }) (n := "range_iterator") st' rfl rfl (by decide) ⟨.int (lo + i), H, I1, ⟨t, ?_⟩, ⟨rfl, rfl⟩, st', fun b hb => (hf b hb).1⟩⟩
    rw [Int.mul_one]
  done := by
    intro X hP hw hK hc i pins s σ H E I hf st hg
    subst hP hw hK
    obtain ⟨f0, f1, f2, f3, f4, f5⟩ := hf it (by simp)
    exact wpAny_pyNext_range_end (I.ok.hd hc) st (by have : n ≤ i := hg; omega) fun h' eb => ⟨rfl, I.turned (t' := s.toks) (fun b o hb e => eb b o hb e) f0 f1 f3 f4 f5⟩
  self := fun _ _ _ _ _ st h => wpAny_pyIter_rangeiter st h
end L2

namespace L2
open PySem PySem.Spec PyProof.Rows
section
variable {X : Cx} {tg : Expr}
def iList (K : PySem.W.Frag) (tl : TE) : TI := fun σ H R => tl σ H fun x H1 => ∃ a, x = .ref a ∧ (∃ xs, SqL K H1 a xs) ∧ R (Itl K a) H1
def iTup (K : PySem.W.Frag) (tl : TE) : TI := fun σ H R => tl σ H fun x H1 => ∃ a, x = .ref a ∧ (∃ xs, SqT K H1 a xs) ∧ R (Itt K a) H1
theorem pi_list {l : Expr} {tl : TE} (hl : PE X l tl) : PI X tg l (iList X.K tl) := by
  intro pins s σ H R I h
  refine thn (hl pins s σ H _ I h) fun v s1 ⟨x, H1, I1, r1, q1⟩ => ?_
  obtain ⟨a, e, ⟨xs, hq⟩, q⟩ := q1
  subst e
  cases r1
  obtain ⟨its, rv, p, hz⟩ := I1.list hq
  refine wpAny_pyIter_list p.isList ?_
  refine ⟨s1.heap.objs.size, [s1.heap.objs.size], _, _, H1, rfl, I1.kept (t' := s1.toks) fun b o e => Heap.get?_push_of_some _ e, turn_list a _, ⟨_, Heap.get?_push_size _ rfl, rfl, rfl⟩, fun b hb => ?_, q⟩
  have e : b = s1.heap.objs.size := by simpa using hb
  subst e
  exact I1.fpOk (Nat.le_refl _) (I1.hok.fresh (Nat.le_refl _))
theorem pi_tup {l : Expr} {tl : TE} (hl : PE X l tl) : PI X tg l (iTup X.K tl) := by
  intro pins s σ H R I h
  refine thn (hl pins s σ H _ I h) fun v s1 ⟨x, H1, I1, r1, q1⟩ => ?_
  obtain ⟨a, e, ⟨xs, hq⟩, q⟩ := q1
  subst e
  cases r1
  obtain ⟨its, rv, p, hz⟩ := I1.tuple hq
  refine wpAny_pyIter_tuple (show s1.heap.IsTuple a its.toArray from p) ?_
  refine ⟨s1.heap.objs.size, [s1.heap.objs.size], _, _, H1, rfl, I1.kept (t' := s1.toks) fun b o e => Heap.get?_push_of_some _ e, turn_tuple a _, ⟨_, Heap.get?_push_size _ rfl, rfl, rfl⟩, fun b hb => ?_, q⟩
  have e : b = s1.heap.objs.size := by simpa using hb
  subst e
  exact I1.fpOk (Nat.le_refl _) (I1.hok.fresh (Nat.le_refl _))
theorem range_it {pins : List (Addr × Obj)} {σ : St} {H : Hp} {s : Shared} {R : It → Hp → Prop} {E : Value → Shared → Prop} {lo hi : Int} {t u v : Tok} {tk : Nat} (I : Inv X pins σ H s) (h1 : -(2 ^ 62) ≤ lo) (h2 : lo < 2 ^ 62) (h3 : -(2 ^ 62) ≤ hi) (h4 : hi < 2 ^ 62)
    (q : R (Itr lo (hi - lo).toNat) H) : wpAny (model X.prog X.w) X.A (pyIter (.ref s.heap.objs.size)) (PIE X pins σ tg R) E { s with heap := s.heap.push { cls := .type "range", data := .fields #[.int lo t, .int hi u, .int 1 v] }, toks := tk } := by
  refine wpAny_pyIter_range (IsRange.new ..) (small_one h1 h2 h3 h4) ?_
  have I1 : Inv X pins σ H { s with heap := s.heap.push { cls := .type "range", data := .fields #[.int lo t, .int hi u, .int 1 v] }, toks := tk } := I.kept fun b o e => Heap.get?_push_of_some _ e
  refine ⟨(s.heap.push { cls := .type "range", data := .fields #[.int lo t, .int hi u, .int 1 v] }).objs.size, [(s.heap.push { cls := .type "range", data := .fields #[.int lo t, .int hi u, .int 1 v] }).objs.size], _, _, H, rfl,
    I1.kept (t' := tk) fun b o e => Heap.get?_push_of_some _ e, turn_range _ lo (hi - lo).toNat, ?_, fun b hb => ?_, q⟩
  · have e1 : lo + ((0 : Nat) : Int) * 1 = lo := by simp
    have e2 : (((hi - lo).toNat : Nat) : Int) - ((0 : Nat) : Int) = Builtin.Range.rangeSize lo hi 1 := by rw [rangeSize_one]; split <;> omega
    show IsRangeIter _ _ (lo + ((0 : Nat) : Int) * 1) ((((hi - lo).toNat : Nat) : Int) - ((0 : Nat) : Int)) 1
    rw [e1, e2]
    exact Heap.get?_push_size _ rfl
  · have e : b = (s.heap.push { cls := .type "range", data := .fields #[.int lo t, .int hi u, .int 1 v] }).objs.size := by simpa using hb
    subst e
    exact I1.fpOk (Nat.le_refl _) (I1.hok.fresh (Nat.le_refl _))
def iRng1 (ta : TA) : TI := fun σ H R => ta σ H fun vs H1 => ∃ j : Int, vs = [.int j] ∧ -(2 ^ 62) ≤ j ∧ j < 2 ^ 62 ∧ R (Itr 0 j.toNat) H1
def iRng2 (ta : TA) : TI := fun σ H R => ta σ H fun vs H1 => ∃ i j : Int, vs = [.int i, .int j] ∧ (-(2 ^ 62) ≤ i ∧ i < 2 ^ 62 ∧ -(2 ^ 62) ≤ j ∧ j < 2 ^ 62) ∧ R (Itr i (j - i).toNat) H1
theorem pi_range1 {a : Expr} {ta : TA} {p pos : Pos} (hg : Gl X "range") (hm : X.mg "range" = none) (ha : PA X [a] ta) (hs : starEach [a] X.env = [(false, eval a X.env)] := by rfl) : PI X tg (.Call (.Name "range" p) [a] [] pos) (iRng1 ta) := by
  intro pins s σ H R I h
  refine Call_ (ld_blt I hg hm boot_range (PyProof.Rows.callWith_type1 (thn (ha pos pins s σ H _ I h) fun us s1 ⟨vs, H1, I1, r1, q1⟩ => ?_) hs rfl))
  obtain ⟨j, e, q1, q2, q⟩ := q1
  subst e
  cases r1 with
  | cons r rr =>
    cases rr
    obtain ⟨t, rfl⟩ := r
    exact call_range_1 (range_it I1 (by omega) (by omega) q1 q2 (by simpa using q))
theorem pi_range2 {a b : Expr} {ta : TA} {p pos : Pos} (hg : Gl X "range") (hm : X.mg "range" = none) (ha : PA X [a, b] ta) (hs : starEach [a, b] X.env = [(false, eval a X.env), (false, eval b X.env)] := by rfl) (hs2 : starEach [b] X.env = [(false, eval b X.env)] := by rfl) :
    PI X tg (.Call (.Name "range" p) [a, b] [] pos) (iRng2 ta) := by
  intro pins s σ H R I h
  refine Call_ (ld_blt I hg hm boot_range (PyProof.Rows.callWith_type1 (thn (ha pos pins s σ H _ I h) fun us s1 ⟨vs, H1, I1, r1, q1⟩ => ?_) (by rw [hs, hs2]) (by rw [hs2]; rfl)))
  obtain ⟨i, j, e, ⟨q1, q2, q3, q4⟩, q⟩ := q1
  subst e
  cases r1 with
  | cons r rr =>
    cases rr with
    | cons r' rr =>
      cases rr
      obtain ⟨t, rfl⟩ := r
      obtain ⟨t', rfl⟩ := r'
      exact call_range_2 (range_it I1 q1 q2 q3 q4 q)

def tFor (wi : TI) (g : TG) (tb : TS) : TS := fun D σ H => wi σ H fun J H1 => ∃ W : Nat → Nat → St → Hp → Prop, (∃ m, W 0 m σ H1) ∧ ∀ i m σ H, W i m σ H →
  (J.stop i H ∧ D.nx σ H) ∨ (J.go i H ∧ ∃ N : St → Hp → Prop, (∀ σ' H', N σ' H' → ∃ m', m' < m ∧ W (i + 1) m' σ' H') ∧ ∀ x H', J.yld i H x H' → g x σ H' fun σ2 H2 => tb { D with nx := N, ct := N, bk := D.nx } σ2 H2)
def pinsAt (fp : List Addr) (h : Heap) : List (Addr × Obj) := fp.filterMap fun b => (h.get? b).map fun o => (b, o)
theorem mem_pinsAt {fp : List Addr} {h : Heap} {b : Addr} {o : Obj} (hb : b ∈ fp) (e : h.get? b = some o) : (b, o) ∈ pinsAt fp h := List.mem_filterMap.mpr ⟨b, hb, by rw [e]; rfl⟩
theorem of_pinsAt {fp : List Addr} {h : Heap} {p : Addr × Obj} (hp : p ∈ pinsAt fp h) : p.1 ∈ fp ∧ h.get? p.1 = some p.2 := by
  obtain ⟨b, hb, e⟩ := List.mem_filterMap.mp hp
  cases q : h.get? b with
  | none => rw [q] at e; cases e
  | some o =>
    rw [q] at e
    have e' : (b, o) = p := Option.some.inj e
    subst e'
    exact ⟨hb, q⟩
theorem Inv.pinned {pins : List (Addr × Obj)} {σ : St} {H : Hp} {s : Shared} {fp : List Addr} (I : Inv X pins σ H s) (hf : ∀ b ∈ fp, FpOk X pins H b) (ho : ∀ b ∈ fp, ∃ o, s.heap.get? b = some o ∧ ∀ v, o.data ≠ .cell v) : Inv X (pins ++ pinsAt fp s.heap) σ H s :=
  I.pins_of fun p hp => (List.mem_append.mp hp).elim (fun z => I.pin p (List.mem_append_right _ z)) fun z => by
    obtain ⟨hb, e⟩ := of_pinsAt z
    obtain ⟨f0, f1, f2, _⟩ := hf p.1 hb
    obtain ⟨o, e', d⟩ := ho p.1 hb
    rw [e] at e'; cases e'
    exact ⟨e, f0, f1, f2, d⟩
theorem Inv.unpinned {pins pl : List (Addr × Obj)} {σ : St} {H : Hp} {s : Shared} (I : Inv X (pins ++ pl) σ H s) : Inv X pins σ H s := I.pins_of fun p hp => I.pin p (List.mem_append_right _ (List.mem_append_left _ hp))
theorem ps_for {iter : Expr} {body : List Stmt} {wi : TI} {g : TG} {tb : TS} {pos : Pos} (hp : PassesOwn (model X.prog X.w) X.A X.env X.xe) (hc : X.calm = true) (hi : PI X tg iter wi) (hg : PG X tg g) (hb : PSs X body tb)
    (hs : ∀ x, foldedSetIterable iter X.env x = pure x := by intro _; rfl) : PS X (.For tg iter body [] pos) (tFor wi g tb) := by
  intro pins s σ H D I h
  refine wpAny_For (thn (hi pins s σ H _ I h) fun v s1 h1 => thn h1 fun itv s2 h2 => ?_) hs
  obtain ⟨it, fp, tn, J, H2, e, I2, T, st2, f2, W, ⟨m0, w0⟩, turn⟩ := h2
  subst e
  -- what stays true of the iterator's objects through the loop
  have stat : ∀ {H' : Hp}, (∀ b ∈ fp, H' b = none) → ∀ b ∈ fp, FpOk X pins H' b := fun hn b hb => ⟨hn b hb, (f2 b hb).2⟩
  refine codeAny_forLoop_any (fun n s' => ∃ i σ' H', Inv X pins σ' H' s' ∧ tn i s'.heap ∧ (∀ b ∈ fp, H' b = none) ∧ W i n σ' H') ?_ m0 ⟨0, σ, H2, I2, st2, fun b hb => (f2 b hb).1, w0⟩
  rintro n s3 ⟨i, σ3, H3, I3, st3, fr3, w3⟩
  rcases turn i n σ3 H3 w3 with ⟨stop, qn⟩ | ⟨go, N, hN, step⟩
  · refine wpAny_passesOwn hp (thn (T.done X rfl rfl rfl hc i pins s3 σ3 H3 X.xe I3 (stat fr3) st3 stop) fun r s4 ⟨hr, I4⟩ => ?_)
    subst hr
    exact wpAny_execs_nil ⟨σ3, H3, I4, qn⟩
  · refine wpAny_passesOwn hp (thn (T.item X rfl rfl rfl hc i pins s3 σ3 H3 X.xe I3 (stat fr3) st3 go) fun r s4 ⟨u, hr, h4⟩ => ?_)
    subst hr
    refine wpAny_passesOwn hp (thn h4 fun _ s5 ⟨x, H5, I5, r5, y5, st5, fr5⟩ => ?_)
    have I5' := I5.pinned (stat fr5) (T.obj _ _ st5)
    refine wpAny_passesOwn hp (thn (hg _ s5 σ3 H5 x u _ I5' r5 (step x H5 y5)) fun _ s6 ⟨σ6, H6, I6, q6⟩ => ?_)
    refine wpAny_passesOwn hp (thn (hb _ s6 σ6 H6 _ I6 q6) fun f s7 q7 => ?_)
    have again : ∀ {σ7 : St} {H7 : Hp}, Inv X (pins ++ pinsAt fp s5.heap) σ7 H7 s7 → N σ7 H7 → ∃ m, m < n ∧ ∃ i σ' H', Inv X pins σ' H' s7 ∧ tn i s7.heap ∧ (∀ b ∈ fp, H' b = none) ∧ W i m σ' H' := fun {σ7 H7} I7 n7 => by
      obtain ⟨m', hm, w7⟩ := hN σ7 H7 n7
      refine ⟨m', hm, i + 1, σ7, H7, I7.unpinned, T.keep _ _ _ st5 fun b hb o e => (I7.pin (b, o) (List.mem_append_right _ (List.mem_append_right _ (mem_pinsAt hb e)))).1, fun b hb => ?_, w7⟩
      obtain ⟨o, e, d⟩ := T.obj _ _ st5 b hb
      exact (I7.pin (b, o) (List.mem_append_right _ (List.mem_append_right _ (mem_pinsAt hb e)))).2.1
    cases f with
    | next => obtain ⟨σ7, H7, I7, n7⟩ := q7; exact again I7 n7
    | cont => obtain ⟨σ7, H7, I7, n7⟩ := q7; exact again I7 n7
    | brk => obtain ⟨σ7, H7, I7, q7⟩ := q7; exact ⟨σ7, H7, I7.unpinned, q7⟩
    | ret v => obtain ⟨x7, σ7, H7, I7, r7, q7⟩ := q7; exact ⟨x7, σ7, H7, I7.unpinned, r7, q7⟩
end

theorem for_list {K : PySem.W.Frag} {a : Addr} {xs : List V} {g : TG} {tb : TS} {D : Ends} {σ : St} {H : Hp} (Pv : Nat → St → Hp → Prop) (h0 : Pv 0 σ H) (hl : ∀ i σ H, i ≤ xs.length → Pv i σ H → SqL K H a xs)
    (hs : ∀ i x σ H, xs[i]? = some x → Pv i σ H → g x σ H fun σ2 H2 => tb { D with nx := Pv (i + 1), ct := Pv (i + 1), bk := D.nx } σ2 H2) (hd : ∀ σ H, Pv xs.length σ H → D.nx σ H) :
    ∃ W : Nat → Nat → St → Hp → Prop, (∃ m, W 0 m σ H) ∧ ∀ i m σ H, W i m σ H →
      ((Itl K a).stop i H ∧ D.nx σ H) ∨ ((Itl K a).go i H ∧ ∃ N : St → Hp → Prop, (∀ σ' H', N σ' H' → ∃ m', m' < m ∧ W (i + 1) m' σ' H') ∧ ∀ x H', (Itl K a).yld i H x H' → g x σ H' fun σ2 H2 => tb { D with nx := N, ct := N, bk := D.nx } σ2 H2) := by
  refine ⟨fun i m σ H => m = xs.length - i ∧ i ≤ xs.length ∧ Pv i σ H, ⟨xs.length, by simp, Nat.zero_le _, h0⟩, ?_⟩
  rintro i m σ H ⟨rfl, hi, p⟩
  have q := hl i σ H hi p
  by_cases hlt : i < xs.length
  · refine .inr ⟨⟨xs, xs[i], q, by simp [hlt]⟩, Pv (i + 1), fun σ' H' p' => ⟨xs.length - (i + 1), by omega, rfl, hlt, p'⟩, fun x H' y => ?_⟩
    obtain ⟨e, y⟩ := y
    subst e
    exact hs i x σ _ (y xs q) p
  · have e : i = xs.length := by omega
    subst e
    exact .inl ⟨⟨xs, q, Nat.le_refl _⟩, hd σ H p⟩
theorem for_range {lo : Int} {n : Nat} {g : TG} {tb : TS} {D : Ends} {σ : St} {H : Hp} (Pv : Nat → St → Hp → Prop) (h0 : Pv 0 σ H)
    (hs : ∀ i σ H, i < n → Pv i σ H → g (.int (lo + i)) σ H fun σ2 H2 => tb { D with nx := Pv (i + 1), ct := Pv (i + 1), bk := D.nx } σ2 H2) (hd : ∀ σ H, Pv n σ H → D.nx σ H) :
    ∃ W : Nat → Nat → St → Hp → Prop, (∃ m, W 0 m σ H) ∧ ∀ i m σ H, W i m σ H →
      ((Itr lo n).stop i H ∧ D.nx σ H) ∨ ((Itr lo n).go i H ∧ ∃ N : St → Hp → Prop, (∀ σ' H', N σ' H' → ∃ m', m' < m ∧ W (i + 1) m' σ' H') ∧ ∀ x H', (Itr lo n).yld i H x H' → g x σ H' fun σ2 H2 => tb { D with nx := N, ct := N, bk := D.nx } σ2 H2) := by
  refine ⟨fun i m σ H => m = n - i ∧ i ≤ n ∧ Pv i σ H, ⟨n, by simp, Nat.zero_le _, h0⟩, ?_⟩
  rintro i m σ H ⟨rfl, hi, p⟩
  by_cases hlt : i < n
  · refine .inr ⟨hlt, Pv (i + 1), fun σ' H' p' => ⟨n - (i + 1), by omega, rfl, hlt, p'⟩, fun x H' y => ?_⟩
    obtain ⟨e, y⟩ := y
    subst e y
    exact hs i σ _ hlt p
  · have e : i = n := by omega
    subst e
    exact .inl ⟨Nat.le_refl _, hd σ H p⟩
end L2

namespace L2
open PySem PySem.Spec PyProof.Rows

abbrev R2 := V → V → Hp → VK → Prop
def OpR (X : Cx) (f : Value → Value → Sem Value) (r : R2) : Prop :=
  ∀ (pins : List (Addr × Obj)) (s : Shared) (σ : St) (H : Hp) (x y : V) (v u : Value) (Q : VK), Inv X pins σ H s → RelV x v → RelV y u → r x y H Q →
    wpAny (model X.prog X.w) X.A (f v u) (EP X pins σ Q) X.xe s
def UnR (X : Cx) (f : Value → Sem Value) (r : V → Hp → VK → Prop) : Prop :=
  ∀ (pins : List (Addr × Obj)) (s : Shared) (σ : St) (H : Hp) (x : V) (v : Value) (Q : VK), Inv X pins σ H s → RelV x v → r x H Q →
    wpAny (model X.prog X.w) X.A (f v) (EP X pins σ Q) X.xe s
def CallR (X : Cx) (f : Value) (r : List V → Hp → VK → Prop) : Prop :=
  ∀ (pins : List (Addr × Obj)) (s : Shared) (σ : St) (H : Hp) (xs : List V) (us : List Value) (Q : VK), Inv X pins σ H s → Vals xs us → r xs H Q →
    wpAny (model X.prog X.w) X.A (call f us) (EP X pins σ Q) X.xe s
def tOp (r : R2) (ta tb : TE) : TE := fun σ H Q => ta σ H fun x H1 => tb σ H1 fun y H2 => r x y H2 Q
def tUn (r : V → Hp → VK → Prop) (ta : TE) : TE := fun σ H Q => ta σ H fun x H1 => r x H1 Q
def rI (C : Int → Int → Prop) (g : Int → Int → V) : R2 := fun x y H Q => ∃ i j, x = .int i ∧ y = .int j ∧ C i j ∧ Q (g i j) H
def rI0 (g : Int → Int → V) : R2 := fun x y H Q => ∃ i j, x = .int i ∧ y = .int j ∧ Q (g i j) H
def rU (g : Int → V) : V → Hp → VK → Prop := fun x H Q => ∃ i, x = .int i ∧ Q (g i) H

section
variable {X : Cx} {a b c : Expr} {ta tb tc : TE} {pos : Pos}

theorem binT (ha : PE X a ta) (hb : PE X b tb) {pins : List (Addr × Obj)} {s : Shared} {σ : St} {H : Hp} {R : V → V → Hp → Prop} (I : Inv X pins σ H s)
    (h : ta σ H fun x H1 => tb σ H1 fun y H2 => R x y H2) {Q : Value → Shared → Prop} {f : Value → Value → Sem Value}
    (hf : ∀ v u s2 x y H2, Inv X pins σ H2 s2 → RelV x v → RelV y u → R x y H2 → wpAny (model X.prog X.w) X.A (f v u) Q X.xe s2) :
    wpAny (model X.prog X.w) X.A (eval a X.env) (fun v s₁ => wpAny (model X.prog X.w) X.A (eval b X.env) (fun u s₂ => wpAny (model X.prog X.w) X.A (f v u) Q X.xe s₂) X.xe s₁) X.xe s := by
  refine thn (ha pins s σ H _ I h) fun v s1 ⟨x, H1, I1, r1, q1⟩ => ?_
  refine thn (hb pins s1 σ H1 _ I1 q1) fun u s2 ⟨y, H2, I2, r2, q2⟩ => ?_
  exact hf v u s2 x y H2 I2 r1 r2 q2

theorem pe_op {op : Operator} {r : R2} (ho : OpR X (binaryOp op) r) (ha : PE X a ta) (hb : PE X b tb) : PE X (.BinOp a op b pos) (tOp r ta tb) := by
  intro pins s σ H Q I h
  exact wpAny_BinOp (binT ha hb I h fun v u s2 x y H2 I2 rx ry q => ho pins s2 σ H2 x y v u Q I2 rx ry q)
theorem pe_un {op : UnaryOp} {r : V → Hp → VK → Prop} (ho : UnR X (unaryOp op) r) (ha : PE X a ta) : PE X (.UnaryOp op a pos) (tUn r ta) := by
  intro pins s σ H Q I h
  exact UnaryOp_ (thn (ha pins s σ H _ I h) fun v s1 ⟨x, H1, I1, r1, q1⟩ => ho pins s1 σ H1 x v Q I1 r1 q1)
theorem opI {f : Value → Value → Sem Value} {C : Int → Int → Prop} {g : Int → Int → Int}
    (rule : ∀ (i j : Int) (t u : Tok) (s : Shared) (Q : Value → Shared → Prop) (E : Value → Shared → Prop), C i j → Q (.int (g i j) s.toks) { s with toks := s.toks + 1 } → wpAny (model X.prog X.w) X.A (f (.int i t) (.int j u)) Q E s) :
    OpR X f (rI C fun i j => .int (g i j)) := by
  intro pins s σ H x y v u Q I rx ry h
  obtain ⟨i, j, rfl, rfl, hc, q⟩ := h
  obtain ⟨t, rfl⟩ := rx
  obtain ⟨t', rfl⟩ := ry
  exact rule i j t t' s _ _ hc ⟨.int (g i j), H, I.tok _, ⟨_, rfl⟩, q⟩
theorem opI0 {f : Value → Value → Sem Value} {g : Int → Int → Int}
    (rule : ∀ (i j : Int) (t u : Tok) (s : Shared) (Q : Value → Shared → Prop) (E : Value → Shared → Prop), Q (.int (g i j) s.toks) { s with toks := s.toks + 1 } → wpAny (model X.prog X.w) X.A (f (.int i t) (.int j u)) Q E s) :
    OpR X f (rI0 fun i j => .int (g i j)) := by
  intro pins s σ H x y v u Q I rx ry h
  obtain ⟨i, j, rfl, rfl, q⟩ := h
  obtain ⟨t, rfl⟩ := rx
  obtain ⟨t', rfl⟩ := ry
  exact rule i j t t' s _ _ ⟨.int (g i j), H, I.tok _, ⟨_, rfl⟩, q⟩
theorem opB0 {f : Value → Value → Sem Value} {g : Int → Int → Bool}
    (rule : ∀ (i j : Int) (t u : Tok) (s : Shared) (Q : Value → Shared → Prop) (E : Value → Shared → Prop), Q (.bool (g i j)) s → wpAny (model X.prog X.w) X.A (f (.int i t) (.int j u)) Q E s) :
    OpR X f (rI0 fun i j => .bl (g i j)) := by
  intro pins s σ H x y v u Q I rx ry h
  obtain ⟨i, j, rfl, rfl, q⟩ := h
  obtain ⟨t, rfl⟩ := rx
  obtain ⟨t', rfl⟩ := ry
  exact rule i j t t' s _ _ ⟨.bl (g i j), H, I, rfl, q⟩

def CPow (i j : Int) : Prop := 0 ≤ j ∧ j ≤ 1000000 ∧ i.natAbs < 2 ^ 64
def CMul (i j : Int) : Prop := (-(2 ^ 64) < i ∧ i < 2 ^ 64) ∨ (-(2 ^ 64) < j ∧ j < 2 ^ 64)
theorem CMul.ok {i j : Int} (h : CMul i j) : IntMulOk i j := by
  rcases h with ⟨h1, h2⟩ | ⟨h1, h2⟩
  · exact .of_left (intBits_le_64 h1 h2)
  · exact .of_right (intBits_le_64 h1 h2)
theorem op_add : OpR X (binaryOp .Add) (rI0 fun i j => .int (i + j)) := opI0 fun _ _ _ _ _ _ _ q => add_int q
theorem op_sub : OpR X (binaryOp .Sub) (rI0 fun i j => .int (i - j)) := opI0 fun _ _ _ _ _ _ _ q => sub_int q
theorem op_mul : OpR X (binaryOp .Mult) (rI CMul fun i j => .int (i * j)) := opI fun _ _ _ _ _ _ _ hc q => mul_int q hc.ok
theorem op_mod : OpR X (binaryOp .Mod) (rI (fun _ j => 0 < j) fun i j => .int (i % j)) := opI fun i j _ _ _ _ _ hc q => by
  have h1 : (0 : Int) < j := hc
  exact mod_int' (by omega) (by rw [Int.fmod_eq_emod_of_nonneg i (by omega)]; exact q)
theorem op_pow : OpR X (binaryOp .Pow) (rI CPow fun i j => .int (i ^ j.toNat)) := opI fun _ _ _ _ _ _ _ hc q => pow_int_small hc.1 hc.2.1 hc.2.2 q
theorem unI {f : Value → Sem Value} {g : Int → Int}
    (rule : ∀ (i : Int) (t : Tok) (s : Shared) (Q : Value → Shared → Prop) (E : Value → Shared → Prop), Q (.int (g i) s.toks) { s with toks := s.toks + 1 } → wpAny (model X.prog X.w) X.A (f (.int i t)) Q E s) :
    UnR X f (rU fun i => .int (g i)) := by
  intro pins s σ H x v Q I rx h
  obtain ⟨i, rfl, q⟩ := h
  obtain ⟨t, rfl⟩ := rx
  exact rule i t s _ _ ⟨.int (g i), H, I.tok _, ⟨_, rfl⟩, q⟩
theorem un_neg : UnR X (unaryOp .USub) (rU fun i => .int (-i)) := unI fun _ _ _ _ _ q => neg_int q
end

def scal : V → V → Bool
  | .non, .non => true | .non, .int _ => true | .int _, .non => true | .non, .bl _ => true | .bl _, .non => true | .non, .str _ => true | .str _, .non => true
  | .int _, .int _ => true | .bl _, .bl _ => true | .str _, .str _ => true | .byt _, .byt _ => true
  | .int _, .str _ => true | .str _, .int _ => true | .bl _, .str _ => true | .str _, .bl _ => true
  | _, _ => false
def rEq : R2 := fun x y H Q => scal x y = true ∧ Q (.bl (decide (x = y))) H
def rNe : R2 := fun x y H Q => scal x y = true ∧ Q (.bl (!decide (x = y))) H

theorem dec_int {i j : Int} : decide (V.int i = V.int j) = (i == j) := by
  rw [Bool.eq_iff_iff]
  simp
theorem dec_bl {i j : Bool} : decide (V.bl i = V.bl j) = (i == j) := by
  rw [Bool.eq_iff_iff]
  simp
theorem dec_str {i j : Str} : decide (V.str i = V.str j) = (i == j) := by
  rw [Bool.eq_iff_iff]
  simp
theorem dec_byt {i j : Array UInt8} : decide (V.byt i = V.byt j) = (i.toList == j.toList) := by
  rw [Bool.eq_iff_iff]
  cases i
  cases j
  simp

section
variable {X : Cx} {a b c : Expr} {ta tb tc : TE} {pos : Pos}
theorem fin_bl {pins : List (Addr × Obj)} {σ : St} {H : Hp} {s : Shared} {Q : VK} {k k' : Bool} (I : Inv X pins σ H s) (q : Q (.bl k) H) (e : k = k') : EP X pins σ Q (.bool k') s := by
  subst e
  exact ⟨.bl k, H, I, rfl, q⟩
theorem op_eq : OpR X (compareOp .Eq) rEq := by
  intro pins s σ H x y v u Q I rx ry h
  obtain ⟨hs, q⟩ := h
  cases x with
  | non =>
    cases rx
    cases y with
    | non => cases ry; exact PySem.EqNone.eq_none_none (fin_bl I q (by simp))
    | bl j => cases ry; exact PySem.EqNone.eq_none_bool (fin_bl I q (by simp))
    | int j => obtain ⟨t', rfl⟩ := ry; exact PySem.EqNone.eq_none_int (fin_bl I q (by simp))
    | str j => obtain ⟨t', rfl⟩ := ry; exact PySem.EqNone.eq_none_str (fin_bl I q (by simp))
    | _ => exact absurd (show false = true from hs) Bool.false_ne_true
  | bl i =>
    cases rx
    cases y with
    | non => cases ry; exact PySem.EqNone.eq_bool_none (fin_bl I q (by simp))
    | bl j => cases ry; exact eq_bool (fin_bl I q dec_bl)
    | str j => obtain ⟨t', rfl⟩ := ry; exact PySem.EqMixed.eq_bool_str (fin_bl I q (by simp))
    | _ => exact absurd (show false = true from hs) Bool.false_ne_true
  | int i =>
    obtain ⟨t, rfl⟩ := rx
    cases y with
    | non => cases ry; exact PySem.EqNone.eq_int_none (fin_bl I q (by simp))
    | int j => obtain ⟨t', rfl⟩ := ry; exact eq_int (fin_bl I q dec_int)
    | str j => obtain ⟨t', rfl⟩ := ry; exact PySem.EqMixed.eq_int_str (fin_bl I q (by simp))
    | _ => exact absurd (show false = true from hs) Bool.false_ne_true
  | str i =>
    obtain ⟨t, rfl⟩ := rx
    cases y with
    | non => cases ry; exact PySem.EqNone.eq_str_none (fin_bl I q (by simp))
    | bl j => cases ry; exact PySem.EqMixed.eq_str_bool (fin_bl I q (by simp))
    | int j => obtain ⟨t', rfl⟩ := ry; exact PySem.EqMixed.eq_str_int (fin_bl I q (by simp))
    | str j => obtain ⟨t', rfl⟩ := ry; exact eq_str (fin_bl I q dec_str)
    | _ => exact absurd (show false = true from hs) Bool.false_ne_true
  | byt i =>
    obtain ⟨t, rfl⟩ := rx
    cases y with
    | byt j => obtain ⟨t', rfl⟩ := ry; exact PySem.W.eq_bytes (fin_bl I q dec_byt)
    | _ => exact absurd (show false = true from hs) Bool.false_ne_true
  | _ => cases y <;> exact absurd (show false = true from hs) Bool.false_ne_true
theorem op_ne : OpR X (compareOp .NotEq) rNe := by
  intro pins s σ H x y v u Q I rx ry h
  obtain ⟨hs, q⟩ := h
  cases x with
  | non =>
    cases rx
    cases y with
    | non => cases ry; exact PySem.EqNone.ne_none_none (fin_bl I q (by simp))
    | bl j => cases ry; exact PySem.EqNone.ne_none_bool (fin_bl I q (by simp))
    | int j => obtain ⟨t', rfl⟩ := ry; exact PySem.EqNone.ne_none_int (fin_bl I q (by simp))
    | str j => obtain ⟨t', rfl⟩ := ry; exact PySem.EqNone.ne_none_str (fin_bl I q (by simp))
    | _ => exact absurd (show false = true from hs) Bool.false_ne_true
  | bl i =>
    cases rx
    cases y with
    | non => cases ry; exact PySem.EqNone.ne_bool_none (fin_bl I q (by simp))
    | bl j => cases ry; exact ne_bool (fin_bl I q (congrArg not dec_bl))
    | str j => obtain ⟨t', rfl⟩ := ry; exact PySem.EqMixed.ne_bool_str (fin_bl I q (by simp))
    | _ => exact absurd (show false = true from hs) Bool.false_ne_true
  | int i =>
    obtain ⟨t, rfl⟩ := rx
    cases y with
    | non => cases ry; exact PySem.EqNone.ne_int_none (fin_bl I q (by simp))
    | int j => obtain ⟨t', rfl⟩ := ry; exact ne_int (fin_bl I q (congrArg not dec_int))
    | str j => obtain ⟨t', rfl⟩ := ry; exact PySem.EqMixed.ne_int_str (fin_bl I q (by simp))
    | _ => exact absurd (show false = true from hs) Bool.false_ne_true
  | str i =>
    obtain ⟨t, rfl⟩ := rx
    cases y with
    | non => cases ry; exact PySem.EqNone.ne_str_none (fin_bl I q (by simp))
    | bl j => cases ry; exact PySem.EqMixed.ne_str_bool (fin_bl I q (by simp))
    | int j => obtain ⟨t', rfl⟩ := ry; exact PySem.EqMixed.ne_str_int (fin_bl I q (by simp))
    | str j => obtain ⟨t', rfl⟩ := ry; exact ne_str (fin_bl I q (congrArg not dec_str))
    | _ => exact absurd (show false = true from hs) Bool.false_ne_true
  | byt i =>
    obtain ⟨t, rfl⟩ := rx
    cases y with
    | byt j => obtain ⟨t', rfl⟩ := ry; exact PySem.W.ne_bytes (fin_bl I q (congrArg not dec_byt))
    | _ => exact absurd (show false = true from hs) Bool.false_ne_true
  | _ => cases y <;> exact absurd (show false = true from hs) Bool.false_ne_true

theorem op_lt : OpR X (compareOp .Lt) (rI0 fun i j => .bl (decide (i < j))) := opB0 fun _ _ _ _ _ _ _ q => lt_int q
theorem op_le : OpR X (compareOp .LtE) (rI0 fun i j => .bl (decide (i ≤ j))) := opB0 fun _ _ _ _ _ _ _ q => le_int q
theorem op_gt : OpR X (compareOp .Gt) (rI0 fun i j => .bl (decide (j < i))) := opB0 fun _ _ _ _ _ _ _ q => gt_int q
theorem op_isN : OpR X (compareOp .Is) (fun x y H Q => y = .non ∧ Q (.bl (decide (x = .non))) H) := by
  intro pins s σ H x y v u Q I rx ry h
  obtain ⟨rfl, q⟩ := h
  cases ry
  refine is_none_gen (fin_bl I q ?_)
  cases x <;> first
    | (cases rx; rfl)
    | (obtain ⟨t, rfl⟩ := rx; rfl)
theorem op_notN : OpR X (compareOp .IsNot) (fun x y H Q => y = .non ∧ Q (.bl (!decide (x = .non))) H) := by
  intro pins s σ H x y v u Q I rx ry h
  obtain ⟨rfl, q⟩ := h
  cases ry
  refine isnot_none_gen (fin_bl I q ?_)
  cases x <;> first
    | (cases rx; rfl)
    | (obtain ⟨t, rfl⟩ := rx; rfl)

theorem OpR.or {f : Value → Value → Sem Value} {r r' : R2} (h : OpR X f r) (h' : OpR X f r') : OpR X f (fun x y H Q => r x y H Q ∨ r' x y H Q) := by
  intro pins s σ H x y v u Q I rx ry q
  rcases q with q | q
  · exact h pins s σ H x y v u Q I rx ry q
  · exact h' pins s σ H x y v u Q I rx ry q

theorem nomark (b : Expr) {op : CmpOp} (h : op ≠ .In := by decide) (h2 : op ≠ .NotIn := by decide) : behindInMarks op b = false := by
  have e1 : (op == CmpOp.In) = false := by cases op <;> first | rfl | exact absurd rfl h
  have e2 : (op == CmpOp.NotIn) = false := by cases op <;> first | rfl | exact absurd rfl h2
  cases b <;> simp [behindInMarks, e1, e2]
theorem pe_cmpR {op : CmpOp} {r : R2} (ho : OpR X (compareOp op) r) (ha : PE X a ta) (hb : PE X b tb) (hm : behindInMarks op b = false) : PE X (.Compare a [op] [b] pos) (tOp r ta tb) := by
  intro pins s σ H Q I h
  exact wpAny_Compare1 (binT ha hb I h fun v u s2 x y H2 I2 rx ry q => ho pins s2 σ H2 x y v u Q I2 rx ry q) hm
def tTest (t : TE) : TT := fun σ H Q => t σ H fun x H' => ∃ k, x = .bl k ∧ Q k H'
theorem pt_cmpR {op : CmpOp} {r : R2} (ho : OpR X (compareOp op) r) (ha : PE X a ta) (hb : PE X b tb) (hm : behindInMarks op b = false) : PT X (.Compare a [op] [b] pos) (tTest (tOp r ta tb)) := by
  intro pins s σ H Q I h
  refine wpAny_isTrue_Compare1 (thn (ha pins s σ H _ I h) fun v s1 ⟨x, H1, I1, r1, q1⟩ => thn (hb pins s1 σ H1 _ I1 q1) fun u s2 ⟨y, H2, I2, r2, q2⟩ =>
    thn (ho pins s2 σ H2 x y v u _ I2 r1 r2 q2) fun c s3 ⟨z, H3, I3, r3, k, e, q3⟩ => ?_) hm
  subst e
  cases r3
  exact wpAny_truthy_bool ⟨H3, I3, q3⟩
def tChain (r r' : R2) (ta tb tc : TE) : TE := fun σ H Q => ta σ H fun x H1 => tb σ H1 fun y H2 => r x y H2 fun z H3 => ∃ k, z = .bl k ∧
  (if k = true then tc σ H3 fun w' H4 => r' y w' H4 Q else Q (.bl false) H3)
theorem pe_chain {op op' : CmpOp} {r r' : R2} (ho : OpR X (compareOp op) r) (ho' : OpR X (compareOp op') r') (ha : PE X a ta) (hb : PE X b tb) (hc : PE X c tc)
    (hm : lastMarks [op, op'] [b, c] = false := by with_unfolding_all rfl) : PE X (.Compare a [op, op'] [b, c] pos) (tChain r r' ta tb tc) := by
  intro pins s σ H Q I h
  refine Compare_chain (thn (ha pins s σ H _ I h) fun v s1 ⟨x, H1, I1, r1, q1⟩ => chain_link (thn (hb pins s1 σ H1 _ I1 q1) fun u s2 ⟨y, H2, I2, r2, q2⟩ =>
    thn (ho pins s2 σ H2 x y v u _ I2 r1 r2 q2) fun d s3 ⟨z, H3, I3, r3, k, e, q3⟩ => ?_)) hm
  subst e
  cases r3
  refine wpAny_truthy_bool ?_
  cases k with
  | false => exact ite_ff ⟨.bl false, H3, I3, rfl, q3⟩
  | true => exact ite_tt (chain_last (thn (hc pins s3 σ H3 _ I3 q3) fun w' s4 ⟨z', H4, I4, r4, q4⟩ => ho' pins s4 σ H4 y z' u w' Q I4 r2 r4 q4))
theorem pt_chain {op op' : CmpOp} {r r' : R2} (ho : OpR X (compareOp op) r) (ho' : OpR X (compareOp op') r') (ha : PE X a ta) (hb : PE X b tb) (hc : PE X c tc)
    (hm : lastMarks [op, op'] [b, c] = false := by with_unfolding_all rfl) : PT X (.Compare a [op, op'] [b, c] pos) (tTest (tChain r r' ta tb tc)) := by
  intro pins s σ H Q I h
  refine isTrue_chain (thn (ha pins s σ H _ I h) fun v s1 ⟨x, H1, I1, r1, q1⟩ => test_link (thn (hb pins s1 σ H1 _ I1 q1) fun u s2 ⟨y, H2, I2, r2, q2⟩ =>
    thn (ho pins s2 σ H2 x y v u _ I2 r1 r2 q2) fun d s3 ⟨z, H3, I3, r3, k, e, q3⟩ => ?_)) hm
  subst e
  cases r3
  refine wpAny_truthy_bool ?_
  cases k with
  | false =>
    obtain ⟨k', e', q'⟩ := q3
    cases e'
    exact ite_ff ⟨H3, I3, q'⟩
  | true =>
    refine ite_tt (test_last (thn (hc pins s3 σ H3 _ I3 q3) fun w' s4 ⟨z', H4, I4, r4, q4⟩ => thn (ho' pins s4 σ H4 y z' u w' _ I4 r2 r4 q4) fun d' s5 ⟨z2, H5, I5, r5, k2, e2, q5⟩ => ?_))
    subst e2
    cases r5
    exact wpAny_truthy_bool ⟨H5, I5, q5⟩

theorem line63 : (sizeLine : Nat) < 2 ^ 63 := by rw [sizeLine_eq]; decide
theorem vals1 {x : V} {us : List Value} (r : Vals [x] us) : ∃ u, us = [u] ∧ RelV x u := by
  cases r with
  | cons r1 r2 => cases r2; exact ⟨_, rfl, r1⟩
theorem vals2 {x y : V} {us : List Value} (r : Vals [x, y] us) : ∃ u w', us = [u, w'] ∧ RelV x u ∧ RelV y w' := by
  cases r with
  | cons r1 r2 =>
    cases r2 with
    | cons r3 r4 => cases r4; exact ⟨_, _, rfl, r1, r3⟩
theorem call_max2 (hc : X.calm = true) : CallR X (.builtin "max") (fun xs H Q => ∃ i j, xs = [.int i, .int j] ∧ Q (.int (if j > i then j else i)) H) := by
  intro pins s σ H xs us Q I r h
  obtain ⟨i, j, rfl, q⟩ := h
  obtain ⟨u, w', rfl, ⟨t, rfl⟩, ⟨t', rfl⟩⟩ := vals2 r
  refine max_two_ints (I.ok.hd hc) fun h' tk k => ⟨_, H, I.kept k, ?_, q⟩
  by_cases hj : j > i
  · rw [if_pos hj, if_pos hj]; exact ⟨_, rfl⟩
  · rw [if_neg hj, if_neg hj]; exact ⟨_, rfl⟩
theorem call_min2 (hc : X.calm = true) : CallR X (.builtin "min") (fun xs H Q => ∃ i j, xs = [.int i, .int j] ∧ Q (.int (if j < i then j else i)) H) := by
  intro pins s σ H xs us Q I r h
  obtain ⟨i, j, rfl, q⟩ := h
  obtain ⟨u, w', rfl, ⟨t, rfl⟩, ⟨t', rfl⟩⟩ := vals2 r
  refine min_two_ints (I.ok.hd hc) fun h' tk k => ⟨_, H, I.kept k, ?_, q⟩
  by_cases hj : j < i
  · rw [if_pos hj, if_pos hj]; exact ⟨_, rfl⟩
  · rw [if_neg hj, if_neg hj]; exact ⟨_, rfl⟩
theorem call_int1 : CallR X (.type "int") (fun xs H Q => (∃ i, xs = [.int i] ∧ Q (.int i) H) ∨ ∃ k, xs = [.bl k] ∧ Q (.int (if k then 1 else 0)) H) := by
  intro pins s σ H xs us Q I r h
  rcases h with ⟨i, rfl, q⟩ | ⟨k, rfl, q⟩
  · obtain ⟨u, rfl, t, rfl⟩ := vals1 r
    exact call_int_int ⟨.int i, H, I, ⟨_, rfl⟩, q⟩
  · obtain ⟨u, rfl, r1⟩ := vals1 r
    cases r1
    exact call_int_bool ⟨.int (if k then 1 else 0), H, I.tok _, ⟨_, rfl⟩, q⟩
end
end L2

namespace L2
open PySem PySem.Spec PyProof.Rows

structure ObjM (h : Heap) (x dx C : Addr) (mA : Str → Option Value) : Prop where
  obj : h.get? x = some (PySem.W.instObj C dx)
  ns : h.Ns1 dx mA
  ne : dx ≠ x

theorem lookIn_ns {h : Heap} {dx : Addr} {mA : Str → Option Value} (n : h.Ns1 dx mA) : ∃ od, h.get? dx = some od ∧ ∀ name, PySem.W.lookIn name od = some (mA name) := by
  obtain ⟨o, es, ep, ho, hd, hk, _, hm⟩ := n
  refine ⟨o, ho, fun name => ?_⟩
  have e := hm name
  unfold nsFind findBy at e
  rw [← Array.find?_toList] at e
  unfold PySem.W.lookIn
  rw [hd]
  dsimp only
  split
  · rename_i y q
    rw [q] at e
    exact congrArg some e
  · rename_i q
    rw [q] at e
    have a : es.toList.any (·.refKey) = false := by
      rw [List.any_eq_false]
      intro y hy
      obtain ⟨z, t, hkey⟩ := hk y (Array.mem_toList_iff.mp hy)
      simp [DictEntry.refKey, hkey]
    have a' : ¬ es.toList.any (·.refKey) = true := by rw [a]; exact Bool.false_ne_true
    rw [if_neg a']
    exact congrArg some e

theorem ObjM.look {h : Heap} {x dx C : Addr} {mA : Str → Option Value} (I : ObjM h x dx C mA) : ∃ od, PySem.W.InstAt h x (PySem.W.instObj C dx) C (some od) ∧ ∀ name, PySem.W.lookIn name od = some (mA name) :=
  let ⟨od, ho, hl⟩ := lookIn_ns I.ns
  ⟨od, ⟨I.obj, rfl, rfl, ho⟩, hl⟩

section
variable {prog : Program} {w : World} {A : Around} {E : Value → Shared → Prop} {s : Shared} {K : PySem.W.Frag} {x dx C f : Addr} {mA : Str → Option Value} {name : Str} {v : Value}

theorem get_map {expr : Bool} {Q : Value → Shared → Prop} (X : K.In s.heap) (I : ObjM s.heap x dx C mA) (hg : PySem.W.plainGet K C name = true) (hh : PySem.W.hasDictIn K C = true)
    (ha : PySem.W.findIn K (.ref C) name = some none) (hv : mA name = some v) (hv' : PySem.W.handedIn v = true) (h : Q v { s with toks := s.toks + 1 }) :
    wpAny (model prog w) A (getAttr (.ref x) name expr) Q E s := by
  obtain ⟨od, J, hl⟩ := I.look
  exact PySem.W.get_value X J (PySem.W.plainGet_of hg).1 (PySem.W.findObj_own hh ha rfl (by rw [hl, hv])) hv' h

theorem get_meth {pl : Sem Bool} {Q : Value × List Value → Shared → Prop} (X : K.In s.heap) (I : ObjM s.heap x dx C mA) (hg : PySem.W.plainGet K C name = true)
    (hf : PySem.W.findIn K (.ref C) name = some (some (.ref f))) (ht : PySem.W.isFn K (.ref f) = true) (hv : mA name = none) (h : Q (.ref f, [.ref x]) s) :
    wpAny (model prog w) A (getMethod (.ref x) name pl) Q E s := by
  obtain ⟨od, J, hl⟩ := I.look
  exact PySem.W.method_fn X J (PySem.W.plainGet_of hg).1 (PySem.W.plainGet_of hg).2 hf (beq_iff_eq.mp ht) (by show (PySem.W.lookIn name od).map (·.isSome) = some false; rw [hl, hv]; rfl) h

theorem set_map {ns : List Str} {Q : Unit → Shared → Prop} (X : K.In s.heap) (I : ObjM s.heap x dx C mA)
    (hs : PySem.W.findIn K (.ref C) "__setattr__" = some (some (.builtin "object.__setattr__"))) (hp : PySem.W.plainOver K C = true) (ht : PySem.W.takerIn K C name = some none) (hh : PySem.W.hasDictIn K C = true)
    (hw : PySem.Within mA ns) (hsz : ns.length ≤ sizeLine)
    (h : ∀ h', ObjM h' x dx C (fun y => if y = name then some v else mA y) → Heap.SameBut dx s.heap h' → Q () { s with heap := h', toks := s.toks + 2 }) :
    wpAny (model prog w) A (setAttr (.ref x) name v) Q E s := by
  obtain ⟨od, J, hl⟩ := I.look
  refine PySem.W.set_plain X J hs (PySem.W.osa_open (s := { s with toks := s.toks + 1 }) (r := none) X J hp ht fun b => ?_)
  obtain ⟨cd, hc, hd'⟩ := PySem.W.any_some hh
  have hx : s.heap.get? x = some ⟨.ref C, some dx, .plain, #[]⟩ := I.obj
  refine wpAny_bind (wpAny_pure (wpAny_bind (wpAny_bind (wpAny_loadPart hx (wpAny_bind (PySem.W.Looks.here (s := { s with toks := s.toks + 1 }) (PySem.W.looks_clsIn X hc) ?_))))))
  rw [hd']
  refine wpAny_pure (a := some dx) (wpAny_bind (wpAny_pure (wpAny_bind ?_)))
  refine wpAny_nsSet1 (s := { s with toks := s.toks + 1 }) I.ns fun h' hn2 hs2 => ?_
  obtain ⟨oD, esD, epD, hoD, hdD, hcD⟩ := hn2.count (PySem.Within.cons name v hw)
  refine wpAny_bind (wpAny_lookBehind hoD (by rw [hdD]; exact pastItsLine_dict (Nat.le_trans hcD (by rw [List.length_cons]; omega))) ?_)
  exact wpAny_pure (h _ ⟨(hs2.2 _ (Ne.symm I.ne)).trans I.obj, hn2, I.ne⟩ hs2)

theorem make_map {R : Result → Shared → Prop} {vs : List Value} {kw : List (Str × Value)} (X : K.In s.heap) (hm : PySem.W.makesIn K C = true)
    (hi : PySem.W.findIn K (.ref C) "__init__" = some (some (.ref f))) (hf : PySem.W.typeIn K (.ref f) = some (.type "function"))
    (h : codeAny (model prog w) (A.under (.builtin "type.__call__" ⟨.ref C :: vs, kw⟩)) (.call (.ref f) ⟨.ref (s.heap.objs.size + 1) :: vs, kw⟩) (PySem.W.InitBack (s.heap.objs.size + 1) R)
      { s with heap := (s.heap.push PySem.W.emptyDict).push (PySem.W.instObj C s.heap.objs.size) }) :
    codeAny (model prog w) A (.call (.ref C) ⟨vs, kw⟩) R s := by
  obtain ⟨hh, g, d, t, os⟩ := s
  exact PySem.W.make_core (PySem.W.makes_of X hm) (PySem.W.looks_findIn X hi) (fun self => PySem.W.bind_fn X self hf) (.inl rfl) h
end

def putF (f : Str) (v : V) : List (Str × V) → List (Str × V)
  | [] => [(f, v)]
  | (g, x) :: r => if g = f then (g, v) :: r else (g, x) :: putF f v r
theorem lookup_putF (f g : Str) (v : V) : ∀ fs : List (Str × V), (putF f v fs).lookup g = if g = f then some v else fs.lookup g
  | [] => by
    show List.lookup g [(f, v)] = _
    by_cases h : g = f
    · have hb : (g == f) = true := beq_iff_eq.mpr h
      simp only [List.lookup, hb, if_pos h]
    · have hb : (g == f) = false := beq_eq_false_iff_ne.mpr h
      simp only [List.lookup, hb, if_neg h]
  | (k, x) :: r => by
    have ih := lookup_putF f g v r
    rw [show putF f v ((k, x) :: r) = (if k = f then (k, v) :: r else (k, x) :: putF f v r) from rfl]
    by_cases hk : k = f
    · rw [if_pos hk]
      by_cases h : g = k
      · have hb : (g == k) = true := beq_iff_eq.mpr h
        simp only [List.lookup, hb, if_pos (h.trans hk)]
      · have hb : (g == k) = false := beq_eq_false_iff_ne.mpr h
        simp only [List.lookup, hb, if_neg (fun e : g = f => h (e.trans hk.symm))]
    · rw [if_neg hk]
      by_cases h : g = k
      · have hb : (g == k) = true := beq_iff_eq.mpr h
        simp only [List.lookup, hb, if_neg (fun e : g = f => hk (h.symm.trans e))]
      · have hb : (g == k) = false := beq_eq_false_iff_ne.mpr h
        simp only [List.lookup, hb]
        exact ih
theorem keys_putF (f : Str) (v : V) : ∀ fs : List (Str × V), f ∈ (putF f v fs).map (·.1) ∧ ∀ g, g ∈ fs.map (·.1) → g ∈ (putF f v fs).map (·.1)
  | [] => ⟨by simp [putF], fun g h => by simp at h⟩
  | (k, x) :: r => by
    obtain ⟨i1, i2⟩ := keys_putF f v r
    rw [show putF f v ((k, x) :: r) = (if k = f then (k, v) :: r else (k, x) :: putF f v r) from rfl]
    by_cases hk : k = f
    · rw [if_pos hk]
      subst hk
      exact ⟨by simp, fun g h => by simpa using h⟩
    · rw [if_neg hk]
      refine ⟨?_, fun g h => ?_⟩
      · rw [List.map_cons]
        exact List.mem_cons_of_mem _ i1
      · rw [List.map_cons] at h ⊢
        rcases List.mem_cons.mp h with e | e
        · exact List.mem_cons.mpr (.inl e)
        · exact List.mem_cons_of_mem _ (i2 g e)
theorem length_putF (f : Str) (v : V) : ∀ fs : List (Str × V), (putF f v fs).length ≤ fs.length + 1
  | [] => by simp [putF]
  | (k, x) :: r => by
    have ih := length_putF f v r
    rw [show putF f v ((k, x) :: r) = (if k = f then (k, v) :: r else (k, x) :: putF f v r) from rfl]
    by_cases hk : k = f
    · rw [if_pos hk, List.length_cons, List.length_cons]; omega
    · rw [if_neg hk, List.length_cons, List.length_cons]; omega

theorem RelO.some_of {v : V} {o : Option Value} (r : RelO (some v) o) : ∃ u, o = some u ∧ RelV v u := by
  cases o with
  | none => exact (show False from r).elim
  | some u => exact ⟨u, rfl, r⟩
theorem RelO.none_of {o : Option Value} (r : RelO none o) : o = none := by
  cases o with
  | none => rfl
  | some u => exact (show False from r).elim
theorem handed_of {v : V} {u : Value} (r : RelV v u) : PySem.W.handedIn u = true := by
  cases v with
  | non => cases (show u = Value.none from r); rfl
  | bl b => cases (show u = Value.bool b from r); rfl
  | int i => obtain ⟨t, e⟩ := (show ∃ t, u = Value.int i t from r); cases e; rfl
  | str x => obtain ⟨t, e⟩ := (show ∃ t, u = Value.str x t from r); cases e; rfl
  | byt b => obtain ⟨t, e⟩ := (show ∃ t, u = Value.bytes b t from r); cases e; rfl
  | flt b => obtain ⟨t, e⟩ := (show ∃ t, u = Value.float b t from r); cases e; rfl
  | ref a => cases (show u = Value.ref a from r); rfl
  | ty n => cases (show u = Value.type n from r); rfl

section
variable {P : Program} {w : World} {H H' : Hp} {h h' : Heap} {a C dx : Addr} {fs fs' : List (Str × V)}
theorem ins_get (hok : HOk P w H h) (e : H a = some (.ins C dx fs)) : ∃ mA, ObjM h a dx C mA ∧ (∀ f, RelO (fs.lookup f) (mA f)) ∧ PySem.Within mA (fs.map (·.1)) ∧ fs.length ≤ 1000 ∧ H dx = some (.own a) := by
  obtain ⟨d, z, ne, ob, mA, n, r, q⟩ := (show ObjOk P w H h a (.ins C dx fs) from hok a _ e)
  exact ⟨mA, ⟨ob, n, ne⟩, r, q, z, d⟩
end

structure Cls (K : PySem.W.Frag) (C : Addr) : Prop where
  pg : PySem.W.plainGet K C Str.empty = true
  hd : PySem.W.hasDictIn K C = true
  po : PySem.W.plainOver K C = true
  sa : PySem.W.findIn K (.ref C) "__setattr__" = some (some (.builtin "object.__setattr__"))
theorem Cls.get {K : PySem.W.Frag} {C : Addr} (c : Cls K C) (f : Str) : PySem.W.plainGet K C f = true := c.pg
def NoAttr (K : PySem.W.Frag) (C : Addr) (f : Str) : Prop := PySem.W.findIn K (.ref C) f = some none
theorem NoAttr.taker {K : PySem.W.Frag} {C : Addr} {f : Str} (n : NoAttr K C f) : PySem.W.takerIn K C f = some none := by
  unfold PySem.W.takerIn
  rw [show PySem.W.findIn K (.ref C) f = some none from n]
  rfl
structure Con (K : PySem.W.Frag) (C : Addr) (f : Str) (v : V) (u : Value) : Prop where
  at_ : PySem.W.findIn K (.ref C) f = some (some u)
  rel : RelV v u
  get : PySem.W.specialIn K u "__get__" = some none
  cp : PySem.W.copiedNames.contains f = false
structure Meth (K : PySem.W.Frag) (C : Addr) (m : Str) (f : Addr) : Prop where
  at_ : PySem.W.findIn K (.ref C) m = some (some (.ref f))
  fn : PySem.W.isFn K (.ref f) = true
  kp : PySem.W.keepIn K (.ref f) = true

section
variable {X : Cx} {pins : List (Addr × Obj)} {σ : St} {H : Hp} {s : Shared} {a C dx : Addr} {fs : List (Str × V)} {f : Str} {v : V} {A : Around} {E : Value → Shared → Prop}

theorem getattr_ok {b : Bool} {Q : Value → Shared → Prop} (I : Inv X pins σ H s) (e : H a = some (.ins C dx fs)) (c : Cls X.K C) (n : NoAttr X.K C f) (l : fs.lookup f = some v)
    (h : ∀ u s', Inv X pins σ H s' → RelV v u → Q u s') : wpAny (model X.prog X.w) A (getAttr (.ref a) f b) Q E s := by
  obtain ⟨mA, O, r, _, _, _⟩ := ins_get I.hok e
  obtain ⟨u, hu, ru⟩ := RelO.some_of (v := v) (o := mA f) (by rw [← l]; exact r f)
  exact get_map I.kIn O (c.get f) c.hd n hu (handed_of ru) (h u _ (I.tok _) ru)

theorem getmeth_ok {m : Str} {g : Addr} {pl : Sem Bool} {Q : Value × List Value → Shared → Prop} (I : Inv X pins σ H s) (e : H a = some (.ins C dx fs)) (c : Cls X.K C) (k : Meth X.K C m g) (l : fs.lookup m = none)
    (h : Q (.ref g, [.ref a]) s) : wpAny (model X.prog X.w) A (getMethod (.ref a) m pl) Q E s := by
  obtain ⟨mA, O, r, _, _, _⟩ := ins_get I.hok e
  have hn : mA m = none := RelO.none_of (by rw [← l]; exact r m)
  exact get_meth I.kIn O (c.get m) k.at_ k.fn hn h

theorem setattr_ok {y : V} {u : Value} {Q : Unit → Shared → Prop} (I : Inv X pins σ H s) (e : H a = some (.ins C dx fs)) (c : Cls X.K C) (n : NoAttr X.K C f) (hl : fs.length < 1000) (ry : RelV y u)
    (h : ∀ s', Inv X pins σ (upd H a (.ins C dx (putF f y fs))) s' → Q () s') : wpAny (model X.prog X.w) A (setAttr (.ref a) f u) Q E s := by
  obtain ⟨mA, O, r, wi, _, ho⟩ := ins_get I.hok e
  have hz : (fs.map (·.1)).length ≤ sizeLine := by rw [List.length_map, sizeLine_eq]; omega
  refine set_map I.kIn O c.sa c.po n.taker c.hd wi hz fun h' O' sb => h _ ?_
  have hd : ∃ o, h'.get? dx = some o := let ⟨o, _, _, e', _⟩ := O'.ns; ⟨o, e'⟩
  refine I.write (x := a) (e := dx) (by rw [e]; exact True.intro) (.inr ho) (fun b q hb z => (sb.2 b hb).trans z) hd ?_
  refine ⟨by rw [upd_ne O.ne]; exact ho, ?_, O.ne, O'.obj, _, O'.ns, fun g => ?_, fun g hg => ?_⟩
  · have := length_putF f y fs; omega
  · show RelO ((putF f y fs).lookup g) (if g = f then some u else mA g)
    rw [lookup_putF]
    by_cases q : g = f
    · rw [if_pos q, if_pos q]; exact ry
    · rw [if_neg q, if_neg q]; exact r g
  · by_cases q : g = f
    · rw [q]; exact (keys_putF f y fs).1
    · refine (keys_putF f y fs).2 g (wi g fun z => hg ?_)
      show (if g = f then some u else mA g) = none
      rw [if_neg q]; exact z

theorem Inv.made (I : Inv X pins σ H s) : Inv X pins σ (upd (upd H s.heap.objs.size (.own (s.heap.objs.size + 1))) (s.heap.objs.size + 1) (.ins C s.heap.objs.size []))
    { s with heap := (s.heap.push PySem.W.emptyDict).push (PySem.W.instObj C s.heap.objs.size) } := by
  have e1 : (s.heap.push PySem.W.emptyDict).get? s.heap.objs.size = some PySem.W.emptyDict := Heap.get?_push_size s.heap rfl
  have e2 : ((s.heap.push PySem.W.emptyDict).push (PySem.W.instObj C s.heap.objs.size)).get? (s.heap.objs.size + 1) = some (PySem.W.instObj C s.heap.objs.size) := by
    have := Heap.get?_push_size (s.heap.push PySem.W.emptyDict) (o := PySem.W.instObj C s.heap.objs.size) rfl
    rwa [Heap.size_push] at this
  have e3 : (s.heap.push PySem.W.emptyDict).Ns s.heap.objs.size (fun _ => none) := ⟨PySem.W.emptyDict, #[], _, e1, rfl, (fun e he => absurd he (by simp)), fun _ => rfl⟩
  have I1 := I.laid (a := s.heap.objs.size) (o := .own (s.heap.objs.size + 1)) (h' := s.heap.push PySem.W.emptyDict) (t' := s.toks) (fun b u q => Heap.get?_push_of_some _ q) (Nat.le_refl _) ⟨_, e1⟩
  refine I1.laid (a := s.heap.objs.size + 1) (o := .ins C s.heap.objs.size []) (t' := s.toks) (fun b u q => Heap.get?_push_of_some _ q) (Nat.le_of_eq (Heap.size_push _ _)) ?_
  have ne : s.heap.objs.size ≠ s.heap.objs.size + 1 := Nat.ne_of_lt (Nat.lt_succ_self _)
  refine ⟨by rw [upd_ne ne, upd_same], Nat.zero_le _, ne, e2, fun _ => none, (Heap.Ns1.of_empty e3).at fun o q => Heap.get?_push_of_some _ q, fun _ => True.intro, fun y hy => absurd rfl hy⟩

theorem attr_of {prog : Program} {w : World} {env : Env} {e : Expr} {f : Str} {pos : Pos} {s : Shared} {Q : Value → Shared → Prop} (hb : attributeBase e f env (eval e env) = eval e env)
    (h : wpAny (model prog w) A (eval e env) (fun o s₁ => wpAny (model prog w) A (getAttr o f true) Q E s₁) E s) : wpAny (model prog w) A (eval (.Attribute e f pos) env) Q E s :=
  Attribute_any_ h (by rw [arm_eval_Attribute, hb])
end

def tFld (K : PySem.W.Frag) (ta : TE) (f : Str) : TE := fun σ H Q => ta σ H fun x H1 => ∃ a C dx fs v, x = .ref a ∧ H1 a = some (.ins C dx fs) ∧ Cls K C ∧ NoAttr K C f ∧ fs.lookup f = some v ∧ Q v H1
def sFld (K : PySem.W.Frag) (ta tv : TE) (f : Str) : TS := fun D σ H => tv σ H fun y H1 => ta σ H1 fun x H2 => ∃ a C dx fs, x = .ref a ∧ H2 a = some (.ins C dx fs) ∧ Cls K C ∧ NoAttr K C f ∧ fs.length < 1000 ∧
  D.nx σ (upd H2 a (.ins C dx (putF f y fs)))
section
variable {X : Cx} {o e value : Expr} {f : Str} {pos pos' tpos : Pos} {ta tv : TE}
theorem pe_fld (he : PE X e ta) (hb : attributeBase e f X.env (eval e X.env) = eval e X.env) : PE X (.Attribute e f pos) (tFld X.K ta f) := by
  intro pins s σ H Q I h
  refine attr_of hb (thn (he pins s σ H _ I h) fun u s1 ⟨x, H1, I1, rx, a, C, dx, fs, v, ex, ea, c, n, l, q⟩ => ?_)
  subst ex
  obtain rfl : u = Value.ref a := rx
  exact getattr_ok I1 ea c n l fun u' s2 I2 ru => ⟨v, H1, I2, ru, q⟩
theorem ps_fld (ha : PE X o ta) (hv : PE X value tv) (hs : swapsWith value (some (.Attribute o f pos')) pos.line X.env = pure false) : PS X (.Assign [.Attribute o f pos'] value pos) (sFld X.K ta tv f) := by
  intro pins s σ H D I h
  refine plainObj_wpAny_Assign_Attribute (thn (hv pins s σ H _ I h) fun u s1 ⟨y, H1, I1, ry, q⟩ => thn (ha pins s1 σ H1 _ I1 q) fun ov s2 ⟨x, H2, I2, rx, a, C, dx, fs, ex, ea, c, n, l, q2⟩ => ?_) hs
  subst ex
  obtain rfl : ov = Value.ref a := rx
  exact setattr_ok I2 ea c n l ry fun s3 I3 => ⟨σ, _, I3, q2⟩
end

section
variable {X : Cx} {pins : List (Addr × Obj)} {σ : St} {H : Hp} {s : Shared} {A : Around} {E : Value → Shared → Prop} {Q : Value → Shared → Prop} {c : Value} {b : Bool}
inductive TyOf (K : PySem.W.Frag) (H : Hp) : V → Value → Prop where
  | non : TyOf K H .non (.type "NoneType")
  | bl (x : Bool) : TyOf K H (.bl x) (.type "bool")
  | int (i : Int) : TyOf K H (.int i) (.type "int")
  | str (x : Str) : TyOf K H (.str x) (.type "str")
  | flt (x : UInt64) : TyOf K H (.flt x) (.type "float")
  | lst {a : Addr} {xs : List V} (e : H a = some (.lst xs)) : TyOf K H (.ref a) (.type "list")
  | frz {a : Addr} {o : Obj} {xs : List V} (e : H a = some (.frz o (.lst xs))) : TyOf K H (.ref a) (.type "list")
  | tup {a : Addr} {xs : List V} (e : H a = some (.tup xs)) : TyOf K H (.ref a) (.type "tuple")
  | dK {a : Addr} {kvs : List (Key × V)} (e : H a = some (.dK kvs)) : TyOf K H (.ref a) (.type "dict")
  | dT {a : Addr} {kvs : List (List Key × V)} (e : H a = some (.dT kvs)) : TyOf K H (.ref a) (.type "dict")
  | ins {a C dx : Addr} {fs : List (Str × V)} (e : H a = some (.ins C dx fs)) (cl : Cls K C) (ha : PySem.W.findIn K (.ref C) "__class__" = some (some (.builtin "object.__class__")))
      (hn : PySem.W.specialIn K (.builtin "object.__class__") "__get__" = some (some (.builtin "getset_descriptor.__get__"))) (htk : PySem.W.takesIn K (.builtin "object.__class__") = some true)
      (hm : PySem.W.mroIn K C (.type "object") = some true) : TyOf K H (.ref a) (.ref C)
theorem isinst_ok {x : V} {u t : Value} (I : Inv X pins σ H s) (rx : RelV x u) (ty : TyOf X.K H x t) (e : PySem.W.kitOne X.K t c = some b) (h : ∀ tk, Q (.bool b) { s with toks := tk }) :
    wpAny (model X.prog X.w) A (call (.builtin "isinstance") [u, c]) Q E s := by
  cases ty with
  | non => cases (show u = Value.none from rx); exact PySem.W.kia_one PySem.W.kitx_none I.kIn True.intro e (fun z => nomatch z) h
  | bl y => cases (show u = Value.bool y from rx); exact PySem.W.kia_one PySem.W.kitx_bool I.kIn True.intro e (fun z => nomatch z) h
  | int i => obtain ⟨t, q⟩ := (show ∃ t, u = Value.int i t from rx); cases q; exact PySem.W.kia_one PySem.W.kitx_int I.kIn True.intro e (fun z => nomatch z) h
  | str y => obtain ⟨t, q⟩ := (show ∃ t, u = Value.str y t from rx); cases q; exact PySem.W.kia_one PySem.W.kitx_str I.kIn True.intro e (fun z => nomatch z) h
  | flt y => obtain ⟨t, q⟩ := (show ∃ t, u = Value.float y t from rx); cases q; exact PySem.W.kia_one PySem.W.kitx_float I.kIn True.intro e (fun z => nomatch z) h
  | @lst a xs ea =>
    cases (show u = Value.ref a from rx)
    obtain ⟨_, _, n, _, h1⟩ := (show ObjOk X.prog X.w H s.heap a (.lst xs) from I.hok a _ ea)
    exact PySem.W.kia_one PySem.W.kitx_list I.kIn ⟨_, h1, rfl⟩ e (fun z => nomatch z) h
  | @frz a ob xs ea =>
    cases (show u = Value.ref a from rx)
    obtain ⟨_, _, _, n, _, h1⟩ := (show ObjOk X.prog X.w H s.heap a (.frz ob (.lst xs)) from I.hok a _ ea)
    exact PySem.W.kia_one PySem.W.kitx_list I.kIn ⟨_, h1, rfl⟩ e (fun z => nomatch z) h
  | @tup a xs ea =>
    cases (show u = Value.ref a from rx)
    obtain ⟨_, _, _, p, _⟩ := (show ObjOk X.prog X.w H s.heap a (.tup xs) from I.hok a _ ea)
    obtain ⟨o, h1, h2, _⟩ := p
    exact PySem.W.kia_one PySem.W.kitx_tuple I.kIn ⟨o, h1, h2⟩ e (fun z => nomatch z) h
  | @dK a kvs ea =>
    cases (show u = Value.ref a from rx)
    obtain ⟨_, _, vs, _, p⟩ := (show ObjOk X.prog X.w H s.heap a (.dK kvs) from I.hok a _ ea)
    obtain ⟨o, es, ep, h1, h2, _⟩ := p
    exact PySem.W.kia_one PySem.W.kitx_dict I.kIn ⟨o, h1, h2.1⟩ e (fun z => nomatch z) h
  | @dT a kvs ea =>
    cases (show u = Value.ref a from rx)
    obtain ⟨_, _, xs, _, o, es, ep, h1, h2, _⟩ := (show ObjOk X.prog X.w H s.heap a (.dT kvs) from I.hok a _ ea)
    exact PySem.W.kia_one PySem.W.kitx_dict I.kIn ⟨o, h1, h2.1⟩ e (fun z => nomatch z) h
  | @ins a C dx fs ea cl ha hn htk hm =>
    cases (show u = Value.ref a from rx)
    obtain ⟨mA, O, _⟩ := ins_get I.hok ea
    obtain ⟨od, J, _⟩ := O.look
    exact PySem.W.kia_one (PySem.W.kitx_own (cl.get _) cl.hd ha hn htk hm) I.kIn J e (fun z => nomatch z) h
end
end L2

namespace L2
open PySem PySem.Spec PyProof.Rows

structure Room (k : Nat) (A : Around) : Prop where
  hd : A.handled = none
  dp : A.depth + 3 * k + 5 < recursionLimit
  un : A.units + 16 * k + 200 < cLine
  gd : A.guards = some []
theorem Room.mono {j k : Nat} {A : Around} (r : Room k A) (h : j ≤ k) : Room j A := ⟨r.hd, by have := r.dp; omega, by have := r.un; omega, r.gd⟩
theorem Room.deeper {k : Nat} {A : Around} (r : Room (k + 1) A) (env : Env) : Room k (A.deeper env) :=
  ⟨r.hd, by have := r.dp; show A.depth + 1 + 3 * k + 5 < _; omega, by have := r.un; show A.units + 3 + 16 * k + 200 < _; omega, r.gd⟩
theorem Room.in1 {k : Nat} {A : Around} (r : Room (k + 1) A) : Room k A.in1 :=
  ⟨r.hd, by have := r.dp; show A.depth + 3 * k + 5 < _; omega, by have := r.un; show A.units + 1 + 16 * k + 200 < _; omega, r.gd⟩
theorem make_depth {A : Around} {C : Addr} {us : List Value} {kw : List (Str × Value)} : (A.under (.builtin "type.__call__" ⟨.ref C :: us, kw⟩)).depth = A.depth + 1 := by
  first | rfl | simp [Around.under, Code.weight, Code.isCreation, Code.isGuard, Code.isCaller, Code.frames, Code.isFrame, guardIds]
theorem make_units {A : Around} {C : Addr} {us : List Value} {kw : List (Str × Value)} : (A.under (.builtin "type.__call__" ⟨.ref C :: us, kw⟩)).units = A.units + 1 := by
  first | rfl | simp [Around.under, Code.cUnits, Code.frames, Code.isFrame]
theorem make_guards {A : Around} {C : Addr} {us : List Value} {kw : List (Str × Value)} : (A.under (.builtin "type.__call__" ⟨.ref C :: us, kw⟩)).guards = A.guards := by
  first | rfl | simp [Around.under, Code.cUnits, Code.frames, Code.isFrame]
theorem Room.make {k : Nat} {A : Around} (r : Room (k + 1) A) (C : Addr) (us : List Value) (kw : List (Str × Value)) : Room k (A.under (.builtin "type.__call__" ⟨.ref C :: us, kw⟩)) :=
  ⟨r.hd, by have := r.dp; rw [make_depth]; omega, by have := r.un; rw [make_units]; omega, by rw [make_guards]; exact r.gd⟩
theorem Room.depth {k : Nat} {A : Around} (r : Room k A) : A.depth < recursionLimit := by have := r.dp; omega
theorem Room.units {k : Nat} {A : Around} (r : Room k A) : A.units + 64 < cLine := by have := r.un; omega
theorem Room.units0 {k : Nat} {A : Around} (r : Room k A) : A.units < cLine := by have := r.un; omega

def tNil : TA := fun _ H Q => Q [] H
def tCons (ta : TE) (tr : TA) : TA := fun σ H Q => ta σ H fun x H1 => tr σ H1 fun xs H2 => Q (x :: xs) H2
section
variable {X : Cx} {e : Expr} {es : List Expr} {te : TE} {t : TA} {pos : Pos}
theorem pa_nil : PA X [] tNil := fun _ _ _ _ H Q I h => Calls.spliced_nil ⟨[], H, I, .nil, h⟩
theorem pa_cons (ha : PE X e te) (hr : PA X es t) (hs : starEach (e :: es) X.env = (false, eval e X.env) :: starEach es X.env := by rfl) : PA X (e :: es) (tCons te t) := by
  intro pos pins s σ H Q I h
  rw [hs]
  show wpAny _ _ (spliced ((false, eval e X.env) :: backTo pos (starEach es X.env))) _ _ s
  refine Calls.spliced_cons (thn (ha pins s σ H _ I h) fun u s1 ⟨x, H1, I1, r1, q1⟩ => ?_)
  exact thn (hr pos pins s1 σ H1 _ I1 q1) fun us s2 ⟨xs, H2, I2, r2, q2⟩ => ⟨x :: xs, H2, I2, .cons r1 r2, q2⟩

def tTup (t : TA) : TE := fun σ H Q => t σ H fun xs H1 => xs.length ≤ sizeLine ∧ ∀ p, H1 p = none → Q (.ref p) (upd H1 p (.tup xs))
def tLst (t : TA) : TE := fun σ H Q => t σ H fun xs H1 => xs.length ≤ sizeLine ∧ ∀ p, H1 p = none → Q (.ref p) (upd H1 p (.lst xs))
theorem pe_tup {x1} (h : PA X es t) : PE X (.Tuple es x1 pos) (tTup t) := by
  intro pins s σ H Q I hq
  refine wpAny_Tuple_spliced (thn (h pos pins s σ H _ I hq) fun us s1 ⟨xs, H1, I1, r, z, q⟩ => ⟨by rw [← r.length]; exact z, ?_⟩)
  have hf : H1 s1.heap.objs.size = none := I1.hok.fresh (Nat.le_refl _)
  refine ⟨.ref s1.heap.objs.size, upd H1 s1.heap.objs.size (.tup xs), I1.laid (t' := s1.toks) (fun b u e => Heap.get?_push_of_some _ e) (Nat.le_refl _) ?_, rfl, q _ hf⟩
  exact ⟨z, us, r, ⟨_, Heap.get?_push_size _ rfl, rfl, _, rfl⟩, tup_nodict⟩
theorem pe_lst (h : PA X es t) : PE X (.List es pos) (tLst t) := by
  intro pins s σ H Q I hq
  refine wpAny_List_spliced (thn (h pos pins s σ H _ I hq) fun us s1 ⟨xs, H1, I1, r, z, q⟩ => ⟨by rw [← r.length]; exact z, ?_⟩)
  have hf : H1 s1.heap.objs.size = none := I1.hok.fresh (Nat.le_refl _)
  refine ⟨.ref s1.heap.objs.size, upd H1 s1.heap.objs.size (.lst xs), I1.laid (t' := s1.toks) (fun b u e => Heap.get?_push_of_some _ e) (Nat.le_refl _) ?_, rfl, q _ hf⟩
  exact ⟨z, us, 0, r, Heap.get?_push_size _ rfl⟩
end

abbrev Sp := List V → Hp → VK → XK → Prop
abbrev CXT := List Env → Hp → Shared → XK → Value → Shared → Prop

structure Env0 (P : Program) (w : World) (K : PySem.W.Frag) (mg : Str → Option Value) (base : Heap) (A : Around) (outer : List Env) (s : Shared) (H : Hp) : Prop where
  frames : A.frames = some outer
  mod : Mod K mg base
  bs : ∀ b o, base.get? b = some o → s.heap.get? b = some o ∧ H b = none
  bsz : base.objs.size ≤ s.heap.objs.size
  funs : s.heap.FunFrames base outer
  frf : ∀ b ∈ frs outer, H b = none
  hok : HOk P w H s.heap
  bare : AllBare s.gens
def CE (outer : List Env) (P : Program) (w : World) (H : Hp) (s : Shared) (Q : VK) (u : Value) (s' : Shared) : Prop :=
  ∃ v H', s'.os = s.os ∧ AllBare s'.gens ∧ Un (frs outer) [] H H' s.heap s'.heap ∧ HOk P w H' s'.heap ∧ RelV v u ∧ Q v H'
def CR (CX : CXT) (outer : List Env) (P : Program) (w : World) (H : Hp) (s : Shared) (Q : VK) (E : XK) (r : Result) (s' : Shared) : Prop :=
  match r with
  | .ok (.ret u) => CE outer P w H s Q u s'
  | .ok _ => False
  | .error e => CX outer H s E e s'
structure FnOk (P : Program) (w : World) (K : PySem.W.Frag) (mg : Str → Option Value) (base : Heap) (CX : CXT) (k : Nat) (f : Addr) (fd : FuncData) (ps : List Str) (sp : Sp) : Prop where
  len : ∀ vs H Q E, sp vs H Q E → vs.length = ps.length
  run : ∀ (A : Around) (outer : List Env) (s : Shared) (H : Hp) (args : Args) (us : List Value) (vs : List V) (Q : VK) (E : XK), Room k A → Env0 P w K mg base A outer s H → BindsTo s fd args (ps.zip us) → Vals vs us → sp vs H Q E →
    codeAny (model P w) A (.call (.ref f) args) (CR CX outer P w H s Q E) s
theorem FnOk.mono {P : Program} {w : World} {K : PySem.W.Frag} {mg : Str → Option Value} {base : Heap} {CX : CXT} {j k : Nat} {f : Addr} {fd : FuncData} {ps : List Str} {sp : Sp} (F : FnOk P w K mg base CX j f fd ps sp) (h : j ≤ k) :
    FnOk P w K mg base CX k f fd ps sp := ⟨F.len, fun A outer s H args us vs Q E hr => F.run A outer s H args us vs Q E (hr.mono h)⟩
theorem FnOk.imp {P : Program} {w : World} {K : PySem.W.Frag} {mg : Str → Option Value} {base : Heap} {CX : CXT} {k : Nat} {f : Addr} {fd : FuncData} {ps : List Str} {sp sp' : Sp} (F : FnOk P w K mg base CX k f fd ps sp)
    (h : ∀ vs H Q E, sp' vs H Q E → sp vs H Q E) : FnOk P w K mg base CX k f fd ps sp' :=
  ⟨fun vs H Q E q => F.len vs H Q E (h _ _ _ _ q), fun A outer s H args us vs Q E hr he hb hv hs => F.run A outer s H args us vs Q E hr he hb hv (h _ _ _ _ hs)⟩

theorem Env0.make {P : Program} {w : World} {K : PySem.W.Frag} {mg : Str → Option Value} {base : Heap} {A : Around} {outer : List Env} {s : Shared} {H : Hp} (e : Env0 P w K mg base A outer s H) (C : Addr) (us : List Value) (kw : List (Str × Value)) :
    Env0 P w K mg base (A.under (.builtin "type.__call__" ⟨.ref C :: us, kw⟩)) outer s H := ⟨by first | exact e.frames | (simpa [Around.under, Code.envs, Code.isFrame, pushEnvs] using e.frames), e.mod, e.bs, e.bsz, e.funs, e.frf, e.hok, e.bare⟩
theorem Env0.in1 {P : Program} {w : World} {K : PySem.W.Frag} {mg : Str → Option Value} {base : Heap} {A : Around} {outer : List Env} {s : Shared} {H : Hp} (e : Env0 P w K mg base A outer s H) :
    Env0 P w K mg base A.in1 outer s H := ⟨e.frames, e.mod, e.bs, e.bsz, e.funs, e.frf, e.hok, e.bare⟩

section
variable {X : Cx} {pins : List (Addr × Obj)} {σ : St} {H : Hp} {s s' : Shared}
theorem Inv.env0 (I : Inv X pins σ H s) : Env0 X.prog X.w X.K X.mg X.base X.A X.stack s H :=
  ⟨I.ok.frames, I.ok.mod, I.bs, Nat.le_trans I.ok.bsz I.sz, I.stack, I.stkFree, I.hok, I.bare⟩
theorem Inv.after {Q : VK} {u : Value} (I : Inv X pins σ H s) (h : CE X.stack X.prog X.w H s Q u s') : EP X pins σ Q u s' := by
  obtain ⟨v, H', os, bare, un, hok, r, q⟩ := h
  obtain ⟨hh, g, d, t, os'⟩ := s'
  obtain rfl : os' = s.os := os
  exact ⟨v, H', I.call (h' := hh) (g' := g) (d' := d) (t' := t) (ch := []) un hok bare (fun b z => absurd z (by simp)), r, q⟩
end

def tCall (sp : Sp) (dvs : List V) (E : XK) (t : TA) : TE := fun σ H Q => t σ H fun vs H1 => sp (vs ++ dvs) H1 Q E
def tMeth (C : Addr) (m : Str) (sp : Sp) (dvs : List V) (E : XK) (ta : TE) (t : TA) : TE := fun σ H Q => ta σ H fun x H1 => ∃ a dx fs, x = .ref a ∧ H1 a = some (.ins C dx fs) ∧ fs.lookup m = none ∧
  t σ H1 fun vs H2 => sp (x :: (vs ++ dvs)) H2 Q E
def tMake (C : Addr) (sp : Sp) (dvs : List V) (E : XK) (t : TA) : TE := fun σ H Q => t σ H fun vs H1 => ∀ x dx, H1 x = none → H1 dx = none → dx ≠ x →
  sp (.ref x :: (vs ++ dvs)) (upd (upd H1 dx (.own x)) x (.ins C dx [])) (fun v H2 => v = .non ∧ Q (.ref x) H2) E

def Binds (K : PySem.W.Frag) (fd : FuncData) (ps : List Str) (ds : List Value) : Prop :=
  ∀ (s : Shared) (us : List Value), K.In s.heap → (us ++ ds).length = ps.length → BindsTo s fd ⟨us, []⟩ (ps.zip (us ++ ds))
theorem Binds.all {K : PySem.W.Frag} {fd : FuncData} {ps : List Str} (h : ∀ us : List Value, us.length = ps.length → bindArgs fd ⟨us, []⟩ = pure (ps.zip us)) : Binds K fd ps [] := fun s us _ hl => by
  rw [List.append_nil] at hl ⊢
  exact .of_eq (h us hl)

def Passes (CX : CXT) (X : Cx) (E : XK) : Prop := ∀ (pins : List (Addr × Obj)) (σ : St) (H : Hp) (s : Shared) (e : Value) (s' : Shared), Inv X pins σ H s → CX X.stack H s E e s' → X.xe e s'

section
variable {X : Cx} {CX : CXT} {k : Nat} {f C : Addr} {fd : FuncData} {ps : List Str} {sp : Sp} {dvs : List V} {ds : List Value} {E : XK} {x m : Str} {p pos apos : Pos} {e o : Expr} {es : List Expr} {ta : TE} {t : TA}

theorem run_fn {pins : List (Addr × Obj)} {σ : St} {H : Hp} {s : Shared} {Q : VK} {us : List Value} {vs : List V} (F : FnOk X.prog X.w X.K X.mg X.base CX k f fd ps sp) (hr : Room k X.A) (hb : Binds X.K fd ps ds) (hd : Vals dvs ds) (hx : Passes CX X E)
    (I : Inv X pins σ H s) (r : Vals vs us) (h : sp (vs ++ dvs) H Q E) : wpAny (model X.prog X.w) X.A (call (.ref f) us) (EP X pins σ Q) X.xe s := by
  have r2 : Vals (vs ++ dvs) (us ++ ds) := r.append hd
  have hl : (us ++ ds).length = ps.length := by rw [← r2.length]; exact F.len _ _ _ _ h
  refine wpAny_call (codeAny_mono (F.run X.A X.stack s H ⟨us, []⟩ (us ++ ds) (vs ++ dvs) Q E hr I.env0 (hb s us I.kIn hl) r2 h) fun r s' hq => ?_)
  cases r with
  | error e => exact hx pins σ H s e s' I hq
  | ok fl =>
    cases fl with
    | ret u => exact I.after hq
    | next => exact False.elim hq
    | brk => exact False.elim hq
    | cont => exact False.elim hq

theorem pe_call (F : FnOk X.prog X.w X.K X.mg X.base CX k f fd ps sp) (hr : Room k X.A) (hg : Gl X x) (hm : X.mg x = some (.ref f)) (hk : PySem.W.keepIn X.K (.ref f) = true) (hb : Binds X.K fd ps ds) (hd : Vals dvs ds) (hx : Passes CX X E)
    (ha : PA X (e :: es) t) (hdb : (x == ("__debug__" : Str)) = false := by decide) (he : starEach (e :: es) X.env = (false, eval e X.env) :: starEach es X.env := by rfl) (hpl : (backTo pos (starEach es X.env)).any (·.1) = false := by rfl) :
    PE X (.Call (.Name x p) (e :: es) [] pos) (tCall sp dvs E t) := by
  intro pins s σ H Q I h
  refine wpAny_Call_Name_kw (ld_glob I hg hm ?_ hdb)
  refine PySem.W.callWith_K (h₀ := X.base) I.ok.mod.kin hk (thn (ha pos pins s σ H _ I h) fun us s1 ⟨vs, H1, I1, r, q⟩ => ⟨I1.kIn, ?_⟩) he hpl
  exact run_fn F hr hb hd hx I1 r q
theorem pe_meth {pl : Sem Bool} (he : PE X o ta) (c : Cls X.K C) (hm : Meth X.K C m f) (F : FnOk X.prog X.w X.K X.mg X.base CX k f fd ps sp) (hr : Room k X.A) (hb : Binds X.K fd ps ds) (hd : Vals dvs ds) (hx : Passes CX X E) (ha : PA X (e :: es) t)
    (hst : starEach (e :: es) X.env = (false, eval e X.env) :: starEach es X.env := by rfl) (hpl : (backTo pos (starEach es X.env)).any (·.1) = false := by rfl)
    (ht : eval (.Call (.Attribute o m apos) (e :: es) [] pos) X.env = (do
      let ov ← eval o X.env
      standAt apos.atName
      let (f, first) ← holding [ov] (getMethod ov m pl)
      callWith pos f first (backTo pos (starEach (e :: es) X.env)) (backToKw pos (keywordEach [] X.env))) := by rfl) :
    PE X (.Call (.Attribute o m apos) (e :: es) [] pos) (tMeth C m sp dvs E ta t) := by
  intro pins s σ H Q I h
  refine PySem.W.methodCall_KW (pl := pl) (thn (he pins s σ H _ I h) fun u s1 ⟨x, H1, I1, rx, a, dx, fs, ex, ea, l, q⟩ => ?_) ht
  subst ex
  obtain rfl : u = Value.ref a := rx
  refine getmeth_ok I1 ea c hm l ?_
  refine PySem.W.callWith_K (first := [.ref a]) (h₀ := X.base) I.ok.mod.kin hm.kp (thn (ha pos pins s1 σ H1 _ I1 q) fun us s2 ⟨vs, H2, I2, r, q2⟩ => ⟨I2.kIn, ?_⟩) hst hpl
  exact run_fn (us := .ref a :: us) (vs := .ref a :: vs) F hr hb hd hx I2 (.cons rfl r) q2
theorem pe_meth0 {pl : Sem Bool} (he : PE X o ta) (c : Cls X.K C) (hm : Meth X.K C m f) (F : FnOk X.prog X.w X.K X.mg X.base CX k f fd ps sp) (hr : Room k X.A) (hb : Binds X.K fd ps ds) (hd : Vals dvs ds) (hx : Passes CX X E)
    (ht : eval (.Call (.Attribute o m apos) [] [] pos) X.env = (do
      let ov ← eval o X.env
      standAt apos.atName
      let (f, first) ← holding [ov] (getMethod ov m pl)
      callWith pos f first (backTo pos (starEach [] X.env)) (backToKw pos (keywordEach [] X.env))) := by rfl) :
    PE X (.Call (.Attribute o m apos) [] [] pos) (tMeth C m sp dvs E ta tNil) := by
  intro pins s σ H Q I h
  refine PySem.W.methodCall_KW (pl := pl) (thn (he pins s σ H _ I h) fun u s1 ⟨x, H1, I1, rx, a, dx, fs, ex, ea, l, q⟩ => ?_) ht
  subst ex
  obtain rfl : u = Value.ref a := rx
  refine getmeth_ok I1 ea c hm l ?_
  exact PySem.W.callWith_K0 (first := [.ref a]) I1.kIn hm.kp (run_fn (us := [.ref a]) (vs := [.ref a]) F hr hb hd hx I1 (.cons rfl .nil) q)

structure Mk (K : PySem.W.Frag) (C f : Addr) : Prop where
  makes : PySem.W.makesIn K C = true
  init : PySem.W.findIn K (.ref C) "__init__" = some (some (.ref f))
  fn : PySem.W.isFn K (.ref f) = true
  kp : PySem.W.keepIn K (.ref C) = true

theorem run_make {pins : List (Addr × Obj)} {σ : St} {H : Hp} {s : Shared} {Q : VK} {us : List Value} {vs : List V} (M : Mk X.K C f) (F : FnOk X.prog X.w X.K X.mg X.base CX k f fd ps sp) (hr : Room (k + 1) X.A) (hb : Binds X.K fd ps ds) (hd : Vals dvs ds)
    (hx : Passes CX X E) (I : Inv X pins σ H s) (r : Vals vs us)
    (h : ∀ x dx, H x = none → H dx = none → dx ≠ x → sp (.ref x :: (vs ++ dvs)) (upd (upd H dx (.own x)) x (.ins C dx [])) (fun v H2 => v = .non ∧ Q (.ref x) H2) E) :
    wpAny (model X.prog X.w) X.A (call (.ref C) us) (EP X pins σ Q) X.xe s := by
  have hq := h (s.heap.objs.size + 1) s.heap.objs.size (I.hok.fresh (Nat.le_succ _)) (I.hok.fresh (Nat.le_refl _)) (Nat.ne_of_lt (Nat.lt_succ_self _))
  have I2 := Inv.made (C := C) I
  have r2 : Vals (V.ref (s.heap.objs.size + 1) :: (vs ++ dvs)) (Value.ref (s.heap.objs.size + 1) :: (us ++ ds)) := .cons rfl (r.append hd)
  have hl : (Value.ref (s.heap.objs.size + 1) :: us ++ ds).length = ps.length := by
    have e := r2.length
    rw [F.len _ _ _ _ hq] at e
    exact e.symm
  refine wpAny_call (make_map (f := f) I.kIn M.makes M.init (beq_iff_eq.mp M.fn) (codeAny_mono (F.run _ X.stack _ _ ⟨Value.ref (s.heap.objs.size + 1) :: us, []⟩ (Value.ref (s.heap.objs.size + 1) :: (us ++ ds)) _ _ E (hr.make C us [])
    (I2.env0.make C us []) (hb _ (Value.ref (s.heap.objs.size + 1) :: us) I2.kIn hl) r2 hq) fun r s' hq' => ?_))
  cases r with
  | error e => exact hx pins σ _ _ e s' I2 hq'
  | ok fl =>
    cases fl with
    | ret u =>
      obtain ⟨v, H', I3, rv, ev, q3⟩ := I2.after hq'
      subst ev
      exact ⟨rv, ⟨V.ref (s.heap.objs.size + 1), H', I3, rfl, q3⟩⟩
    | next => exact False.elim hq'
    | brk => exact False.elim hq'
    | cont => exact False.elim hq'
theorem pe_make (M : Mk X.K C f) (F : FnOk X.prog X.w X.K X.mg X.base CX k f fd ps sp) (hr : Room (k + 1) X.A) (hg : Gl X x) (hm : X.mg x = some (.ref C)) (hb : Binds X.K fd ps ds) (hd : Vals dvs ds) (hx : Passes CX X E)
    (ha : PA X (e :: es) t) (hdb : (x == ("__debug__" : Str)) = false := by decide) (he : starEach (e :: es) X.env = (false, eval e X.env) :: starEach es X.env := by rfl) (hpl : (backTo pos (starEach es X.env)).any (·.1) = false := by rfl) :
    PE X (.Call (.Name x p) (e :: es) [] pos) (tMake C sp dvs E t) := by
  intro pins s σ H Q I h
  refine wpAny_Call_Name_kw (ld_glob I hg hm ?_ hdb)
  refine PySem.W.callWith_K (h₀ := X.base) I.ok.mod.kin M.kp (thn (ha pos pins s σ H _ I h) fun us s1 ⟨vs, H1, I1, r, q⟩ => ⟨I1.kIn, ?_⟩) he hpl
  exact run_make M F hr hb hd hx I1 r q
end

def PK (X : Cx) (kws : List Keyword) (t : TA) : Prop :=
  ∀ (pos : Pos) (pins : List (Addr × Obj)) (s : Shared) (σ : St) (H : Hp) (Q : List V → Hp → Prop), Inv X pins σ H s → t σ H Q → wpAny (model X.prog X.w) X.A (evalAll ((backToKw pos (keywordEach kws X.env)).map (·.2))) (AP X pins σ Q) X.xe s
section
variable {X : Cx} {CX : CXT} {k : Nat} {f C : Addr} {fd : FuncData} {ps ks : List Str} {sp : Sp} {E : XK} {x m : Str} {p pos apos kpos : Pos} {e o : Expr} {es : List Expr} {kws : List Keyword} {te ta : TE} {t tk : TA} {nm : Option Str}
structure KBinds (K : PySem.W.Frag) (fd : FuncData) (ps ks : List Str) (g : List Value → List Value → List Value) (gV : List V → List V → List V) : Prop where
  to : ∀ (s : Shared) (us ws : List Value), K.In s.heap → (g us ws).length = ps.length → BindsTo s fd ⟨us, ks.zip ws⟩ (ps.zip (g us ws))
  rel : ∀ {vs : List V} {us : List Value} {zs : List V} {ws : List Value}, Vals vs us → Vals zs ws → Vals (gV vs zs) (g us ws)
variable {g : List Value → List Value → List Value} {gV : List V → List V → List V}
end

structure FnScope (N P : List Str) (sc : Scope) : Prop where
  kind : sc.kind = .function
  co : sc.isCoroutine = false
  gen : sc.isGenerator = false
  nd : N.Nodup
  pre : N.take P.length = P
  par : ∀ x ∈ P, sc.names.lookup x = some .local ∨ sc.names.lookup x = some .cell
  nofree : ∀ y ∈ sc.names, y.2 ≠ .free

theorem bindL_out {kindOf : Str → Option NameKind} {x : Str} : ∀ {binds : List (Str × Value)} {m : Str → Option Value}, (∀ v, (x, v) ∉ binds) → bindL kindOf binds m x = m x
  | [], _, _ => rfl
  | (n, v) :: r, m, h => by
    unfold bindL
    rw [bindL_out fun w hw => h w (List.mem_cons_of_mem _ hw)]
    split
    · have : x ≠ n := by rintro rfl; exact h v List.mem_cons_self
      simp [this]
    · rfl
theorem bindC_out {kindOf : Str → Option NameKind} {x : Str} : ∀ {binds : List (Str × Value)} {m : Str → Option Value}, (∀ v, (x, v) ∉ binds) → bindC kindOf binds m x = m x
  | [], _, _ => rfl
  | (n, v) :: r, m, h => by
    unfold bindC
    rw [bindC_out fun w hw => h w (List.mem_cons_of_mem _ hw)]
    split
    · rfl
    · have : x ≠ n := by rintro rfl; exact h v List.mem_cons_self
      simp [this]
theorem bindL_get {kindOf : Str → Option NameKind} {x : Str} {v : Value} : ∀ {P : List Str} {vs : List Value} {i : Nat} {m : Str → Option Value}, P.Nodup → P[i]? = some x → vs[i]? = some v → kindOf x = some .local →
    bindL kindOf (P.zip vs) m x = some v
  | [], _, _, _, _, h, _, _ => by simp at h
  | _ :: _, [], _, _, _, _, h, _ => by simp at h
  | p :: P, w :: vs, 0, m, nd, h1, h2, hk => by
    simp at h1 h2; subst h1; subst h2
    show bindL kindOf ((p, w) :: P.zip vs) m p = _
    unfold bindL
    rw [bindL_out fun v hv => (List.nodup_cons.mp nd).1 (List.of_mem_zip hv).1, if_pos hk]
    simp
  | p :: P, w :: vs, i + 1, m, nd, h1, h2, hk => by
    show bindL kindOf ((p, w) :: P.zip vs) m x = _
    unfold bindL
    exact bindL_get (i := i) (List.nodup_cons.mp nd).2 (by simpa using h1) (by simpa using h2) hk
theorem bindC_get {kindOf : Str → Option NameKind} {x : Str} {v : Value} : ∀ {P : List Str} {vs : List Value} {i : Nat} {m : Str → Option Value}, P.Nodup → P[i]? = some x → vs[i]? = some v → kindOf x ≠ some .local →
    bindC kindOf (P.zip vs) m x = some v
  | [], _, _, _, _, h, _, _ => by simp at h
  | _ :: _, [], _, _, _, _, h, _ => by simp at h
  | p :: P, w :: vs, 0, m, nd, h1, h2, hk => by
    simp at h1 h2; subst h1; subst h2
    show bindC kindOf ((p, w) :: P.zip vs) m p = _
    unfold bindC
    rw [bindC_out fun v hv => (List.nodup_cons.mp nd).1 (List.of_mem_zip hv).1, if_neg hk]
    simp
  | p :: P, w :: vs, i + 1, m, nd, h1, h2, hk => by
    show bindC kindOf ((p, w) :: P.zip vs) m x = _
    unfold bindC
    exact bindC_get (i := i) (List.nodup_cons.mp nd).2 (by simpa using h1) (by simpa using h2) hk

def start (N : List Str) (vs : List V) : St := vs.map some ++ List.replicate (N.length - vs.length) none

def cxOf (CX : CXT) (P : Program) (w : World) (K : PySem.W.Frag) (mg : Str → Option Value) (base : Heap) (N : List Str) (qual : Str) (scope : Scope) (f : Addr) (cd : Value) (A : Around) (outer : List Env) (s : Shared) (H : Hp) (E : XK) : Cx where
  prog := P
  w := w
  K := K
  mg := mg
  base := base
  A := A.deeper (envOfC qual scope s.heap.objs.size f cd)
  N := N
  s₀ := s
  H₀ := H
  env := envOfC qual scope s.heap.objs.size f cd
  outer := outer
  stack := envOfC qual scope s.heap.objs.size f cd :: outer
  ex := []
  calm := true
  fn := fun _ => true
  pn := []
  xe := fun e s' => wpAny (model P w) (A.deeper (envOfC qual scope s.heap.objs.size f cd)) (leaving (envOfC qual scope s.heap.objs.size f cd) e) (fun _ s'' => CX outer H s E e s'') (fun e' s'' => CX outer H s E e' s'') s'

theorem cell_has {sc : Scope} {n : Nat} {x : Str} (h : sc.names.lookup x = some .cell) : ∃ c, (cellsFrom n sc.names []).lookup x = some c := by
  have q := PySem.W.cellsFrom_some sc.names n [] (.inl h)
  exact Option.isSome_iff_exists.mp q

theorem inv_start {CX : CXT} {P : Program} {w : World} {K : PySem.W.Frag} {mg : Str → Option Value} {base : Heap} {N ps : List Str} {qual : Str} {scope : Scope} {f : Addr} {cd : Value} {A : Around} {outer : List Env} {s s1 : Shared} {H : Hp} {E : XK} {us : List Value} {vs : List V}
    (S : FnScope N ps scope) (hd : A.handled = none) (e0 : Env0 P w K mg base A outer s H) (hl : vs.length = ps.length) (r : Vals vs us)
    (x : InCallC s s.heap.objs.size (bindL (envOfC qual scope s.heap.objs.size f cd).kindOf (ps.zip us) fun _ => none) (cellsFrom (s.heap.objs.size + 1) scope.names []) (bindC (envOfC qual scope s.heap.objs.size f cd).kindOf (ps.zip us) fun _ => none) s1) :
    Inv (cxOf CX P w K mg base N qual scope f cd A outer s H E) [] (start N vs) H s1 := by
  have hpl : ps.length ≤ N.length := by have := congrArg List.length S.pre; rw [List.length_take] at this; omega
  obtain ⟨h1, tk, rfl, hk⟩ := x.done
  have noA : ∀ b : Addr, b ∉ (cxOf CX P w K mg base N qual scope f cd A outer s H E).ex := fun b z => absurd (show b ∈ ([] : List Addr) from z) (by simp)
  refine ⟨⟨e0.mod, S.kind, rfl, rfl, Nat.le_refl _, fun y z c h1 h2 => ?_, fun y hy => ?_, fun y c _ h => ?_, fun _ => hd, Around.frames_deeper e0.frames, .inr ⟨rfl, rfl⟩, fun b z => absurd z (noA b), e0.bs, e0.bsz, fun b _ _ => noA b, fun b z => absurd z (noA b), e0.funs, e0.frf⟩,
    rfl, e0.bare, Un.kept hk, ⟨_, x.toInCall.ns, fun i y v h1 h2 h3 => ?_⟩, fun y c h => ⟨_, x.cell y c h⟩, e0.hok.fresh (Nat.le_refl _), fun y c h => ?_, fun p hp => absurd (show p ∈ ([] : List (Addr × Obj)) from hp) (by simp), e0.hok.kept hk, ?_⟩
  · exact name_of_addr x.apart (PySem.mem_of_lookup h1) (PySem.mem_of_lookup h2)
  · have hy : scope.names.lookup y = some .cell ∨ scope.names.lookup y = some .free := hy
    rcases hy with hy | hy
    · exact cell_has hy
    · exact absurd rfl (S.nofree _ (PySem.mem_of_lookup hy))
  · exact Nat.le_of_lt (x.above y c (PySem.mem_of_lookup h))
  · have hi : i < vs.length := by
      unfold start at h2
      by_cases hi : i < vs.length
      · exact hi
      · rw [List.getElem?_append_right (by simpa using hi)] at h2
        rw [List.getElem?_replicate] at h2
        split at h2 <;> cases h2
    have ha : vs[i]? = some v := by
      unfold start at h2
      rw [List.getElem?_append_left (by simpa using hi), List.getElem?_map] at h2
      cases e : vs[i]? with
      | none => rw [e] at h2; cases h2
      | some a => rw [e] at h2; cases h2; rfl
    obtain ⟨u, hu, rv⟩ := r.get ha
    have hp : ps[i]? = some y := by
      rw [← S.pre, List.getElem?_take_of_lt (by omega)]; exact h1
    have ndP : ps.Nodup := by rw [← S.pre]; exact S.nd.sublist (List.take_sublist _ _)
    refine ⟨u, rv, ?_⟩
    rcases S.par y (List.mem_of_getElem? hp) with k | k
    · exact .inl ⟨k, bindL_get ndP hp hu k⟩
    · obtain ⟨c, e⟩ := cell_has (n := s.heap.objs.size + 1) k
      refine .inr ⟨.inl k, c, e, ?_⟩
      have q := x.cell y c e
      rw [bindC_get ndP hp hu (by show scope.names.lookup y ≠ _; rw [k]; decide)] at q
      exact q
  · exact e0.hok.fresh (Nat.le_of_lt (x.above y c (PySem.mem_of_lookup h)))
  · unfold start
    show _ = N.length
    rw [List.length_append, List.length_map, List.length_replicate]
    omega

theorem fn_of {CX : CXT} {P : Program} {w : World} {K : PySem.W.Frag} {mg : Str → Option Value} {base : Heap} {k : Nat} {f : Addr} {name qual : Str} {params : Arguments} {body : List Stmt} {scope : Scope} {dV kV doc pm cdv ct oc : Value} {an od : Option Addr}
    {osl : Array (Option Value)} {N ps : List Str} {sp : Sp} (lk : K.lookup f = some ⟨oc, od, .func (PySem.W.fnOf name qual params body scope dV kV doc pm an cdv ct), osl⟩) (hcd : PySem.W.codeIn K cdv qual = true) (S : FnScope N ps scope)
    (len : ∀ vs H Q E, sp vs H Q E → vs.length = ps.length)
    (hbody : ∀ (A : Around) (outer : List Env) (s : Shared) (H : Hp) (vs : List V) (Q : VK) (E : XK), Room k (A.deeper (envOfC qual scope s.heap.objs.size f cdv)) → sp vs H Q E →
      ∃ t, PSs (cxOf CX P w K mg base N qual scope f cdv A outer s H E) body t ∧ t { nx := fun _ H' => Q .non H', rt := Q } (start N vs) H) :
    FnOk P w K mg base CX (k + 1) f (PySem.W.fnOf name qual params body scope dV kV doc pm an cdv ct) ps sp := by
  refine ⟨len, fun A outer s H args us vs Q E hr e0 hb r hsp => ?_⟩
  have hl := len _ _ _ _ hsp
  have KX : K.In s.heap := e0.mod.kin.keeps fun b o e => (e0.bs b o e).1
  have lim : s.heap.NoLimit := e0.mod.nolimit.keeps fun b o e => (e0.bs b o e).1
  have hkind : ∀ y ∈ ps.zip us, scope.names.lookup y.1 = some .local ∨ (scope.names.lookup y.1 = some .cell ∧ ((cellsFrom (s.heap.objs.size + 1) scope.names []).lookup y.1).isSome = true) := fun ⟨n, v⟩ hy => by
    rcases S.par n (List.of_mem_zip hy).1 with q | q
    · exact .inl q
    · exact .inr ⟨q, PySem.W.cellsFrom_some _ _ _ (.inl q)⟩
  refine codeAny_call_function hr.depth (KX _ _ lk) rfl S.co S.gen rfl (PySem.W.codeRec_of KX hcd) (hb _ _ _ _ ?_)
  refine wpAny_newFunctionEnv_cells S.kind hkind fun env he s1 x => ?_
  subst he
  refine ⟨lim.keeps x.toInCall.keep, codeAny_func ?_⟩
  obtain ⟨t, ht, hq⟩ := hbody A outer s H vs Q E (hr.deeper _) hsp
  have I : Inv (cxOf CX P w K mg base N qual scope f cdv A outer s H E) [] (start N vs) H s1 := inv_start S hr.hd e0 hl r x
  refine wpAny_mono (ht [] s1 (start N vs) H _ I hq) (fun fl s' hs => ?_) fun e s' hs => hs
  have fin : ∀ {σ' : St} {H' : Hp} {v : V} {u : Value}, Inv (cxOf CX P w K mg base N qual scope f cdv A outer s H E) [] σ' H' s' → RelV v u → Q v H' → CE outer P w H s Q u s' :=
    fun {σ' H' v u} J rv q => ⟨v, H', J.os, J.bare, J.base, J.hok, rv, q⟩
  cases fl with
  | ret u =>
    obtain ⟨v, σ', H', J, rv, q⟩ := hs
    exact fin J rv q
  | next =>
    obtain ⟨σ', H', J, q⟩ := hs
    exact fin (v := V.non) (u := Value.none) J rfl q
  | brk =>
    obtain ⟨_, _, _, q⟩ := hs
    exact False.elim q
  | cont =>
    obtain ⟨_, _, _, q⟩ := hs
    exact False.elim q
end L2

namespace L2
open PySem PySem.Spec PyProof.Rows
section
variable {X : Cx} {x : Str} {p pos : Pos} {e : Expr} {es : List Expr} {t : TA} {id T : String} {r : List V → Hp → VK → Prop}

def tCB (r : List V → Hp → VK → Prop) (t : TA) : TE := fun σ H Q => t σ H fun vs H1 => r vs H1 Q
theorem pe_callB (hc : CallR X (.builtin id) r) (hg : Gl X x) (hm : X.mg x = none) (hv : bootBuiltins x = some (.builtin id)) (ha : PA X (e :: es) t) (hn : x ≠ "__name__" := by decide) (hdb : (x == ("__debug__" : Str)) = false := by decide)
    (he : starEach (e :: es) X.env = (false, eval e X.env) :: starEach es X.env := by rfl) (hpl : (backTo pos (starEach es X.env)).any (·.1) = false := by rfl) : PE X (.Call (.Name x p) (e :: es) [] pos) (tCB r t) := by
  intro pins s σ H Q I h
  refine wpAny_Call_Name_kw (ld_blt I hg hm hv ?_ hn hdb)
  exact PyProof.Rows.callWith_builtin1 (thn (ha pos pins s σ H _ I h) fun us s1 ⟨vs, H1, I1, r1, q1⟩ => hc pins s1 σ H1 vs us Q I1 r1 q1) he hpl
theorem pe_callTy (hc : CallR X (.type T) r) (hg : Gl X x) (hm : X.mg x = none) (hv : bootBuiltins x = some (.type T)) (ha : PA X (e :: es) t) (hn : x ≠ "__name__" := by decide) (hdb : (x == ("__debug__" : Str)) = false := by decide)
    (he : starEach (e :: es) X.env = (false, eval e X.env) :: starEach es X.env := by rfl) (hpl : (backTo pos (starEach es X.env)).any (·.1) = false := by rfl) : PE X (.Call (.Name x p) (e :: es) [] pos) (tCB r t) := by
  intro pins s σ H Q I h
  refine wpAny_Call_Name_kw (ld_blt I hg hm hv ?_ hn hdb)
  exact PyProof.Rows.callWith_type1 (thn (ha pos pins s σ H _ I h) fun us s1 ⟨vs, H1, I1, r1, q1⟩ => hc pins s1 σ H1 vs us Q I1 r1 q1) he hpl
end
end L2
namespace L2
open PySem PySem.Spec PyProof.Rows

section
variable {κ : Type} [DecidableEq κ]
def valV (kvs : List (κ × V)) (k : κ) : Option V := (kvs.find? fun kv => decide (kv.1 = k)).map (·.2)
def putK (kvs : List (κ × V)) (k : κ) (v : V) : List (κ × V) :=
  if (kvs.any fun kv => decide (kv.1 = k)) = true then kvs.map (fun kv => if kv.1 = k then (kv.1, v) else kv) else kvs ++ [(k, v)]
def dropK (kvs : List (κ × V)) (k : κ) : List (κ × V) := kvs.filter fun kv => decide (kv.1 ≠ k)

theorem valV_pos {p : κ × V} {r : List (κ × V)} {k : κ} (e : p.1 = k) : valV (p :: r) k = some p.2 := by simp [valV, List.find?_cons, e]
theorem valV_neg {p : κ × V} {r : List (κ × V)} {k : κ} (e : ¬ p.1 = k) : valV (p :: r) k = valV r k := by simp [valV, List.find?_cons, e]
theorem valV_any (k : κ) : ∀ kvs : List (κ × V), (kvs.any fun kv => decide (kv.1 = k)) = (valV kvs k).isSome
  | [] => rfl
  | p :: r => by
    rw [List.any_cons]
    by_cases e : p.1 = k
    · simp only [valV_pos e, decide_eq_true e, Bool.true_or, Option.isSome_some]
    · rw [valV_neg e, decide_eq_false e, Bool.false_or]; exact valV_any k r
theorem valV_map (k j : κ) (y : V) : ∀ kvs : List (κ × V), valV (kvs.map fun kv => if kv.1 = k then (kv.1, y) else kv) j = (valV kvs j).map fun x => if j = k then y else x
  | [] => rfl
  | p :: r => by
    have ih := valV_map k j y r
    rw [List.map_cons]
    by_cases h : p.1 = k
    · rw [if_pos h]
      by_cases e : p.1 = j
      · rw [valV_pos (p := (p.1, y)) e, valV_pos e, Option.map_some, if_pos (e.symm.trans h)]
      · rw [valV_neg (p := (p.1, y)) e, valV_neg e, ih]
    · rw [if_neg h]
      by_cases e : p.1 = j
      · rw [valV_pos (p := p) e, valV_pos e, Option.map_some, if_neg (fun z => h (e.trans z))]
      · rw [valV_neg (p := p) e, valV_neg e, ih]
theorem valV_snoc (k j : κ) (y : V) : ∀ kvs : List (κ × V), valV kvs k = none → valV (kvs ++ [(k, y)]) j = if j = k then some y else valV kvs j
  | [], _ => by
    by_cases e : k = j
    · rw [if_pos e.symm]; exact valV_pos (p := (k, y)) e
    · rw [if_neg (fun z => e z.symm)]; exact valV_neg (p := (k, y)) e
  | p :: r, hn => by
    rw [List.cons_append]
    have hk : ¬ p.1 = k := fun z => by rw [valV_pos z] at hn; cases hn
    rw [valV_neg hk] at hn
    have ih := valV_snoc k j y r hn
    by_cases e : p.1 = j
    · rw [valV_pos e, valV_pos e, if_neg (fun z => hk (e.trans z))]
    · rw [valV_neg e, valV_neg e, ih]
theorem valV_put (kvs : List (κ × V)) (k j : κ) (y : V) : valV (putK kvs k y) j = if j = k then some y else valV kvs j := by
  unfold putK
  by_cases a : (kvs.any fun kv => decide (kv.1 = k)) = true
  · rw [if_pos a, valV_map]
    rw [valV_any] at a
    by_cases e : j = k
    · obtain ⟨x, hx⟩ := Option.isSome_iff_exists.mp a
      rw [if_pos e, e, hx, Option.map_some, if_pos rfl]
    · rw [if_neg e]
      cases valV kvs j with
      | none => rfl
      | some x => rw [Option.map_some, if_neg e]
  · rw [if_neg a]
    refine valV_snoc k j y kvs ?_
    rw [valV_any] at a
    cases q : valV kvs k with
    | none => rfl
    | some x => rw [q] at a; exact (a rfl).elim
theorem length_putK (kvs : List (κ × V)) (k : κ) (v : V) : (putK kvs k v).length ≤ kvs.length + 1 := by
  unfold putK
  split
  · rw [List.length_map]; omega
  · rw [List.length_append, List.length_cons, List.length_nil]; omega
theorem RelO.isSome_eq {o : Option V} {u : Option Value} (r : RelO o u) : o.isSome = u.isSome := by
  cases o with
  | none => cases u with
    | none => rfl
    | some _ => exact (show False from r).elim
  | some _ => cases u with
    | none => exact (show False from r).elim
    | some _ => rfl
theorem RelO.getD {o : Option V} {u : Option Value} {d : V} {d' : Value} (r : RelO o u) (rd : RelV d d') : RelV (o.getD d) (u.getD d') := by
  cases o with
  | none => cases u with
    | none => exact rd
    | some _ => exact (show False from r).elim
  | some _ => cases u with
    | none => exact (show False from r).elim
    | some _ => exact r

theorem KV.val {kvs : List (κ × V)} {vs : List (κ × Value)} (r : KV kvs vs) (k : κ) : RelO (valV kvs k) (valueAt vs k) := by
  unfold KV at r
  induction r with
  | nil => exact True.intro
  | @cons p q ps qs h t ih =>
    obtain ⟨h1, h2⟩ := h
    by_cases e : p.1 = k
    · have e' : q.1 = k := h1.symm.trans e
      have b : valueAt (q :: qs) k = some q.2 := by simp [valueAt, List.find?_cons, e']
      rw [valV_pos e, b]; exact h2
    · have e' : ¬ q.1 = k := fun z => e (h1.trans z)
      have b : valueAt (q :: qs) k = valueAt qs k := by simp [valueAt, List.find?_cons, e']
      rw [valV_neg e, b]; exact ih
theorem KV.any {kvs : List (κ × V)} {vs : List (κ × Value)} (r : KV kvs vs) (k : κ) : (kvs.any fun kv => decide (kv.1 = k)) = vs.any fun kv => decide (kv.1 = k) := by
  unfold KV at r
  induction r with
  | nil => rfl
  | cons h t ih => rw [List.any_cons, List.any_cons, ih, h.1]
theorem KV.repl {kvs : List (κ × V)} {vs : List (κ × Value)} (r : KV kvs vs) (k : κ) {y : V} {u : Value} (ry : RelV y u) :
    KV (kvs.map fun kv => if kv.1 = k then (kv.1, y) else kv) (vs.map fun kv => if kv.1 = k then (kv.1, u) else kv) := by
  unfold KV at r ⊢
  induction r with
  | nil => exact .nil
  | @cons p q ps qs h t ih =>
    rw [List.map_cons, List.map_cons]
    refine .cons ?_ ih
    obtain ⟨h1, h2⟩ := h
    by_cases e : p.1 = k
    · rw [if_pos e, if_pos (h1.symm.trans e)]; exact ⟨h1, ry⟩
    · rw [if_neg e, if_neg (fun z => e (h1.trans z))]; exact ⟨h1, h2⟩
theorem KV.put {kvs : List (κ × V)} {vs : List (κ × Value)} (r : KV kvs vs) (k : κ) {y : V} {u : Value} (ry : RelV y u) : KV (putK kvs k y) (stored vs k u) := by
  unfold putK stored
  rw [r.any k]
  by_cases e : (vs.any fun kv => decide (kv.1 = k)) = true
  · rw [if_pos e, if_pos e]; exact r.repl k ry
  · rw [if_neg e, if_neg e]; exact Paired.snoc r ⟨rfl, ry⟩
theorem KV.drop {kvs : List (κ × V)} {vs : List (κ × Value)} (r : KV kvs vs) (k : κ) : KV (dropK kvs k) (without vs k) := by
  unfold KV at r ⊢
  unfold dropK without
  induction r with
  | nil => exact .nil
  | @cons p q ps qs h t ih =>
    obtain ⟨h1, h2⟩ := h
    rw [List.filter_cons, List.filter_cons]
    by_cases e : p.1 = k
    · have a : ¬ decide (p.1 ≠ k) = true := by simp [e]
      have b : ¬ decide (q.1 ≠ k) = true := by simp [h1.symm.trans e]
      rw [if_neg a, if_neg b]; exact ih
    · have e' : ¬ q.1 = k := fun z => e (h1.trans z)
      have a : decide (p.1 ≠ k) = true := by simp [e]
      have b : decide (q.1 ≠ k) = true := by simp [e']
      rw [if_pos a, if_pos b]; exact .cons ⟨h1, h2⟩ ih
theorem KV.keys {kvs : List (κ × V)} {vs : List (κ × Value)} (r : KV kvs vs) : kvs.map (·.1) = vs.map (·.1) := by
  unfold KV at r
  induction r with
  | nil => rfl
  | cons h t ih => rw [List.map_cons, List.map_cons, ih, h.1]
theorem KV.length {kvs : List (κ × V)} {vs : List (κ × Value)} (r : KV kvs vs) : kvs.length = vs.length := Paired.length r
theorem dropK_le (kvs : List (κ × V)) (k : κ) : (dropK kvs k).length ≤ kvs.length := List.length_filter_le _ _
end


theorem kV_is {P : Program} {w : World} {k : Key} {u : Value} (r : RelV (kV k) u) : (mixKind P w).is k u = true := by
  cases k with
  | inl i => obtain ⟨t, e⟩ := (show ∃ t, u = Value.int i t from r); subst e; exact mixKind_int P w i t
  | inr x => obtain ⟨t, e⟩ := (show ∃ t, u = Value.str x t from r); subst e; exact mixKind_str P w x t
theorem items_are {P : Program} {w : World} : ∀ {ks : List Key} {us : List Value}, Vals (ks.map kV) us → ItemsAre (mixKind P w) ks us
  | [], _, r => by rw [List.map_nil] at r; cases r; exact .nil
  | k :: ks, _, r => by
    rw [List.map_cons] at r
    cases r with
    | cons h t => exact .cons (kV_is h) (items_are t)

abbrev KT (H : Hp) : List (List Key × V) → List (List Key × Addr × Value) → Prop := Paired fun p q => p.1 = q.1 ∧ H q.2.1 = some (.tup (p.1.map kV)) ∧ RelV p.2 q.2.2
theorem KT.val {H : Hp} {kvs : List (List Key × V)} {xs : List (List Key × Addr × Value)} (r : KT H kvs xs) (k : List Key) : RelO (valV kvs k) ((atKey xs k).map (·.2)) := by
  induction r with
  | nil => exact True.intro
  | @cons p q ps qs h t ih =>
    obtain ⟨h1, _, h2⟩ := h
    by_cases e : p.1 = k
    · have e' : q.1 = k := h1.symm.trans e
      have b : atKey (q :: qs) k = some q.2 := by simp [atKey, List.find?_cons, e']
      rw [valV_pos e, b]; exact h2
    · have e' : ¬ q.1 = k := fun z => e (h1.trans z)
      have b : atKey (q :: qs) k = atKey qs k := by simp [atKey, List.find?_cons, e']
      rw [valV_neg e, b]; exact ih
theorem KT.repl {H : Hp} {kvs : List (List Key × V)} {xs : List (List Key × Addr × Value)} (r : KT H kvs xs) (k : List Key) {y : V} {u : Value} (ry : RelV y u) :
    KT H (kvs.map fun kv => if kv.1 = k then (kv.1, y) else kv) (xs.map (putAt k u)) := by
  induction r with
  | nil => exact .nil
  | @cons p q ps qs h t ih =>
    rw [List.map_cons, List.map_cons]
    refine .cons ?_ ih
    obtain ⟨h1, h2, h3⟩ := h
    unfold putAt
    by_cases e : p.1 = k
    · rw [if_pos e, if_pos (h1.symm.trans e)]; exact ⟨h1, h2, ry⟩
    · rw [if_neg e, if_neg (fun z => e (h1.trans z))]; exact ⟨h1, h2, h3⟩
theorem KT.put {H : Hp} {kvs : List (List Key × V)} {xs : List (List Key × Addr × Value)} (r : KT H kvs xs) (k : List Key) {b : Addr} {y : V} {u : Value} (hb : H b = some (.tup (k.map kV))) (ry : RelV y u) :
    KT H (putK kvs k y) (storedH xs k b u) := by
  have e : (kvs.any fun kv => decide (kv.1 = k)) = (atKey xs k).isSome := by
    rw [valV_any, (r.val k).isSome_eq, Option.isSome_map]
  unfold putK storedH
  rw [e]
  by_cases q : (atKey xs k).isSome = true
  · rw [if_pos q, if_pos q]; exact r.repl k ry
  · rw [if_neg q, if_neg q]; exact Paired.snoc r ⟨rfl, hb, ry⟩
theorem KT.keeps {H H' : Hp} {kvs : List (List Key × V)} {xs : List (List Key × Addr × Value)} (r : KT H kvs xs) (ht : ∀ b ys, H b = some (.tup ys) → H' b = some (.tup ys)) : KT H' kvs xs :=
  Paired.mapP r fun _ _ z => ⟨z.1, ht _ _ z.2.1, z.2.2⟩

section
variable {P : Program} {w : World} {H : Hp} {h : Heap} {a : Addr}
theorem rd_of {u : HO} (ok : HOk P w H h) (e : Rd H a u) : ObjOk P w H h a u := e.ok ok
theorem dk_rd {kvs : List (Key × V)} (ok : HOk P w H h) (e : Rd H a (.dK kvs)) : kvs.length ≤ sizeLine ∧ (a == sysModules) = false ∧ ∃ vs, KV kvs vs ∧ h.DictOf (mixKind P w) a vs :=
  show ObjOk P w H h a (.dK kvs) from rd_of ok e
theorem dk_of {kvs : List (Key × V)} (ok : HOk P w H h) (e : H a = some (.dK kvs)) : kvs.length ≤ sizeLine ∧ (a == sysModules) = false ∧ ∃ vs, KV kvs vs ∧ h.DictOf (mixKind P w) a vs := dk_rd ok (.inl e)
theorem key_of {ks : List Key} (ok : HOk P w H h) (e : H a = some (.tup (ks.map kV))) : (tupleKind (mixKind P w)).is h ks a := by
  obtain ⟨_, its, r, ⟨o, h1, h2, n, h3⟩, _⟩ := (show ObjOk P w H h a (.tup (ks.map kV)) from ok a _ e)
  exact ⟨o, its.toArray, n, h1, h2, h3, by simpa using items_are r⟩
theorem dt_rd {kvs : List (List Key × V)} (ok : HOk P w H h) (e : Rd H a (.dT kvs)) : kvs.length ≤ sizeLine ∧ (a == sysModules) = false ∧
    ∃ xs, KT H kvs xs ∧ h.DictOfH (tupleKind (mixKind P w)) a xs := by
  obtain ⟨z, y, xs, r, o, es, ep, h1, h2, h3, h4, h5⟩ := (show ObjOk P w H h a (.dT kvs) from rd_of ok e)
  refine ⟨z, y, xs, r, o, es, ep, h1, h2, h3, h4, fun x hx => ?_, h5⟩
  have all : ∀ {l : List (List Key × V)} {m : List (List Key × Addr × Value)}, KT H l m → ∀ x ∈ m, (tupleKind (mixKind P w)).is h x.1 x.2.1 := by
    intro l m q
    induction q with
    | nil => intro x hx; exact nomatch hx
    | @cons p q ps qs hq t ih =>
      intro x hx
      rcases List.mem_cons.mp hx with e | hx
      · subst e
        exact key_of ok (by rw [← hq.1]; exact hq.2.1)
      · exact ih x hx
  exact all r x hx
theorem dt_of {kvs : List (List Key × V)} (ok : HOk P w H h) (e : H a = some (.dT kvs)) : kvs.length ≤ sizeLine ∧ (a == sysModules) = false ∧
    ∃ xs, KT H kvs xs ∧ h.DictOfH (tupleKind (mixKind P w)) a xs := dt_rd ok (.inl e)
end

def DGet (H : Hp) (a : Addr) (y : V) (r : Option V) : Prop :=
  (∃ kvs k, Rd H a (.dK kvs) ∧ y = kV k ∧ r = valV kvs k) ∨ ∃ kvs k b, Rd H a (.dT kvs) ∧ y = .ref b ∧ H b = some (.tup (k.map kV)) ∧ r = valV kvs k
def DPut (H : Hp) (a : Addr) (y v : V) (H' : Hp) : Prop :=
  (∃ kvs k, H a = some (.dK kvs) ∧ y = kV k ∧ kvs.length < sizeLine ∧ H' = upd H a (.dK (putK kvs k v))) ∨
  ∃ kvs k b, H a = some (.dT kvs) ∧ y = .ref b ∧ H b = some (.tup (k.map kV)) ∧ kvs.length < sizeLine ∧ H' = upd H a (.dT (putK kvs k v))
theorem DGet.k {H : Hp} {a : Addr} {kvs : List (Key × V)} {k : Key} (e : H a = some (.dK kvs)) : DGet H a (kV k) (valV kvs k) := .inl ⟨kvs, k, .inl e, rfl, rfl⟩
theorem DGet.t {H : Hp} {a b : Addr} {kvs : List (List Key × V)} {k : List Key} (e : H a = some (.dT kvs)) (eb : H b = some (.tup (k.map kV))) : DGet H a (.ref b) (valV kvs k) := .inr ⟨kvs, k, b, .inl e, rfl, eb, rfl⟩
theorem DPut.k {H : Hp} {a : Addr} {kvs : List (Key × V)} {k : Key} {v : V} (e : H a = some (.dK kvs)) (hl : kvs.length < sizeLine) : DPut H a (kV k) v (upd H a (.dK (putK kvs k v))) := .inl ⟨kvs, k, e, rfl, hl, rfl⟩
theorem DPut.t {H : Hp} {a b : Addr} {kvs : List (List Key × V)} {k : List Key} {v : V} (e : H a = some (.dT kvs)) (eb : H b = some (.tup (k.map kV))) (hl : kvs.length < sizeLine) :
    DPut H a (.ref b) v (upd H a (.dT (putK kvs k v))) := .inr ⟨kvs, k, b, e, rfl, eb, hl, rfl⟩


section
variable {X : Cx} {pins : List (Addr × Obj)} {σ : St} {H : Hp} {s : Shared} {a : Addr} {y v : V} {u r : Value} {o : Option V} {A : Around} {E : Value → Shared → Prop}

theorem Inv.big (I : Inv X pins σ H s) : sysModules < s.heap.objs.size := by
  have h : mainGlobals < s.heap.objs.size := (I.mod.glob.keeps I.bk).lt
  exact Nat.lt_trans (by decide) h

theorem d_getItem {Q : Value → Shared → Prop} (hu : A.units + 1 < cLine) (I : Inv X pins σ H s) (g : DGet H a y (some v)) (ry : RelV y u) (h : ∀ w' s', Inv X pins σ H s' → RelV v w' → Q w' s') :
    wpAny (model X.prog X.w) A (getItem (.ref a) u) Q E s := by
  rcases g with ⟨kvs, k, e, ey, l⟩ | ⟨kvs, k, b, e, ey, eb, l⟩
  · subst ey
    obtain ⟨z, hd, vs, rel, dd⟩ := dk_rd I.hok e
    obtain ⟨w', hw, rw'⟩ := RelO.some_of (v := v) (o := valueAt vs k) (by rw [l]; exact rel.val k)
    exact wpAny_getItem_of (kV_is ry) dd.mapOf hw (h w' _ (I.tok _) rw')
  · subst ey
    cases (show u = Value.ref b from ry)
    obtain ⟨z, hd, xs, rel, dd⟩ := dt_rd I.hok e
    obtain ⟨w', hw, rw'⟩ := RelO.some_of (v := v) (o := (atKey xs k).map (·.2)) (by rw [l]; exact rel.val k)
    obtain ⟨p, hp, hp2⟩ := Option.map_eq_some_iff.mp hw
    refine wpAny_getItem_heap (tupleKind_room_in1 hu) (key_of I.hok eb) dd hp ?_
    rw [hp2]
    exact h w' _ (I.tok _) rw'
theorem d_in {Q : Value → Shared → Prop} (hu : A.units + 1 < cLine) (I : Inv X pins σ H s) (g : DGet H a y o) (ry : RelV y u) (h : ∀ s', Inv X pins σ H s' → Q (.bool o.isSome) s') :
    wpAny (model X.prog X.w) A (compareOp .In u (.ref a)) Q E s := by
  rcases g with ⟨kvs, k, e, ey, l⟩ | ⟨kvs, k, b, e, ey, eb, l⟩
  · subst ey
    obtain ⟨z, hd, vs, rel, dd⟩ := dk_rd I.hok e
    refine wpAny_in_of (kV_is ry) hd dd.mapOf ?_
    rw [← (rel.val k).isSome_eq, ← l]
    exact h _ (I.tok _)
  · subst ey
    cases (show u = Value.ref b from ry)
    obtain ⟨z, hd, xs, rel, dd⟩ := dt_rd I.hok e
    refine wpAny_in_heap (tupleKind_room_in1 hu) (key_of I.hok eb) hd dd ?_
    have q := (rel.val k).isSome_eq
    rw [Option.isSome_map] at q
    rw [← q, ← l]
    exact h _ (I.tok _)
theorem d_notIn {Q : Value → Shared → Prop} (hu : A.units + 1 < cLine) (I : Inv X pins σ H s) (g : DGet H a y o) (ry : RelV y u) (h : ∀ s', Inv X pins σ H s' → Q (.bool (!o.isSome)) s') :
    wpAny (model X.prog X.w) A (compareOp .NotIn u (.ref a)) Q E s := by
  rcases g with ⟨kvs, k, e, ey, l⟩ | ⟨kvs, k, b, e, ey, eb, l⟩
  · subst ey
    obtain ⟨z, hd, vs, rel, dd⟩ := dk_rd I.hok e
    refine wpAny_notIn_of (kV_is ry) hd dd.mapOf ?_
    rw [← (rel.val k).isSome_eq, ← l]
    exact h _ (I.tok _)
  · subst ey
    cases (show u = Value.ref b from ry)
    obtain ⟨z, hd, xs, rel, dd⟩ := dt_rd I.hok e
    refine wpAny_notIn_heap (tupleKind_room_in1 hu) (key_of I.hok eb) hd dd ?_
    have q := (rel.val k).isSome_eq
    rw [Option.isSome_map] at q
    rw [← q, ← l]
    exact h _ (I.tok _)
theorem d_write {h' : Heap} {t' : Nat} {ob : HO} (I : Inv X pins σ H s) (mu : Mut (H a)) (hs : Heap.SameBut a s.heap h') (he : ∃ q, h'.get? a = some q) (new : ObjOk X.prog X.w (upd H a ob) h' a ob) :
    Inv X pins σ (upd H a ob) { s with heap := h', toks := t' } :=
  I.write (x := a) (e := a) mu (.inl rfl) (fun b q hb z => (hs.2 b hb).trans z) he new
theorem dk_new {P : Program} {w : World} {H' : Hp} {h' : Heap} {kvs : List (Key × V)} {vs : List (Key × Value)} (z : kvs.length ≤ sizeLine) (hd : (a == sysModules) = false) (rel : KV kvs vs) (dd : h'.DictOf (mixKind P w) a vs) :
    ObjOk P w H' h' a (.dK kvs) := ⟨z, hd, vs, rel, dd⟩
theorem d_setItem {H' : Hp} {Q : Unit → Shared → Prop} (hu : A.units + 1 < cLine) (I : Inv X pins σ H s) (g : DPut H a y v H') (ry : RelV y u) (rv : RelV v r) (h : ∀ s', Inv X pins σ H' s' → Q () s') :
    wpAny (model X.prog X.w) A (setItem (.ref a) u r) Q E s := by
  rcases g with ⟨kvs, k, e, ey, l, eH⟩ | ⟨kvs, k, b, e, ey, eb, l, eH⟩
  · subst ey eH
    obtain ⟨z, hd, vs, rel, dd⟩ := dk_of I.hok e
    have hz : vs.length ≤ sizeLine := by rw [← rel.length]; exact z
    have hl : (putK kvs k v).length ≤ sizeLine := by have := length_putK kvs k v; omega
    refine wpAny_setItem_pairs (hsz := hz) (kV_is ry) dd fun h' dd' hs => h _ ?_
    have he : ∃ q, h'.get? a = some q := let ⟨q, _, _, hq, _⟩ := dd'; ⟨q, hq⟩
    exact d_write I (by rw [e]; exact True.intro) hs he (dk_new hl hd (rel.put k rv) dd')
  · subst ey eH
    cases (show u = Value.ref b from ry)
    obtain ⟨z, hd, xs, rel, dd⟩ := dt_of I.hok e
    have hz : xs.length ≤ sizeLine := by rw [← Paired.length rel]; exact z
    have hl : (putK kvs k v).length ≤ sizeLine := by have := length_putK kvs k v; omega
    refine wpAny_setItem_heap (hsz := hz) (tupleKind_room_in1 hu) (key_of I.hok eb) dd fun h' dd' hs => h _ ?_
    obtain ⟨q, es, ep, hq, h2, h3, h4, _, h5⟩ := dd'
    refine d_write I (by rw [e]; exact True.intro) hs ⟨q, hq⟩ ⟨hl, hd, _, (rel.put k eb rv).keeps fun c ys ec => ?_, q, es, ep, hq, h2, h3, h4, h5⟩
    rw [upd_ne (ne_of ec e (fun z => nomatch z))]
    exact ec
end

section
variable {X : Cx} {pins : List (Addr × Obj)} {σ : St} {H : Hp} {s : Shared} {a : Addr} {kvs : List (Key × V)} {k : Key} {u : Value} {A : Around} {E : Value → Shared → Prop}
theorem d_pop {v : V} {more : List Value} {Q : Value → Shared → Prop} (I : Inv X pins σ H s) (e : H a = some (.dK kvs)) (ry : RelV (kV k) u) (l : valV kvs k = some v) (hm : more = [] ∨ ∃ x, more = [x])
    (h : ∀ w' s', Inv X pins σ (upd H a (.dK (dropK kvs k))) s' → RelV v w' → Q w' s') : wpAny (model X.prog X.w) A (call (.builtin "dict.pop") (.ref a :: u :: more)) Q E s := by
  obtain ⟨z, hd, vs, rel, dd⟩ := dk_of I.hok e
  obtain ⟨w', hw, rw'⟩ := RelO.some_of (v := v) (o := valueAt vs k) (by rw [← l]; exact rel.val k)
  have hp : (keyPart u).isSome = true := by
    cases k with
    | inl i => obtain ⟨t, q⟩ := (show ∃ t, u = Value.int i t from ry); subst q; rfl
    | inr x => obtain ⟨t, q⟩ := (show ∃ t, u = Value.str x t from ry); subst q; rfl
  have ha : argsOk "dict.pop" ⟨.ref a :: u :: more, []⟩ := by
    rcases hm with q | ⟨x, q⟩
    · subst q; exact PySem.F.args_dict_pop_2 _ _
    · subst q; exact PySem.F.args_dict_pop_3 _ _ _
  refine call_meetsIn PySem.F.slot_dict_pop dd.typeIs PySem.F.entry_dict_pop ha (meets_dict_pop_there (mixKind X.prog X.w) a (kV_is ry) more hm hp)
    ⟨vs, w', dd, by rw [← rel.length]; exact z, hw, fun h' dd' hs => h w' _ ?_ rw'⟩
  have he : ∃ q, h'.get? a = some q := let ⟨q, _, _, hq, _⟩ := dd'; ⟨q, hq⟩
  exact d_write I (by rw [e]; exact True.intro) hs he (dk_new (Nat.le_trans (dropK_le kvs k) z) hd (rel.drop k) dd')
theorem d_len {Q : Value → Shared → Prop} (I : Inv X pins σ H s) (e : Rd H a (.dK kvs)) (h : ∀ t s', Inv X pins σ H s' → Q (.int kvs.length t) s') : wpAny (model X.prog X.w) A (call (.builtin "len") [.ref a]) Q E s := by
  obtain ⟨z, hd, vs, rel, dd⟩ := dk_rd I.hok e
  refine call_len_dict hd dd (by rw [← rel.length]; rw [sizeLine_eq] at z; omega) ?_
  rw [← rel.length]
  exact h _ _ (I.tok _)
end


def NoSl (i : Expr) : Prop := ∀ ov iv, subscripted i false ov iv = operate [ov, iv] (getItem ov iv)
theorem subD_of {prog : Program} {w : World} {A : Around} {E : Value → Shared → Prop} {s : Shared} {env : Env} {value slice : Expr} {pos : Pos} {T id : String} {Q : Value → Shared → Prop}
    (hl : typeLookup (.type T) "__getitem__" = pure (some (.builtin id))) (hs : NoSl slice)
    (h : wpAny (model prog w) A (eval value env) (fun o s₁ => wpAny (model prog w) A (eval slice env) (fun i s₂ => s₂.TypeIs o T ∧ wpAny (model prog w) A (getItem o i) Q E s₂) E s₁) E s) :
    wpAny (model prog w) A (eval (.Subscript value slice pos) env) Q E s := by
  refine Subscript_ (wpAny_mono h (fun o s₁ h₁ => wpAny_mono h₁ (fun i s₂ h₂ => ?_) fun _ _ x => x) fun _ _ x => x)
  obtain ⟨hT, h₂⟩ := h₂
  unfold subscriptTail
  refine wpAny_bind ?_
  rw [getitemInPython_of_ne hT.not_modules]
  refine wpAny_bind (wpAny_specialOf hT hl ?_)
  have fin : wpAny (model prog w) A (subscripted slice false o i) (fun r s₃ => wpAny (model prog w) A (letTemporaryGo value o r >>= fun _ => pure r) Q E s₃) E s₂ := by
    rw [hs o i]
    exact wpAny_operating (wpAny_mono h₂ (fun r s₃ h₃ => wpAny_bind (wpAny_letTemporaryGo (wpAny_pure h₃))) fun _ _ x => x)
  first
    | exact wpAny_pure (wpAny_bind fin)
    | exact wpAny_bind (wpAny_pure (wpAny_bind fin))
    | exact wpAny_bind fin

theorem dict_typeIs {X : Cx} {pins : List (Addr × Obj)} {σ : St} {H : Hp} {s : Shared} {a : Addr} {y : V} {o : Option V} (I : Inv X pins σ H s) (g : DGet H a y o) : s.TypeIs (.ref a) "dict" := by
  rcases g with ⟨kvs, k, e, _, _⟩ | ⟨kvs, k, b, e, _, _, _⟩
  · obtain ⟨_, _, vs, _, dd⟩ := dk_rd I.hok e
    exact dd.typeIs
  · obtain ⟨_, _, xs, _, dd⟩ := dt_rd I.hok e
    exact dd.typeIs
def tDGet (td ty : TE) : TE := fun σ H Q => td σ H fun x H1 => ty σ H1 fun y H2 => ∃ a v, x = .ref a ∧ DGet H2 a y (some v) ∧ Q v H2
def sDPut (td ty tv : TE) : TS := fun D σ H => tv σ H fun v H1 => td σ H1 fun x H2 => ty σ H2 fun y H3 => ∃ a H4, x = .ref a ∧ DPut H3 a y v H4 ∧ D.nx σ H4
section
variable {X : Cx} {o i e value : Expr} {pos pos' tpos : Pos} {td ty tv : TE}
theorem pe_dget (hu : X.A.units + 1 < cLine) (ho : PE X o td) (hi : PE X i ty) (hs : NoSl i) : PE X (.Subscript o i pos) (tDGet td ty) := by
  intro pins s σ H Q I h
  refine subD_of PySem.F.slot_dict_getitem.lookup hs (thn (ho pins s σ H _ I h) fun u s1 ⟨x, H1, I1, rx, q1⟩ => thn (hi pins s1 σ H1 _ I1 q1) fun iv s2 ⟨y, H2, I2, ry, a, v, ex, g, q2⟩ => ?_)
  subst ex
  obtain rfl : u = Value.ref a := rx
  exact ⟨dict_typeIs I2 g, d_getItem hu I2 g ry fun w' s3 I3 rw' => ⟨v, H2, I3, rw', q2⟩⟩
theorem ps_dput (hu : X.A.units + 1 < cLine) (ho : PE X o td) (hi : PE X i ty) (hv : PE X value tv) (hs : swapsWith value (some (.Subscript o i pos')) pos.line X.env = pure false) :
    PS X (.Assign [.Subscript o i pos'] value pos) (sDPut td ty tv) := by
  intro pins s σ H D I h
  refine wpAny_Assign_Subscript (thn (hv pins s σ H _ I h) fun r s1 ⟨v, H1, I1, rv, q1⟩ => thn (ho pins s1 σ H1 _ I1 q1) fun u s2 ⟨x, H2, I2, rx, q2⟩ => thn (hi pins s2 σ H2 _ I2 q2) fun iv s3 ⟨y, H3, I3, ry, a, H4, ex, g, q3⟩ => ?_) hs
  subst ex
  obtain rfl : u = Value.ref a := rx
  exact d_setItem hu I3 g ry rv fun s4 I4 => ⟨σ, H4, I4, q3⟩
end


theorem dk_empty {P : Program} {w : World} {H : Hp} (h : Heap) (hb : sysModules < h.objs.size) : ObjOk P w H (h.push { cls := .type "dict", data := .dict #[] }) h.objs.size (.dK []) :=
  ⟨Nat.zero_le _, beq_eq_false_iff_ne.mpr (Ne.symm (Nat.ne_of_lt hb)), [], .nil, Heap.DictOf.new h⟩
def tDNewK : TE := fun _ H Q => ∀ p, H p = none → Q (.ref p) (upd H p (.dK []))
section
variable {X : Cx} {pos : Pos}
theorem pe_dnewK : PE X (.Dict [] [] pos) tDNewK := fun pins s σ H Q I h =>
  wpAny_Dict_empty ⟨.ref s.heap.objs.size, _, I.laid (a := s.heap.objs.size) (o := .dK []) (t' := s.toks) (fun _ _ q => Heap.get?_push_of_some _ q) (Nat.le_refl _) (dk_empty s.heap I.big), rfl, h _ (I.hok.fresh (Nat.le_refl _))⟩
end

structure M1 (X : Cx) (o : Expr) (m : Str) (apos : Pos) (e : Expr) (cpos : Pos) : Prop where
  base : attributeBase o m X.env (eval o X.env) = eval o X.env
  few : ((backTo cpos (starEach [e] X.env)).all (fun x => !x.1) && (backToKw cpos (keywordEach [] X.env)).all (fun x => x.1.isSome)
    && decide (([e] : List Expr).length + ([] : List Keyword).length + (if ([] : List Keyword).isEmpty then 0 else 1) < 30)) = true
  line : (apos.endLine == cpos.line) = true
  trees : backTo cpos (starEach [e] X.env) = [(false, eval e X.env)]
structure M2 (X : Cx) (o : Expr) (m : Str) (apos : Pos) (e f : Expr) (cpos : Pos) : Prop where
  base : attributeBase o m X.env (eval o X.env) = eval o X.env
  few : ((backTo cpos (starEach [e, f] X.env)).all (fun x => !x.1) && (backToKw cpos (keywordEach [] X.env)).all (fun x => x.1.isSome)
    && decide (([e, f] : List Expr).length + ([] : List Keyword).length + (if ([] : List Keyword).isEmpty then 0 else 1) < 30)) = true
  line : (apos.endLine == cpos.line) = true
  trees : backTo cpos (starEach [e, f] X.env) = [(false, eval e X.env), (false, eval f X.env)]

def IsD (H : Hp) (a : Addr) : Prop := (∃ kvs, Rd H a (.dK kvs)) ∨ ∃ kvs, Rd H a (.dT kvs)
theorem isD_at {X : Cx} {pins : List (Addr × Obj)} {σ : St} {H : Hp} {s : Shared} {a : Addr} (I : Inv X pins σ H s) (d : IsD H a) :
    s.TypeIs (.ref a) "dict" ∧ (∀ b, Value.ref a = .ref b → ∃ ob, s.heap.get? b = some ob ∧ ob.dict = none) ∧ (a == sysModules) = false := by
  rcases d with ⟨kvs, e⟩ | ⟨kvs, e⟩
  · obtain ⟨_, hd, vs, _, dd⟩ := dk_rd I.hok e
    refine ⟨dd.typeIs, fun b q => ?_, hd⟩
    cases q
    obtain ⟨ob, _, _, h1, h2, _⟩ := dd
    exact ⟨ob, h1, h2.2.1⟩
  · obtain ⟨_, hd, xs, _, dd⟩ := dt_rd I.hok e
    refine ⟨dd.typeIs, fun b q => ?_, hd⟩
    cases q
    obtain ⟨ob, _, _, h1, h2, _⟩ := dd
    exact ⟨ob, h1, h2.2.1⟩

section
variable {X : Cx} {pins : List (Addr × Obj)} {σ : St} {H : Hp} {s : Shared} {a : Addr} {y d : V} {u r : Value} {o : Option V} {A : Around} {E : Value → Shared → Prop}
end

def tDPop1 (td ty : TE) : TE := fun σ H Q => td σ H fun x H1 => ∃ a, x = .ref a ∧ IsD H1 a ∧ ty σ H1 fun y H2 => ∃ kvs k v, H2 a = some (.dK kvs) ∧ y = kV k ∧ valV kvs k = some v ∧ Q v (upd H2 a (.dK (dropK kvs k)))
section
variable {X : Cx} {o e f : Expr} {apos cpos : Pos} {td ty tx : TE}
theorem pe_dpop1 (ho : PE X o td) (he : PE X e ty) (m : M1 X o "pop" apos e cpos) : PE X (.Call (.Attribute o "pop" apos) [e] [] cpos) (tDPop1 td ty) := by
  intro pins s σ H Q I h
  refine wpAny_Call_method m.base m.few m.line PySem.F.plainAttrs_dict PySem.F.slot_dict_pop PySem.F.type_dict_pop (thn (ho pins s σ H _ I h) fun u s1 ⟨x, H1, I1, rx, a, ex, d, q1⟩ => ?_)
  subst ex
  obtain rfl : u = Value.ref a := rx
  obtain ⟨t1, t2, _⟩ := isD_at I1 d
  refine ⟨t1, t2, ?_⟩
  rw [m.trees]
  refine Calls.callWith_builtin rfl (Calls.evalArgs_plain (Calls.spliced_cons (thn (he pins s1 σ H1 _ I1 q1) fun iv s2 ⟨y, H2, I2, ry, kvs, k, v, ea, ey, l, q2⟩ => Calls.spliced_nil ?_)))
  subst ey
  exact d_pop I2 ea ry l (.inl rfl) fun w' s3 I3 rw' => ⟨v, _, I3, rw', q2⟩
end

section
variable {X : Cx} {pins : List (Addr × Obj)} {σ : St} {H : Hp} {s : Shared} {a : Addr} {kvs : List (Key × V)} {A : Around} {E : Value → Shared → Prop}
end


section
variable {X : Cx} {pins : List (Addr × Obj)} {σ : St} {H : Hp} {s : Shared} {a : Addr} {y : V} {u : Value} {A : Around} {E : Value → Shared → Prop}
end
end L2
namespace HT
open PySem PyProof.Rows

section
open PySem.SeqAt
open PySem.AutoSeq1 (wpAny_loadPart')
open PySem.MeetsSeq PySem.MeetsSeq2 PySem.MeetsSeq3

end

section
variable {prog : Program} {w : World} {A : Around} {E : Value → Shared → Prop} {s : Shared}

theorem cat_tup {t b : Addr} {vs ws : List Value} {Q : Value → Shared → Prop} (ht : IsTup s.heap t vs.toArray) (hb : IsTup s.heap b ws.toArray) (hv : vs ≠ [])
    (h1 : ws = [] → Q (.ref t) s) (h2 : ws ≠ [] → Q (.ref s.heap.objs.size) { s with heap := s.heap.push { cls := .type "tuple", data := .seq (vs ++ ws).toArray } })
    (hsz : vs.length + ws.length ≤ sizeLine) : wpAny (model prog w) A (binaryOp .Add (.ref t) (.ref b)) Q E s := by
  obtain ⟨⟨cls, dd, data, sl⟩, ho, hc, n, hd⟩ := id ht
  obtain ⟨⟨cls2, dd2, data2, sl2⟩, ho2, hc2, n2, hd2⟩ := id hb
  simp only at hc hd hc2 hd2
  subst hc hd hc2 hd2
  have e : vs.toArray ++ ws.toArray = (vs ++ ws).toArray := by simp
  by_cases hw : ws = []
  · exact concat_meets ⟨_, ho, rfl⟩ ⟨_, ho2, rfl⟩ noFill_tuple_add seq_tuple_add PySem.F.slot_tuple_add PySem.F.entry_tuple_add (PySem.F.args_tuple_add_2 _ _)
      (tuple_addW1 t b vs.toArray ws.toArray n n2 dd dd2 sl sl2 (by simpa using hv) (by simp [hw])) ⟨ho, ho2, h1 hw⟩
  · refine concat_meets ⟨_, ho, rfl⟩ ⟨_, ho2, rfl⟩ noFill_tuple_add seq_tuple_add PySem.F.slot_tuple_add PySem.F.entry_tuple_add (PySem.F.args_tuple_add_2 _ _)
      (tuple_addW2 t b vs.toArray ws.toArray n n2 dd dd2 sl sl2 (by simpa using hv) (by simpa using hw) (by rw [List.size_toArray, List.size_toArray]; exact hsz)) ⟨ho, ho2, ?_⟩
    rw [e]
    exact h2 hw

def sIx (n d : Nat) : Option Int → Nat
  | none => d
  | some v => if v < 0 then (v + (n : Int)).toNat else min v.toNat n
theorem sIx_nat (n d k : Nat) : sIx n d (some (k : Int)) = min k n := by
  show (if (k : Int) < 0 then ((k : Int) + (n : Int)).toNat else min (k : Int).toNat n) = min k n
  rw [if_neg (by omega), Int.toNat_natCast]
theorem sIx_le (n d : Nat) (hd : d ≤ n) (o : Option Int) : sIx n d o ≤ n := by
  cases o with
  | none => exact hd
  | some v =>
    show (if v < 0 then (v + (n : Int)).toNat else min v.toNat n) ≤ n
    by_cases hv : v < 0
    · rw [if_pos hv]; omega
    · rw [if_neg hv]; exact Nat.min_le_right _ _
theorem clip_eq (v : Int) (n d : Nat) : (if v < 0 then max (v + (n : Int)) 0 else min v (n : Int)) = ((sIx n d (some v) : Nat) : Int) := by
  show (if v < 0 then max (v + (n : Int)) 0 else min v (n : Int)) = (((if v < 0 then (v + (n : Int)).toNat else min v.toNat n) : Nat) : Int)
  by_cases hv : v < 0
  · simp only [if_pos hv]; omega
  · simp only [if_neg hv]; omega
theorem adjust_gen (lo hi : Option Int) (n : Nat) : Builtin.Slice.sliceAdjust lo hi 1 (n : Int) = (((sIx n 0 lo : Nat) : Int), ((sIx n n hi : Nat) : Int)) := by
  have h1 : ¬ ((1 : Int) < 0) := by omega
  unfold Builtin.Slice.sliceAdjust
  simp only [h1, if_false]
  refine Prod.ext ?_ ?_
  · cases lo with
    | none => rfl
    | some v => exact clip_eq v n 0
  · cases hi with
    | none => rfl
    | some v => exact clip_eq v n n
theorem places_gen (i j : Nat) : Builtin.Slice.slicePlaces (i : Int) (j : Int) 1 = j - i := by
  unfold Builtin.Slice.slicePlaces
  have h1 : (1 : Int) > 0 := by omega
  simp only [h1, if_true, Int.ediv_one]
  split <;> omega
theorem slicePart_ {v : Value} {o : Option Int} {Q : Option Int → Shared → Prop} (p : IsPart v o) (h : Q o s) : wpAny (model prog w) A (Builtin.Slice.slicePartIndex v) Q E s := by
  cases p with
  | none => exact slicePart_none h
  | int i t => exact slicePart_int h
theorem sliceApplied_gen {sl : Addr} {vl vu : Value} {lo hi : Option Int} {n : Nat} {Q : Int × Int × Nat → Shared → Prop} (hs : s.heap.IsSliceOf sl vl vu .none) (pl : IsPart vl lo) (pu : IsPart vu hi)
    (h : Q (((sIx n 0 lo : Nat) : Int), 1, sIx n n hi - sIx n 0 lo) s) : wpAny (model prog w) A (Builtin.Slice.sliceApplied (.ref sl) (pure (n : Int))) Q E s := by
  obtain ⟨os, hos, hcs, hds⟩ := id hs
  unfold Builtin.Slice.sliceApplied Builtin.Slice.sliceFields
  refine wpAny_bind (wpAny_bind (wpAny_field hos hds (x := vl) rfl (wpAny_bind (wpAny_field hos hds (x := vu) rfl (wpAny_bind (wpAny_field hos hds (x := .none) rfl (wpAny_pure ?_)))))))
  refine wpAny_bind (slicePart_none ?_)
  show wpAny _ _ (if ((1 : Int) == 0) = true then _ else _) _ _ s
  rw [if_neg (by decide)]
  refine wpAny_bind (slicePart_ pl (wpAny_bind (slicePart_ pu (wpAny_bind (wpAny_pure ?_)))))
  show wpAny _ _ (match Builtin.Slice.sliceAdjust lo hi 1 (n : Int) with | (lo, hi) => pure (lo, (1 : Int), Builtin.Slice.slicePlaces lo hi 1)) _ _ s
  rw [adjust_gen lo hi n]
  show wpAny _ _ (pure (((sIx n 0 lo : Nat) : Int), (1 : Int), Builtin.Slice.slicePlaces ((sIx n 0 lo : Nat) : Int) ((sIx n n hi : Nat) : Int) 1)) _ _ s
  rw [places_gen]
  exact wpAny_pure h
theorem pick_gen (xs : Array Value) (i k : Nat) : ((List.range k).filterMap fun (m : Nat) => xs[((i : Int) + (m : Int) * 1).toNat]?).toArray = ((xs.toList.drop i).take k).toArray := by
  have e : (fun (m : Nat) => xs[((i : Int) + (m : Int) * 1).toNat]?) = fun m => xs[i + m]? := by
    funext m
    have : ((i : Int) + (m : Int) * 1).toNat = i + m := by omega
    rw [this]
  rw [e]
  have := pick_run xs i k
  rw [List.filterMap_map] at this
  have e2 : ((fun x => xs[x]?) ∘ fun x => i + x) = fun m => xs[i + m]? := rfl
  rw [e2] at this
  rw [this]

theorem getItem_tuple_cut {t sl : Addr} {items : Array Value} {vl vu : Value} {lo hi : Option Int} {Q : Value → Shared → Prop} (ht : IsTup s.heap t items) (hs : s.heap.IsSliceOf sl vl vu .none) (pl : IsPart vl lo) (pu : IsPart vu hi)
    (hw : ¬ (sIx items.size 0 lo = 0 ∧ sIx items.size items.size hi = items.size))
    (h : Q (.ref s.heap.objs.size) { s with heap := s.heap.push { cls := .type "tuple", data := .seq ((items.toList.drop (sIx items.size 0 lo)).take (sIx items.size items.size hi - sIx items.size 0 lo)).toArray } })
    (hsz : items.size ≤ sizeLine) : wpAny (model prog w) A (getItem (.ref t) (.ref sl)) Q E s := by
  have htake : sizeOk (.seq ((items.toList.drop (sIx items.size 0 lo)).take (sIx items.size items.size hi - sIx items.size 0 lo)).toArray) := by
    show ((items.toList.drop (sIx items.size 0 lo)).take (sIx items.size items.size hi - sIx items.size 0 lo)).toArray.size ≤ sizeLine
    rw [List.size_toArray, List.length_take, List.length_drop, Array.length_toList]
    omega
  have hj : sIx items.size items.size hi ≤ items.size := sIx_le _ _ (Nat.le_refl _) hi
  obtain ⟨os, hos, hcs, hds⟩ := id hs
  have hTs : s.TypeIs (.ref sl) "slice" := ⟨os, hos, hcs⟩
  unfold getItem
  try with_reducible refine wpAny_holding ?_
  first | refine wpAny_bind (wpAny_pure ?_) | skip
  refine wpAny_bind (wpAny_sequenceKey ht.typeIs (by decide) ?_)
  refine wpAny_bind (wpAny_callSpecial?_slot (name := Str.ofString "__getitem__") ht.typeIs PyProof.Rows.slot_tuple_getitem
    (wpAny_call_entry PyProof.Rows.slot_tuple_getitem ht.typeIs entry_tuple_getitem ?_ (args_tuple_getitem _ _)))
  show wpAny _ _ (Builtin.Tuple.tupleItemsOf (.ref t) >>= _) _ _ s
  refine wpAny_bind (tupleItemsOf_ ht ?_)
  refine wpAny_bind (wpAny_typeOf hTs ?_)
  rw [if_pos (by decide)]
  refine wpAny_bind (sliceApplied_gen hs pl pu ?_)
  have hno : ¬ ((((sIx items.size 0 lo : Nat) : Int) == 0 && (1 : Int) == 1 && (sIx items.size items.size hi - sIx items.size 0 lo) == items.size) = true) := by
    intro q
    rw [Bool.and_eq_true, Bool.and_eq_true] at q
    have q1 : ((sIx items.size 0 lo : Nat) : Int) = 0 := eq_of_beq q.1.1
    have q2 : sIx items.size items.size hi - sIx items.size 0 lo = items.size := eq_of_beq q.2
    exact hw ⟨by omega, by omega⟩
  show wpAny _ _ (if (((sIx items.size 0 lo : Nat) : Int) == 0 && (1 : Int) == 1 && (sIx items.size items.size hi - sIx items.size 0 lo) == items.size) = true then _ else _) _ _ s
  rw [if_neg hno, pick_gen]
  first
    | exact wpAny_bind (m := Builtin.Tuple.tupleExact _) (wpAny_newObj_type (wpAny_pure ⟨_, rfl, wpAny_pure h⟩) htake)
    | exact wpAny_bind (m := Builtin.Tuple.tupleExact _) (wpAny_newObj_type (wpAny_bind (wpAny_pure (wpAny_pure ⟨_, rfl, wpAny_pure h⟩))) htake)
    | exact wpAny_bind (wpAny_bind (m := Builtin.Tuple.tupleExact _) (wpAny_newObj_type (wpAny_pure (wpAny_pure ⟨_, rfl, wpAny_pure h⟩)) htake))
    | exact wpAny_bind (wpAny_bind (m := Builtin.Tuple.tupleExact _) (wpAny_newObj_type (wpAny_pure ⟨_, rfl, wpAny_pure h⟩) htake))
end
end HT

namespace L2
open PySem PySem.Spec PyProof.Rows

abbrev TO := St → Hp → (Option Int → Hp → Prop) → Prop
def PO (X : Cx) (e : Option Expr) (t : TO) : Prop :=
  ∀ (pins : List (Addr × Obj)) (s : Shared) (σ : St) (H : Hp) (Q : Option Int → Hp → Prop), Inv X pins σ H s → t σ H Q →
    wpAny (model X.prog X.w) X.A (evalPart e X.env) (fun u s' => ∃ o H', Inv X pins σ H' s' ∧ IsPart u o ∧ Q o H') X.xe s
def tNoPart : TO := fun _ H Q => Q none H
def tPart (t : TE) : TO := fun σ H Q => t σ H fun x H1 => ∃ i, x = .int i ∧ Q (some i) H1

section
variable {X : Cx} {e : Expr} {te : TE} {lo hi : Option Expr} {tl th : TO} {pos p2 : Pos}

theorem po_none : PO X none tNoPart := by
  intro pins s σ H Q I h
  rw [evalPart_none]
  exact wpAny_pure ⟨none, H, I, .none, h⟩
theorem po_some (h : PE X e te) : PO X (some e) (tPart te) := by
  intro pins s σ H Q I hw
  rw [evalPart_some]
  refine thn (h pins s σ H _ I hw) fun u s1 ⟨x, H1, I1, r1, q1⟩ => ?_
  obtain ⟨i, rfl, q⟩ := q1
  obtain ⟨t, rfl⟩ := r1
  exact ⟨some i, H1, I1, .int i t, q⟩

def SlR (X : Cx) (r : V → Option Int → Option Int → Hp → VK → Prop) : Prop :=
  ∀ (pins : List (Addr × Obj)) (s : Shared) (σ : St) (H : Hp) (x : V) (v vl vu : Value) (lo hi : Option Int) (sl : Addr) (Q : VK), Inv X pins σ H s → RelV x v → s.heap.IsSliceOf sl vl vu .none → IsPart vl lo → IsPart vu hi → r x lo hi H Q →
    ∃ T id, typeLookup (.type T) "__getitem__" = pure (some (.builtin id)) ∧ s.TypeIs v T ∧ wpAny (model X.prog X.w) X.A (getItem v (.ref sl)) (EP X pins σ Q) X.xe s
theorem SlR.or {r r' : V → Option Int → Option Int → Hp → VK → Prop} (h : SlR X r) (h' : SlR X r') : SlR X (fun x lo hi H Q => r x lo hi H Q ∨ r' x lo hi H Q) := by
  intro pins s σ H x v vl vu lo hi sl Q I rx hs pl pu q
  rcases q with q | q
  · exact h pins s σ H x v vl vu lo hi sl Q I rx hs pl pu q
  · exact h' pins s σ H x v vl vu lo hi sl Q I rx hs pl pu q
def tSl (r : V → Option Int → Option Int → Hp → VK → Prop) (te : TE) (tl th : TO) : TE := fun σ H Q => te σ H fun x H1 => tl σ H1 fun l H2 => th σ H2 fun u H3 => r x l u H3 Q
theorem pe_slice {r : V → Option Int → Option Int → Hp → VK → Prop} (hr : SlR X r) (he : PE X e te) (hl : PO X lo tl) (hu : PO X hi th) : PE X (.Subscript e (.Slice lo hi none p2) pos) (tSl r te tl th) := by
  intro pins s σ H Q I h
  refine Subscript_ (thn (he pins s σ H _ I h) fun v s1 ⟨x, H1, I1, r1, q1⟩ => ?_)
  refine wpAny_Slice (thn (hl pins s1 σ H1 _ I1 q1) fun vl s2 ⟨l, H2, I2, pl, q2⟩ => thn (hu pins s2 σ H2 _ I2 q2) fun vu s3 ⟨u, H3, I3, pu, q3⟩ => ?_)
  rw [evalPart_none]
  refine wpAny_pure ?_
  have I4 : Inv X pins σ H3 { s3 with heap := s3.heap.push { cls := .type "slice", data := .fields #[vl, vu, .none] } } := I3.kept (t' := s3.toks) fun b ob q => Heap.get?_push_of_some _ q
  obtain ⟨T, id, hT, ht, hg⟩ := hr pins { s3 with heap := s3.heap.push { cls := .type "slice", data := .fields #[vl, vu, .none] } } σ H3 x v vl vu l u s3.heap.objs.size Q I4 r1 (Heap.IsSliceOf.new ..) pl pu q3
  show wpAny (model X.prog X.w) X.A (subscriptTail e (.Slice lo hi none p2) v (.ref s3.heap.objs.size)) (EP X pins σ Q) X.xe { s3 with heap := s3.heap.push { cls := .type "slice", data := .fields #[vl, vu, .none] } }
  exact tail_any (ops := [.ref s3.heap.objs.size, v]) ht hT hg (by with_unfolding_all rfl)

def cutV (xs : List V) (lo hi : Option Int) : List V := (xs.drop (HT.sIx xs.length 0 lo)).take (HT.sIx xs.length xs.length hi - HT.sIx xs.length 0 lo)
theorem cutV_length (xs : List V) (lo hi : Option Int) : (cutV xs lo hi).length ≤ xs.length := by
  unfold cutV
  rw [List.length_take, List.length_drop]
  omega
def rSlT (K : PySem.W.Frag) : V → Option Int → Option Int → Hp → VK → Prop := fun x lo hi H Q => ∃ a xs, x = .ref a ∧ SqT K H a xs ∧
  ¬ (HT.sIx xs.length 0 lo = 0 ∧ HT.sIx xs.length xs.length hi = xs.length) ∧ ∀ p, H p = none → Q (.ref p) (upd H p (.tup (cutV xs lo hi)))
theorem sl_tup : SlR X (rSlT X.K) := by
  intro pins s σ H x v vl vu lo hi sl Q I rx hs pl pu h
  obtain ⟨a, xs, rfl, hx, hw, q⟩ := h
  cases rx
  obtain ⟨its, r, ht, hz⟩ := I.tuple hx
  have hlen : its.toArray.size = xs.length := by rw [List.size_toArray]; exact r.length.symm
  refine ⟨"tuple", _, PyProof.Rows.slot_tuple_getitem.lookup, ht.typeIs, ?_⟩
  refine HT.getItem_tuple_cut ht hs pl pu (by rw [hlen]; exact hw) ?_ (by rw [hlen]; exact hz)
  rw [hlen]
  refine ⟨.ref s.heap.objs.size, _, I.laid (t' := s.toks) (o := .tup (cutV xs lo hi)) (fun b ob q => Heap.get?_push_of_some _ q) (Nat.le_refl _) ?_, rfl, q _ (I.hok.fresh (Nat.le_refl _))⟩
  exact ⟨Nat.le_trans (cutV_length xs lo hi) hz, _, (r.drop (HT.sIx xs.length 0 lo)).take (HT.sIx xs.length xs.length hi - HT.sIx xs.length 0 lo), IsTup.new _ _, tup_nodict⟩

def rCatT (K : PySem.W.Frag) : R2 := fun x y H Q => ∃ a b xs ys, x = .ref a ∧ y = .ref b ∧ SqT K H a xs ∧ SqT K H b ys ∧ xs ≠ [] ∧ xs.length + ys.length ≤ sizeLine ∧
  (ys = [] → Q (.ref a) H) ∧ (ys ≠ [] → ∀ p, H p = none → Q (.ref p) (upd H p (.tup (xs ++ ys))))
theorem Vals.nil_iff {xs : List V} {us : List Value} (r : Vals xs us) : us = [] ↔ xs = [] := by
  cases r with
  | nil => simp
  | cons _ _ => simp
theorem op_catT : OpR X (binaryOp .Add) (rCatT X.K) := by
  intro pins s σ H x y v u Q I rx ry h
  obtain ⟨a, b, xs, ys, rfl, rfl, ha, hb, hx, hz, q1, q2⟩ := h
  cases rx
  cases ry
  obtain ⟨its, r1, p1, _⟩ := I.tuple ha
  obtain ⟨its2, r2, p2, _⟩ := I.tuple hb
  refine HT.cat_tup p1 p2 (fun z => hx (r1.nil_iff.mp z)) (fun z => ⟨.ref a, H, I, rfl, q1 (r2.nil_iff.mp z)⟩) (fun z => ?_) (by rw [← r1.length, ← r2.length]; exact hz)
  refine ⟨.ref s.heap.objs.size, _, I.laid (t' := s.toks) (o := .tup (xs ++ ys)) (fun b ob q => Heap.get?_push_of_some _ q) (Nat.le_refl _) ?_, rfl, q2 (fun w => z (r2.nil_iff.mpr w)) _ (I.hok.fresh (Nat.le_refl _))⟩
  exact ⟨by rw [List.length_append]; exact hz, _, r1.append r2, IsTup.new _ _, tup_nodict⟩
end
end L2

namespace L2
open PySem PySem.Spec PyProof.Rows

def ixN (n : Nat) (i : Int) : Option Nat := if 0 ≤ i then (if i < n then some i.toNat else none) else if -(n : Int) ≤ i then some (i + n).toNat else none
def atI {α : Type} (xs : List α) (i : Int) : Option α := (ixN xs.length i).bind fun j => xs[j]?
theorem ixN_seq {n : Nat} {i : Int} {j : Nat} (h : ixN n i = some j) : seqIndex? i n = some j ∧ j < n ∧ -(n : Int) ≤ i ∧ i < n := by
  unfold ixN at h
  by_cases h0 : 0 ≤ i
  · rw [if_pos h0] at h
    by_cases h1 : i < n
    · rw [if_pos h1] at h
      have e : i.toNat = j := Option.some.inj h
      exact ⟨by rw [seqIndex_of h0 h1, e], by omega, by omega, h1⟩
    · rw [if_neg h1] at h; cases h
  · rw [if_neg h0] at h
    by_cases h1 : -(n : Int) ≤ i
    · rw [if_pos h1] at h
      have e : (i + n).toNat = j := Option.some.inj h
      exact ⟨by rw [seqIndex_neg (by omega) h1, e], by omega, h1, by omega⟩
    · rw [if_neg h1] at h; cases h
theorem atI_get {α : Type} {xs : List α} {i : Int} {v : α} (h : atI xs i = some v) : ∃ j, seqIndex? i xs.length = some j ∧ xs[j]? = some v ∧ j < xs.length ∧ -(xs.length : Int) ≤ i ∧ i < xs.length := by
  unfold atI at h
  cases e : ixN xs.length i with
  | none => rw [e] at h; cases h
  | some j =>
    rw [e] at h
    obtain ⟨h1, h2, h3, h4⟩ := ixN_seq e
    exact ⟨j, h1, h, h2, h3, h4⟩
theorem atI_nat {α : Type} {xs : List α} {j : Nat} {v : α} (h : xs[j]? = some v) : atI xs (j : Int) = some v := by
  have hj : j < xs.length := (List.getElem?_eq_some_iff.mp h).1
  have e : ixN xs.length (j : Int) = some j := by
    unfold ixN
    rw [if_pos (by omega), if_pos (by omega)]; simp
  unfold atI; rw [e]; exact h
def PlainIx (b : Expr) : Prop := ∀ o i, subscripted b false o i = operate [o, i] (getItem o i)
def IxR (X : Cx) (r : R2) : Prop :=
  ∀ (value slice : Expr) (pins : List (Addr × Obj)) (s : Shared) (σ : St) (H : Hp) (x y : V) (v u : Value) (Q : VK), Inv X pins σ H s → RelV x v → RelV y u → r x y H Q →
    subscripted slice false v u = operate [v, u] (getItem v u) → wpAny (model X.prog X.w) X.A (subscriptTail value slice v u) (EP X pins σ Q) X.xe s
def MtR (X : Cx) (id : String) (r : V → List V → Hp → VK → Prop) : Prop :=
  ∀ (pins : List (Addr × Obj)) (s : Shared) (σ : St) (H : Hp) (x : V) (xs : List V) (v : Value) (us : List Value) (Q : VK), Inv X pins σ H s → RelV x v → Vals xs us → r x xs H Q →
    wpAny (model X.prog X.w) X.A (call (.builtin id) (v :: us)) (EP X pins σ Q) X.xe s
section
variable {X : Cx} {a b : Expr} {ta tb : TE} {pos : Pos}
theorem IxR.or {r r' : R2} (h : IxR X r) (h' : IxR X r') : IxR X (fun x y H Q => r x y H Q ∨ r' x y H Q) := by
  intro value slice pins s σ H x y v u Q I rx ry q hs
  rcases q with q | q
  · exact h value slice pins s σ H x y v u Q I rx ry q hs
  · exact h' value slice pins s σ H x y v u Q I rx ry q hs
theorem MtR.or {id : String} {r r' : V → List V → Hp → VK → Prop} (h : MtR X id r) (h' : MtR X id r') : MtR X id (fun x xs H Q => r x xs H Q ∨ r' x xs H Q) := by
  intro pins s σ H x xs v us Q I rx rs q
  rcases q with q | q
  · exact h pins s σ H x xs v us Q I rx rs q
  · exact h' pins s σ H x xs v us Q I rx rs q
theorem pe_ix {r : R2} (hr : IxR X r) (ha : PE X a ta) (hb : PE X b tb) (hs : PlainIx b) : PE X (.Subscript a b pos) (tOp r ta tb) := by
  intro pins s σ H Q I h
  exact Subscript_ (binT ha hb I h fun v u s2 x y H2 I2 rx ry q => hr a b pins s2 σ H2 x y v u Q I2 rx ry q (hs _ _))

def rIxL (K : PySem.W.Frag) : R2 := fun x y H Q => ∃ p xs i v, x = .ref p ∧ y = .int i ∧ SqL K H p xs ∧ atI xs i = some v ∧ Q v H
def rIxT (K : PySem.W.Frag) : R2 := fun x y H Q => ∃ p xs i v, x = .ref p ∧ y = .int i ∧ SqT K H p xs ∧ atI xs i = some v ∧ Q v H
def rIxS : R2 := fun x y H Q => ∃ z i c, x = .str z ∧ y = .int i ∧ z.length ≤ sizeLine ∧ atI z.cps.toList i = some c ∧ Q (.str ⟨#[c]⟩) H
theorem ix_list : IxR X (rIxL X.K) := by
  intro value slice pins s σ H x y v u Q I rx ry h hs
  obtain ⟨p, xs, i, z, rfl, rfl, hq, he, q⟩ := h
  cases rx
  obtain ⟨t, rfl⟩ := ry
  obtain ⟨its, r, pl, hz⟩ := I.list hq
  obtain ⟨j, h1, h2, h3, h4, h5⟩ := atI_get he
  obtain ⟨w, ew, rw'⟩ := r.get h2
  have hl := r.length
  have hn := line63
  have fin : EP X pins σ Q w s := ⟨z, H, I, rw', q⟩
  by_cases h0 : 0 ≤ i
  · have hj : i.toNat = j := by
      rw [seqIndex_of h0 h5] at h1
      exact Option.some.inj h1
    exact item_listR pl.isList h0 (by omega) (by rw [hj]; simpa using ew) fin hs
  · have hj : (i + (its.toArray.size : Int)).toNat = j := by
      rw [seqIndex_neg (by omega) h4] at h1
      rw [List.size_toArray, ← hl]
      exact Option.some.inj h1
    exact subscriptTail_builtinR (x := w) pl.isList.typeIs slot_list_getitem.lookup
      (wpAny_getItem_list_neg (Q := fun r s' => r = w ∧ EP X pins σ Q r s') pl.isList (by omega) (by rw [List.size_toArray] <;> omega) (by omega) (by rw [hj]; simpa using ew) ⟨rfl, fin⟩) hs
theorem ix_tup : IxR X (rIxT X.K) := by
  intro value slice pins s σ H x y v u Q I rx ry h hs
  obtain ⟨p, xs, i, z, rfl, rfl, hq, he, q⟩ := h
  cases rx
  obtain ⟨t, rfl⟩ := ry
  obtain ⟨its, r, pl, hz⟩ := I.tuple hq
  obtain ⟨j, h1, h2, h3, h4, h5⟩ := atI_get he
  obtain ⟨w, ew, rw'⟩ := r.get h2
  have hl := r.length
  have hn := line63
  have fin : EP X pins σ Q w s := ⟨z, H, I, rw', q⟩
  exact subscriptTail_builtinR (x := w) pl.typeIs slot_tuple_getitem.lookup
    (getItem_tuple (j := j) (Q := fun r s' => r = w ∧ EP X pins σ Q r s') pl (by omega) (by omega) (by rw [List.size_toArray, ← hl]; exact h1) (by simpa using ew) ⟨rfl, fin⟩) hs
theorem ix_str : IxR X rIxS := by
  intro value slice pins s σ H x y v u Q I rx ry h hs
  obtain ⟨z, i, c, rfl, rfl, hz, he, q⟩ := h
  obtain ⟨t, rfl⟩ := rx
  obtain ⟨t', rfl⟩ := ry
  obtain ⟨j, h1, h2, h3, h4, h5⟩ := atI_get he
  have hl : z.cps.toList.length = z.length := by simp [Str.length]
  rw [hl] at h1 h4 h5
  have hn := line63
  exact tail_any (typeIs_str s z t) slot_str_getitem.lookup (getItem_str (c := c) (by
    have e1 : decide (i < -(2 ^ 63 : Int)) = false := decide_eq_false (by omega)
    have e2 : decide (i ≥ 2 ^ 63) = false := decide_eq_false (by omega)
    rw [e1, e2, Bool.or_false]) (by rw [h1]; simpa using h2) ⟨.str ⟨#[c]⟩, H, I.tok _, ⟨_, rfl⟩, q⟩) hs
def rIx (K : PySem.W.Frag) : R2 := fun x y H Q => rIxL K x y H Q ∨ rIxT K x y H Q ∨ rIxS x y H Q
theorem ix_seq : IxR X (rIx X.K) := ix_list.or (ix_tup.or ix_str)

theorem mapSeq_set (its : List Value) (n j : Nat) (u : Value) : Obj.mapSeq (·.setIfInBounds j u) { cls := .type "list", data := .seq its.toArray n } = { cls := .type "list", data := .seq (its.set j u).toArray n } := by
  simp [Obj.mapSeq]
theorem Inv.lst {pins : List (Addr × Obj)} {σ : St} {H : Hp} {s : Shared} {p : Addr} {xs : List V} (I : Inv X pins σ H s) (h : H p = some (.lst xs)) :
    ∃ (its : List Value) (n : Nat), Vals xs its ∧ s.heap.get? p = some { cls := .type "list", data := .seq its.toArray n } ∧ xs.length ≤ sizeLine := by
  obtain ⟨z, its, n, r, e⟩ := I.hok p _ h
  exact ⟨its, n, r, e, z⟩
theorem Inv.lstUpd {pins : List (Addr × Obj)} {σ : St} {H : Hp} {s : Shared} {p : Addr} {xs ys : List V} {its its' : List Value} {n n' : Nat} {f : Obj → Obj} (I : Inv X pins σ H s) (h : H p = some (.lst xs))
    (ho : s.heap.get? p = some { cls := .type "list", data := .seq its.toArray n }) (hf : f { cls := .type "list", data := .seq its.toArray n } = { cls := .type "list", data := .seq its'.toArray n' }) (r : Vals ys its') (hz : ys.length ≤ sizeLine) (t : Nat) :
    Inv X pins σ (upd H p (.lst ys)) { s with heap := s.heap.update p f, toks := t } := by
  have e : (s.heap.update p f).get? p = some { cls := .type "list", data := .seq its'.toArray n' } := by
    rw [Heap.get?_update_self f ho (by rw [hf] <;> rfl), hf]
  refine I.write (x := p) (e := p) (by rw [h]; trivial) (.inl rfl) (fun b u hb q => (Heap.get?_update_other _ _ (Ne.symm hb)).trans q) ⟨_, e⟩ ?_
  exact ⟨hz, its', n', r, e⟩
def rSetL : V → V → V → Hp → (Hp → Prop) → Prop := fun o i v H Q => ∃ p xs k j, o = .ref p ∧ i = .int k ∧ H p = some (.lst xs) ∧ ixN xs.length k = some j ∧ Q (upd H p (.lst (xs.set j v)))
theorem set_list : PSet X rSetL := by
  intro pins s σ H o i v ov iv u Q I ro ri rv h
  obtain ⟨p, xs, k, j, rfl, rfl, hp, hj, q⟩ := h
  cases ro
  obtain ⟨t, rfl⟩ := ri
  obtain ⟨its, n, r, ho, hz⟩ := I.lst hp
  obtain ⟨h1, h2, h3, h4⟩ := ixN_seq hj
  have hl := r.length
  have hn := line63
  have I' : Inv X pins σ (upd H p (.lst (xs.set j v))) { s with heap := s.heap.update p (Obj.mapSeq (·.setIfInBounds j u)) } :=
    I.lstUpd hp ho (mapSeq_set its n j u) (r.set rv j) (by rw [List.length_set]; exact hz) s.toks
  by_cases h0 : 0 ≤ k
  · have hk : k.toNat = j := by
      rw [seqIndex_of h0 h4] at h1
      exact Option.some.inj h1
    exact PySem.W.ki_setAt ho h0 (by omega) (by rw [List.size_toArray, ← hl]; exact h4) (by rw [hk]; exact ⟨_, I', q⟩)
  · have hk : (k + (its.toArray.size : Int)).toNat = j := by
      rw [seqIndex_neg (by omega) h3] at h1
      rw [List.size_toArray, ← hl]
      exact Option.some.inj h1
    exact PySem.W.ki_setBack ho (by omega) (by rw [List.size_toArray, ← hl]; exact h3) (by omega) (by rw [hk]; exact ⟨_, I', q⟩)

def flatV : V → Bool
  | .non => true
  | .bl _ => true
  | .int _ => true
  | .str _ => true
  | _ => false
def eqV : V → V → Bool
  | .non, .non => true
  | .bl a, .bl b => a == b
  | .bl a, .int b => (if a then 1 else 0) == b
  | .int a, .bl b => a == (if b then 1 else 0)
  | .int a, .int b => a == b
  | .str a, .str b => a == b
  | _, _ => false
theorem eqAt_V {A : Around} {s : Shared} {y x : V} {u v : Value} (ry : RelV y u) (rx : RelV x v) (fy : flatV y = true) (fx : flatV x = true) : SeqAt.EqAt A s u v (eqV y x) := by
  cases y with
  | non =>
    cases ry
    cases x with
    | non => cases rx; exact SeqAt.EqAt.same _
    | bl b => cases rx; exact SeqAt.EqAt.none_bool b
    | int b => obtain ⟨t, rfl⟩ := rx; exact SeqAt.EqAt.none_int b t
    | str b => obtain ⟨t, rfl⟩ := rx; exact SeqAt.EqAt.none_str b t
    | _ => exact absurd (show false = true from fx) Bool.false_ne_true
  | bl a =>
    cases ry
    cases x with
    | non => cases rx; exact SeqAt.EqAt.bool_none a
    | bl b => cases rx; exact SeqAt.EqAt.bool_bool a b
    | int b => obtain ⟨t, rfl⟩ := rx; exact SeqAt.EqAt.bool_int a b t
    | str b => obtain ⟨t, rfl⟩ := rx; exact SeqAt.EqAt.bool_str a b t
    | _ => exact absurd (show false = true from fx) Bool.false_ne_true
  | int a =>
    obtain ⟨t', rfl⟩ := ry
    cases x with
    | non => cases rx; exact SeqAt.EqAt.int_none a t'
    | bl b => cases rx; exact SeqAt.EqAt.int_bool a t' b
    | int b => obtain ⟨t, rfl⟩ := rx; exact SeqAt.EqAt.int_int a t' b t
    | str b => obtain ⟨t, rfl⟩ := rx; exact SeqAt.EqAt.int_str a t' b t
    | _ => exact absurd (show false = true from fx) Bool.false_ne_true
  | str a =>
    obtain ⟨t', rfl⟩ := ry
    cases x with
    | non => cases rx; exact SeqAt.EqAt.str_none a t'
    | bl b => cases rx; exact SeqAt.EqAt.str_bool a t' b
    | int b => obtain ⟨t, rfl⟩ := rx; exact SeqAt.EqAt.str_int a t' b t
    | str b => obtain ⟨t, rfl⟩ := rx; exact SeqAt.EqAt.str_str a t' b t
    | _ => exact absurd (show false = true from fx) Bool.false_ne_true
  | _ => exact absurd (show false = true from fy) Bool.false_ne_true
def eqU (x : V) (u : Value) : Bool := match u with
  | .none => eqV .non x
  | .bool b => eqV (.bl b) x
  | .int i _ => eqV (.int i) x
  | .str z _ => eqV (.str z) x
  | _ => false
theorem eqU_of {x y : V} {u : Value} (r : RelV y u) (f : flatV y = true) : eqU x u = eqV y x := by
  cases y with
  | non => cases r; rfl
  | bl b => cases r; rfl
  | int i => obtain ⟨t, rfl⟩ := r; rfl
  | str z => obtain ⟨t, rfl⟩ := r; rfl
  | _ => exact absurd (show false = true from f) Bool.false_ne_true
theorem any_eqU {x : V} : ∀ {xs : List V} {us : List Value}, Vals xs us → xs.all flatV = true → us.any (eqU x) = xs.any fun y => eqV y x
  | _, _, .nil, _ => rfl
  | y :: xs, u :: us, .cons r t, f => by
    rw [List.all_cons, Bool.and_eq_true] at f
    rw [List.any_cons, List.any_cons, eqU_of r f.1, any_eqU t f.2]
theorem mem_eqAt {A : Around} {s : Shared} {x : V} {v : Value} (rx : RelV x v) (fx : flatV x = true) : ∀ {xs : List V} {us : List Value}, Vals xs us → xs.all flatV = true → ∀ u ∈ us, SeqAt.EqAt A s u v (eqU x u)
  | _, _, .nil, _ => fun u hu => by cases hu
  | y :: xs, u :: us, .cons r t, f => fun u' hu => by
    rw [List.all_cons, Bool.and_eq_true] at f
    rcases List.mem_cons.mp hu with rfl | hu
    · rw [eqU_of r f.1]; exact eqAt_V r rx f.1 fx
    · exact mem_eqAt rx fx t f.2 u' hu
def inV (x : V) (xs : List V) : Bool := xs.any fun y => eqV y x
def rIn (K : PySem.W.Frag) (neg : Bool) : R2 := fun x y H Q => ∃ p xs, y = .ref p ∧ (SqL K H p xs ∨ SqT K H p xs) ∧ flatV x = true ∧ xs.all flatV = true ∧ Q (.bl (if neg then !inV x xs else inV x xs)) H
theorem op_notIn_seq : OpR X (compareOp .NotIn) (rIn X.K true) := by
  intro pins s σ H x y v u Q I rx ry h
  obtain ⟨p, xs, rfl, hq, fx, fs, q⟩ := h
  cases ry
  rcases hq with hq | hq
  · obtain ⟨its, r, pl, hz⟩ := I.list hq
    refine SeqAt.notIn_listAt (eqU x) pl.isList (fun w hw => mem_eqAt rx fx r fs w (by simpa using hw)) ⟨.bl _, H, I, rfl, ?_⟩
    rw [show its.toArray.any (eqU x) = its.any (eqU x) by simp, any_eqU r fs]
    exact q
  · obtain ⟨its, r, pl, hz⟩ := I.tuple hq
    refine SeqAt.notIn_tupleAt (eqU x) pl (fun w hw => mem_eqAt rx fx r fs w (by simpa using hw)) ⟨.bl _, H, I, rfl, ?_⟩
    rw [show its.toArray.any (eqU x) = its.any (eqU x) by simp, any_eqU r fs]
    exact q
theorem call_len_seq : CallR X (.builtin "len") (fun xs H Q => ∃ p ys, xs = [.ref p] ∧ (SqL X.K H p ys ∨ SqT X.K H p ys) ∧ Q (.int ys.length) H) := by
  intro pins s σ H xs us Q I r h
  obtain ⟨p, ys, rfl, hq, q⟩ := h
  obtain ⟨u, rfl, rx⟩ := vals1 r
  cases rx
  have hn := line63
  rcases hq with hq | hq
  · obtain ⟨its, r', pl, hz⟩ := I.list hq
    have hlen := r'.length
    exact Calls.call_len_list pl.isList (by simp only [List.size_toArray] <;> omega) ⟨.int ys.length, H, I.tok _, ⟨s.toks + 1, by rw [List.size_toArray, hlen]⟩, q⟩
  · obtain ⟨its, r', pl, hz⟩ := I.tuple hq
    have hlen := r'.length
    exact len_tuple pl (by simp only [List.size_toArray] <;> omega) ⟨.int ys.length, H, I.tok _, ⟨s.toks + 1, by rw [List.size_toArray, hlen]⟩, q⟩
theorem CallR.or {f : Value} {r r' : List V → Hp → VK → Prop} (h : CallR X f r) (h' : CallR X f r') : CallR X f (fun xs H Q => r xs H Q ∨ r' xs H Q) := by
  intro pins s σ H xs us Q I rs q
  rcases q with q | q
  · exact h pins s σ H xs us Q I rs q
  · exact h' pins s σ H xs us Q I rs q
theorem call_list_of : CallR X (.type "list") (fun xs H Q => ∃ p ys, xs = [.ref p] ∧ (SqL X.K H p ys ∨ SqT X.K H p ys) ∧ ∀ l, H l = none → Q (.ref l) (upd H l (.lst ys))) := by
  intro pins s σ H xs us Q I r h
  obtain ⟨p, ys, rfl, hq, q⟩ := h
  obtain ⟨u, rfl, rx⟩ := vals1 r
  cases rx
  have fin : ∀ (its : List Value), Vals ys its → ys.length ≤ sizeLine → ∀ (h' : Heap) (c' : Nat), (∀ b o', s.heap.get? b = some o' → h'.get? b = some o') →
      h'.get? s.heap.objs.size = some { cls := .type "list", dict := none, data := .seq its.toArray c', slots := #[] } → EP X pins σ Q (.ref s.heap.objs.size) { s with heap := h' } := fun its r' hz h' c' kp e =>
    ⟨.ref s.heap.objs.size, _, I.laid (t' := s.toks) kp (Nat.le_refl _) (show ObjOk X.prog X.w _ h' _ (.lst ys) from ⟨hz, its, c', r', e⟩), rfl, q _ (I.hok.fresh (Nat.le_refl _))⟩
  rcases hq with hq | hq
  · obtain ⟨its, r', pl, hz⟩ := I.list hq
    have hlen := r'.length
    obtain ⟨o, ho, hc, n, hd⟩ := pl.isList
    exact call_list_seq p (.inl rfl) ho hc hd (fun h' c' kp e => fin its r' hz h' c' kp e) (by simp only [List.size_toArray] <;> omega)
  · obtain ⟨its, r', pl, hz⟩ := I.tuple hq
    have hlen := r'.length
    obtain ⟨o, ho, hc, n, hd⟩ := pl
    exact call_list_seq p (.inr rfl) ho hc hd (fun h' c' kp e => fin its r' hz h' c' kp e) (by simp only [List.size_toArray] <;> omega)
theorem call_tuple_of : CallR X (.type "tuple") (fun xs H Q => ∃ p ys, xs = [.ref p] ∧ ((SqL X.K H p ys ∧ ∀ l, H l = none → Q (.ref l) (upd H l (.tup ys))) ∨ (SqT X.K H p ys ∧ Q (.ref p) H))) := by
  intro pins s σ H xs us Q I r h
  obtain ⟨p, ys, rfl, h⟩ := h
  obtain ⟨u, rfl, rx⟩ := vals1 r
  cases rx
  rcases h with ⟨hq, q⟩ | ⟨hq, q⟩
  · obtain ⟨its, r', pl, hz⟩ := I.list hq
    have hlen := r'.length
    refine call_tuple_list pl.isList (fun h' kp => ?_) (by simp only [List.size_toArray] <;> omega)
    have I1 : Inv X pins σ H { s with heap := h' } := I.kept (t' := s.toks) kp
    have I2 : Inv X pins σ (upd H h'.objs.size (.tup ys)) { s with heap := h'.push { cls := .type "tuple", data := .seq its.toArray } } :=
      I1.laid (t' := s.toks) (fun b o e => Heap.get?_push_of_some _ e) (Nat.le_refl _) (show ObjOk X.prog X.w _ _ _ (.tup ys) from ⟨hz, its, r', IsTup.new _ _, tup_nodict⟩)
    exact ⟨.ref h'.objs.size, _, I2, rfl, q _ (I1.hok.fresh (Nat.le_refl _))⟩
  · obtain ⟨its, r', pl, hz⟩ := I.tuple hq
    exact call_tuple_same pl ⟨.ref p, H, I, rfl, q⟩

def tyV (K : PySem.W.Frag) (T : String) (x : V) (H : Hp) : Prop := match x with
  | .str _ => T = "str"
  | .int _ => T = "int"
  | .ref p => (T = "list" ∧ ∃ xs, SqL K H p xs) ∨ (T = "tuple" ∧ ∃ o, K.lookup p = some o ∧ o.cls = .type "tuple" ∧ o.dict = none) ∨
      (T = "dict" ∧ ((∃ kvs, H p = some (.dK kvs)) ∨ ∃ kvs, H p = some (.dT kvs))) ∨ (T = "set" ∧ ∃ S n, H p = some (.set S n))
  | _ => False
theorem tyV_is {pins : List (Addr × Obj)} {σ : St} {H : Hp} {s : Shared} {T : String} {x : V} {v : Value} (I : Inv X pins σ H s) (r : RelV x v) (ty : tyV X.K T x H) :
    s.TypeIs v T ∧ ∀ a, v = .ref a → ∃ ob, s.heap.get? a = some ob ∧ ob.dict = none := by
  cases x with
  | str z =>
    obtain ⟨t, rfl⟩ := r
    cases (show T = "str" from ty)
    exact ⟨typeIs_str s z t, fun _ e => nomatch e⟩
  | int i =>
    obtain ⟨t, rfl⟩ := r
    cases (show T = "int" from ty)
    exact ⟨typeIs_int s i t, fun _ e => nomatch e⟩
  | ref p =>
    cases r
    rcases ty with ⟨rfl, xs, hq⟩ | ⟨rfl, o, hk, hc, hd⟩ | ⟨rfl, hk⟩ | ⟨rfl, S, n, hk⟩
    · obtain ⟨its, _, pl, _⟩ := I.list hq
      refine ⟨pl.isList.typeIs, fun a e => ?_⟩
      cases e
      obtain ⟨o, n, e, c, hd, _⟩ := pl
      exact ⟨o, e, hd⟩
    · refine ⟨⟨o, I.kIn p o hk, hc⟩, fun a e => ?_⟩
      cases e
      exact ⟨o, I.kIn _ o hk, hd⟩
    · have z : ∃ o, s.heap.get? p = some o ∧ o.ExactDict := by
        rcases hk with ⟨kvs, hk⟩ | ⟨kvs, hk⟩
        · obtain ⟨_, _, _, _, o, _, _, e, ex, _⟩ := I.hok p _ hk
          exact ⟨o, e, ex⟩
        · obtain ⟨_, _, _, _, o, _, _, e, ex, _⟩ := I.hok p _ hk
          exact ⟨o, e, ex⟩
      obtain ⟨o, e, ex⟩ := z
      refine ⟨⟨o, e, ex.1⟩, fun a e2 => ?_⟩
      cases e2
      exact ⟨o, e, ex.2.1⟩
    · obtain ⟨o, _, _, _, e, ex, _⟩ := I.hok p _ hk
      refine ⟨⟨o, e, ex.1⟩, fun a e2 => ?_⟩
      cases e2
      exact ⟨o, e, ex.2.1⟩
  | _ => exact False.elim ty
def tBM0 (K : PySem.W.Frag) (T : String) (r : V → List V → Hp → VK → Prop) (to : TE) : TE := fun σ H Q => to σ H fun x H1 => tyV K T x H1 ∧ r x [] H1 Q
def tBM (K : PySem.W.Frag) (T : String) (r : V → List V → Hp → VK → Prop) (to : TE) (t : TA) : TE := fun σ H Q => to σ H fun x H1 => tyV K T x H1 ∧ t σ H1 fun xs H2 => r x xs H2 Q
variable {o e : Expr} {es : List Expr} {to : TE} {t : TA} {name : Str} {apos cpos : Pos} {T id : String} {r : V → List V → Hp → VK → Prop}
theorem pe_bm0 (pa : PlainAttrs T) (slot : Slot T name id) (hty : typeOf (.builtin id) = pure (.type "method_descriptor")) (hm : MtR X id r) (ho : PE X o to)
    (hbase : attributeBase o name X.env (eval o X.env) = eval o X.env := by rfl) (hline : (apos.endLine == cpos.line) = true := by rfl) : PE X (.Call (.Attribute o name apos) [] [] cpos) (tBM0 X.K T r to) := by
  intro pins s σ H Q I h
  refine wpAny_Call_method0_late hbase hline (thn (ho pins s σ H _ I h) fun v s1 ⟨x, H1, I1, r1, ty, q1⟩ => ?_)
  obtain ⟨h1, h2⟩ := tyV_is I1 r1 ty
  exact ⟨T, id, pa, slot, hty, h1, h2, Calls.callWith_builtin rfl (PySem.evalArgs_none (hm pins s1 σ H1 x [] v [] Q I1 r1 .nil q1))⟩
theorem pe_bm (pa : PlainAttrs T) (slot : Slot T name id) (hty : typeOf (.builtin id) = pure (.type "method_descriptor")) (hm : MtR X id r) (ho : PE X o to) (ha : PA X (e :: es) t)
    (hbase : attributeBase o name X.env (eval o X.env) = eval o X.env := by rfl)
    (hfew : ((backTo cpos (starEach (e :: es) X.env)).all (fun x => !x.1) && (backToKw cpos (keywordEach [] X.env)).all (fun x => x.1.isSome)
      && decide ((e :: es).length + ([] : List Keyword).length + (if ([] : List Keyword).isEmpty then 0 else 1) < 30)) = true := by rfl)
    (hline : (apos.endLine == cpos.line) = true := by rfl) (hs : starEach (e :: es) X.env = (false, eval e X.env) :: starEach es X.env := by rfl) (hplain : (backTo cpos (starEach es X.env)).any (·.1) = false := by rfl) :
    PE X (.Call (.Attribute o name apos) (e :: es) [] cpos) (tBM X.K T r to t) := by
  intro pins s σ H Q I h
  refine wpAny_Call_method_late hbase hfew hline rfl (thn (ho pins s σ H _ I h) fun v s1 ⟨x, H1, I1, r1, ty, q1⟩ => ?_)
  obtain ⟨h1, h2⟩ := tyV_is I1 r1 ty
  refine ⟨T, id, pa, slot, hty, h1, h2, ?_⟩
  have hA := ha cpos pins s1 σ H1 _ I1 q1
  rw [hs] at hA ⊢
  refine Calls.callWith_builtin (by show (false || (backTo cpos (starEach es X.env)).any (·.1)) = false; rw [hplain] <;> rfl) (Calls.evalArgs_plain ?_)
  exact thn hA fun us s2 ⟨vs, H2, I2, r2, q2⟩ => hm pins s2 σ H2 x vs v us Q I2 r1 r2 q2
end
end L2

namespace L2
open PySem PySem.Spec PyProof.Rows

def MtM (X : Cx) (id : String) (r : V → List V → Hp → VK → Prop) : Prop :=
  ∀ (pins : List (Addr × Obj)) (s : Shared) (σ : St) (H : Hp) (x : V) (xs : List V) (v : Value) (us : List Value) (Q : VK), Inv X pins σ H s → RelV x v → Vals xs us → r x xs H Q →
    wpAny (model X.prog X.w) X.A (call (.builtin id) (v :: us)) (EP X pins σ Q) X.xe s

theorem Vals.one : ∀ {x : V} {us : List Value}, Vals [x] us → ∃ u, us = [u] ∧ RelV x u
  | _, _, .cons r .nil => ⟨_, rfl, r⟩
theorem Vals.zero : ∀ {us : List Value}, Vals [] us → us = []
  | _, .nil => rfl
theorem Vals.eraseIdx : ∀ {xs : List V} {us : List Value} (i : Nat), Vals xs us → Vals (xs.eraseIdx i) (us.eraseIdx i)
  | _, _, _, .nil => .nil
  | _, _, 0, .cons _ t => t
  | _, _, i + 1, .cons r t => .cons r (Vals.eraseIdx i t)
theorem Vals.reverse {xs : List V} {us : List Value} (h : Vals xs us) : Vals xs.reverse us.reverse := by
  induction h with
  | nil => exact .nil
  | cons r t ih => rw [List.reverse_cons, List.reverse_cons]; exact Vals.append ih (.cons r .nil)
section
variable {X : Cx} {pins : List (Addr × Obj)} {σ : St} {H : Hp} {s : Shared} {l b : Addr} {xs ys zs : List V}

theorem Inv.lset {its its' : List Value} {n : Nat} {f : Array Value → Array Value} {t' : Nat} (I : Inv X pins σ H s) (hH : H l = some (.lst xs))
    (e : s.heap.get? l = some { cls := .type "list", data := .seq its.toArray n }) (hf : f its.toArray = its'.toArray) (hv : Vals ys its') (hz : ys.length ≤ sizeLine) :
    Inv X pins σ (upd H l (.lst ys)) { s with heap := s.heap.update l (Obj.mapSeq f), toks := t' } := by
  have q := PySem.IsL.update e f
  rw [hf] at q
  refine I.write (x := l) (e := l) (by rw [hH]; exact trivial) (.inl rfl) (fun b' u hb hu => (Heap.get?_update_other s.heap (Obj.mapSeq f) (Ne.symm hb)).trans hu) ⟨_, q⟩ ?_
  exact ⟨hz, its', _, hv, q⟩
theorem Inv.lnew {its : List Value} {t' : Nat} (I : Inv X pins σ H s) (hv : Vals ys its) (hz : ys.length ≤ sizeLine) :
    Inv X pins σ (upd H s.heap.objs.size (.lst ys)) { s with heap := s.heap.push { cls := .type "list", data := .seq its.toArray }, toks := t' } :=
  I.laid (fun _ _ q => Heap.get?_push_of_some _ q) (Nat.le_refl _) ⟨hz, its, 0, hv, Heap.get?_push_size _ rfl⟩
theorem Inv.fresh (I : Inv X pins σ H s) : H s.heap.objs.size = none := I.hok.fresh (Nat.le_refl _)
theorem Inv.lstM (I : Inv X pins σ H s) (hH : H l = some (.lst xs)) : xs.length ≤ sizeLine ∧ ∃ (its : List Value) (n : Nat), Vals xs its ∧ xs.length = its.length ∧ s.heap.get? l = some { cls := .type "list", data := .seq its.toArray n } := by
  obtain ⟨z, its, n, r, e⟩ := I.hok l _ hH
  exact ⟨z, its, n, r, r.length, e⟩

theorem notLongL {n : Nat} (h : n ≤ sizeLine) : Builtin.List.listTooLong n = false := by
  unfold Builtin.List.listTooLong
  exact decide_eq_false (by omega)
end

section
variable {X : Cx}

def rAppend : V → List V → Hp → VK → Prop := fun x vs H Q => ∃ l xs y, x = .ref l ∧ vs = [y] ∧ H l = some (.lst xs) ∧ xs.length < sizeLine ∧ Q .non (upd H l (.lst (xs ++ [y])))
theorem mt_append : MtM X "list.append" rAppend := by
  intro pins s σ H x vs v us Q I rx rv h
  obtain ⟨l, xs, y, rfl, rfl, hH, hz, q⟩ := h
  cases rx
  obtain ⟨u, rfl, ru⟩ := rv.one
  obtain ⟨z, its, n, r, hl, e⟩ := I.lstM hH
  refine call_meets F.slot_list_append ⟨_, e, rfl⟩ F.entry_list_append (F.args_list_append_2 _ _) (PySem.list_append l its.toArray n u (by rw [List.size_toArray]; omega)) ⟨e, ?_⟩
  refine ⟨.non, _, I.lset (its' := its ++ [u]) hH e (by simp) (r.append (.cons ru .nil)) ?_, rfl, q⟩
  rw [List.length_append, List.length_singleton]
  omega

def rExtend : V → List V → Hp → VK → Prop := fun x vs H Q => ∃ l b xs zs, x = .ref l ∧ vs = [.ref b] ∧ H l = some (.lst xs) ∧ H b = some (.lst zs) ∧ xs.length + zs.length ≤ sizeLine ∧ Q .non (upd H l (.lst (xs ++ zs)))
theorem mt_extend : MtM X "list.extend" rExtend := by
  intro pins s σ H x vs v us Q I rx rv h
  obtain ⟨l, b, xs, zs, rfl, rfl, hH, hB, hz, q⟩ := h
  cases rx
  obtain ⟨u, rfl, ru⟩ := rv.one
  cases ru
  obtain ⟨z, its, n, r, hl, e⟩ := I.lstM hH
  obtain ⟨z2, its2, n2, r2, hl2, e2⟩ := I.lstM hB
  have hsz : its.toArray.size + its2.toArray.size ≤ sizeLine := by rw [List.size_toArray, List.size_toArray]; omega
  have hlong : ¬ (!its.toArray.isEmpty && Builtin.List.listTooLong (its.toArray.size + its2.toArray.size)) = true := by
    rw [notLongL hsz, Bool.and_false]
    exact Bool.false_ne_true
  refine call_meets F.slot_list_extend ⟨_, e, rfl⟩ F.entry_list_extend (F.args_list_extend_2 _ _)
    (AutoSeq1.list_extend_list_list_0 l its.toArray n b its2.toArray n2 hlong (by rw [List.size_toArray]; omega) (by omega)) ⟨e, e2, ?_⟩
  refine ⟨.non, _, I.lset (its' := its ++ its2) hH e (by simp) (r.append r2) ?_, rfl, q⟩
  rw [List.length_append]
  omega

def rClear : V → List V → Hp → VK → Prop := fun x vs H Q => ∃ l xs, x = .ref l ∧ vs = [] ∧ H l = some (.lst xs) ∧ Q .non (upd H l (.lst []))
theorem mt_clear : MtM X "list.clear" rClear := by
  intro pins s σ H x vs v us Q I rx rv h
  obtain ⟨l, xs, rfl, rfl, hH, q⟩ := h
  cases rx
  have hus := rv.zero
  subst hus
  obtain ⟨z, its, n, r, hl, e⟩ := I.lstM hH
  refine call_meets F.slot_list_clear ⟨_, e, rfl⟩ F.entry_list_clear (F.args_list_clear_1 _) (AutoSeq1.list_clear_list_0 l its.toArray n (by rw [List.size_toArray]; omega)) ⟨e, ?_⟩
  exact ⟨.non, _, I.lset (its' := []) (ys := []) hH e rfl .nil (Nat.zero_le _), rfl, q⟩

def rCat : R2 := fun x y H Q => ∃ l b xs zs, x = .ref l ∧ y = .ref b ∧ H l = some (.lst xs) ∧ H b = some (.lst zs) ∧ xs.length + zs.length ≤ sizeLine ∧ ∀ p, H p = none → Q (.ref p) (upd H p (.lst (xs ++ zs)))
theorem op_cat : OpR X (binaryOp .Add) rCat := by
  intro pins s σ H x y v u Q I rx ry h
  obtain ⟨l, b, xs, zs, rfl, rfl, hH, hB, hz, q⟩ := h
  cases rx
  cases ry
  obtain ⟨z, its, n, r, hl, e⟩ := I.lstM hH
  obtain ⟨z2, its2, n2, r2, hl2, e2⟩ := I.lstM hB
  refine PySem.P.add_list e e2 ?_ (by rw [List.size_toArray, List.size_toArray]; omega)
  have ea : its.toArray ++ its2.toArray = (its ++ its2).toArray := by simp
  rw [ea]
  exact ⟨.ref _, _, I.lnew (t' := s.toks) (r.append r2) (by rw [List.length_append]; omega), rfl, q _ I.fresh⟩
end

section
variable {prog : Program} {w : World} {A : Around} {E : Value → Shared → Prop} {s : Shared}
end

section
variable {X : Cx}
end
end L2
namespace Att
open PySem PySem.W PySem.Calls PyProof.Rows

theorem ints_of_wellAll {P : Params} {h : Heap} : ∀ (ns : List Int) (vs : List Value), WellAll P h vs (ns.map WData.int) → IntsAre vs ns := by
  intro ns
  induction ns with
  | nil =>
    intro vs w
    rw [List.map_nil] at w
    cases w
    exact .nil
  | cons n ns ih =>
    intro vs w
    rw [List.map_cons] at w
    cases w with
    | cons a b =>
      cases a
      exact .cons _ _ (ih _ b)

theorem script_of {l : OpenLaw} {n : Nat} (hn : l.most = some n) {P : Params} {h : Heap} {args : List WData} {vals : List Value}
    (hpre : l.row.toRowW.claim.pre args = true) (hwl : WellAll P h vals args) :
    ∃ a vs ns, vals = [Value.ref a] ∧ args = [WData.list (ns.map WData.int)] ∧ h.get? a = some { cls := .type "list", data := .seq vs.toArray } ∧ IntsAre vs ns ∧ ns.length ≤ n := by
  have hsh : WShape.hasAll [] args [.list .int] = true := (pre_splitW hpre).1
  have hc : l.pre.holds [] { args := args } = true := (pre_splitW hpre).2
  obtain ⟨d, r, rfl, h1, h2⟩ := hasAllW_cons hsh
  obtain rfl := hasAllW_nil h2
  obtain ⟨xs, rfl, h3⟩ := hasW_list h1
  obtain ⟨ns, rfl⟩ := items_int h3
  have hlen : ns.length ≤ n := by
    unfold OpenLaw.pre at hc
    have h4 : (WTm.not (.lt (.lit (.int (n : Int))) (.len (.arg 0)))).holds [] { args := [.list (ns.map .int)] } = true := by
      have h4 := (holds_andW hc).1
      rw [hn] at h4
      exact h4
    have h5 := condW_of h4 (w_not (w_lt w_lit (w_len_list (w_arg rfl))))
    rw [List.length_map] at h5
    refine Nat.le_of_not_lt fun q => ?_
    have q' : (n : Int) < ((ns.length : Nat) : Int) := by omega
    first
      | (rw [decide_eq_true q'] at h5; exact absurd h5 (by decide))
      | (simp at h5; omega)
  cases hwl with
  | cons w1 w2 =>
    cases w2
    cases w1 with
    | list ho hall => exact ⟨_, _, ns, rfl, rfl, ho, ints_of_wellAll ns _ hall, hlen⟩

theorem post_true (l : OpenLaw) (args : List WData) : l.row.toRowW.claim.post args (.bool true) args = true :=
  postW_of (r := l.row.toRowW) (X := (true == true))
    (show WShape.has [] (.bool true) .bool = true by first | rfl | decide | simp [WShape.has, WShape.arms, WShape.armsAll])
    (show (WTm.eq .res (.lit (.bool true))).value [] { args := args, res := some (.bool true), after := args } = some (.bool (true == true)) from w_eq_bool (w_res rfl) w_lit) rfl

theorem attach_call {l : OpenLaw} {n : Nat} {q : Program} {loose : List Str} {XP : (Str → Option Value) → Heap → Prop} {YP : World → Heap → Prop} {d : DefRec}
    (hn : l.most = some n) (hdf : d.params.defaults = [])
    (call : ∀ (w : World) (s₀ s₁ : Shared) (mg mb : Str → Option Value) (fa : Addr) (o : Obj) (pm cd doc : Value) (a : Addr) (vs : List Value) (ns : List Int),
      Ground q loose [] XP w s₀ mg mb s₁.heap → YP w s₁.heap →
      s₁.heap.get? fa = some o → o.data = .func (docDef d.name d.params d.body d.scope pm cd doc) → s₁.heap.CodeRec cd d.name → mg d.name = some (.ref fa) →
      s₁.heap.get? a = some { cls := .type "list", data := .seq vs.toArray } → IntsAre vs ns → ns.length ≤ n → s₁.gens = #[] →
      codeAny (model l.prog w) callerA (.call (.ref fa) ⟨[.ref a], []⟩) (fun r s' => r = .ok (.ret (.bool true)) ∧ OldK s₁.heap s'.heap ∧ s'.os = s₁.os ∧ AllBare s'.gens) s₁) :
    WalkO q loose XP YP l.row.toRowW d [] (fun f vs => PySem.call f vs) := by
  intro w s₀ s₁ mg mb G Y fa o pm cd doc dV kV ho hd hcd hD hmg hg args vals as hpre hlay hrd hwl hlo
  obtain rfl : dV = .none := Dflts.none hD hdf
  obtain rfl : kV = .none := Dflts.noKw hD
  obtain ⟨a, vs, ns, rfl, rfl, hobj, hints, hlen⟩ := script_of hn hpre hwl
  refine enter_call (codeAny_mono (call w s₀ s₁ mg mb fa o pm cd doc a vs ns G Y ho (fd_plain hd) hcd hmg hobj hints hlen hg) fun r s' hq => ?_)
  obtain ⟨rfl, h2, h3, h4⟩ := hq
  exact ⟨.inl ⟨.bool true, .bool true, [], rfl, fun _ => rfl, .bool true, post_true l _, fun _ => ⟨List.Pairwise.nil, fun _ hm => (nomatch hm)⟩⟩, h2, h3, h4⟩

section
variable {prog : Program} {w : World} {A : Around} {E : Value → Shared → Prop} {s : Shared} {K : Frag}

end
end Att

namespace L2
open PySem PySem.Spec PyProof.Rows

theorem vals_ints : ∀ {vs : List Value} {ns : List Int}, IntsAre vs ns → Vals (ns.map V.int) vs
  | _, _, .nil => .nil
  | _, _, .cons n t h => .cons ⟨t, rfl⟩ (vals_ints h)

def Only (H : Hp) : Prop := ∀ b, H b = none ∨ ∃ o xs, H b = some (.frz o (.lst xs))

theorem law_call {P : Program} {w : World} {K : PySem.W.Frag} {mg mb : Str → Option Value} {CX : CXT} {k : Nat} {fa a : Addr} {fd : FuncData} {x : Str} {sp : Sp} {s₁ : Shared} {vs : List Value} {ns : List Int}
    (KX : K.In s₁.heap) (hns : s₁.heap.Ns mainGlobals mg) (hb : s₁.heap.Ns builtinsNs mb) (hbb : ∀ x : Str, x ≠ "__name__" → mb x = bootBuiltins x) (hlim : s₁.heap.NoLimit) (hg : s₁.gens = #[])
    (ha : s₁.heap.get? a = some { cls := .type "list", data := .seq vs.toArray }) (hi : IntsAre vs ns) (hl : ns.length ≤ sizeLine) (hr : Room k callerA)
    (F : ∀ base : Heap, K.In base → base.Ns mainGlobals mg → FnOk P w K mg base CX k fa fd [x] sp) (hbind : ∀ (s : Shared) (u : Value), BindsTo s fd ⟨[u], []⟩ [(x, u)])
    (hsp : ∀ H : Hp, Only H → SqL K H a (ns.map V.int) → sp [.ref a] H (fun v _ => v = .bl true) fun _ _ _ => False)
    (hCX : ∀ H e s', CX [] H s₁ (fun _ _ _ => False) e s' → False) :
    codeAny (model P w) callerA (.call (.ref fa) ⟨[.ref a], []⟩) (fun r s' => r = .ok (.ret (.bool true)) ∧ OldK s₁.heap s'.heap ∧ s'.os = s₁.os ∧ AllBare s'.gens) s₁ := by
  have rv := vals_ints hi
  have lenV := hi.length
  -- from an abstract heap in which nothing but the script may be tracked
  have core : ∀ H : Hp, Only H → SqL K H a (ns.map V.int) → HOk P w H s₁.heap → (∀ b, H b ≠ none → b = a) → (H a ≠ none → K.lookup a = none) →
      codeAny (model P w) callerA (.call (.ref fa) ⟨[.ref a], []⟩) (fun r s' => r = .ok (.ret (.bool true)) ∧ OldK s₁.heap s'.heap ∧ s'.os = s₁.os ∧ AllBare s'.gens) s₁ := by
    intro H hO hS hok hA hK
    have base_of : ∀ {b : Addr} {o : Obj}, s₁.heap.get? b = some o → H b = none → (hidT s₁.heap H).get? b = some o := fun e n => hidT_get e n
    have noA : ∀ {b : Addr} {o : Obj} {es : Array DictEntry} {ep : Nat}, s₁.heap.get? b = some o → o.data = .dict es ep → H b = none := fun {b o es ep} e d => by
      cases q : H b with
      | none => rfl
      | some u =>
        have e' : b = a := hA b (by rw [q]; simp)
        subst e'
        rw [ha] at e; cases e
        have d' : Data.seq vs.toArray _ = Data.dict es ep := d
        cases d'
    have nsK : ∀ {b : Addr} {m : Str → Option Value}, s₁.heap.Ns b m → (hidT s₁.heap H).Ns b m := fun {b m} ⟨o, es, ep, e, d, r⟩ => ⟨o, es, ep, base_of e (noA e d), d, r⟩
    have hKb : K.In (hidT s₁.heap H) := fun b o e => base_of (KX b o e) (by
      cases q : H b with
      | none => rfl
      | some u =>
        have e' : b = a := hA b (by rw [q]; simp)
        subst e'
        rw [hK (by rw [q]; simp)] at e; cases e)
    have hM : Mod K mg (hidT s₁.heap H) := ⟨hKb, nsK hns, ⟨mb, nsK hb, hbb⟩, let ⟨mc, h1, h2⟩ := hlim; ⟨mc, nsK h1, h2⟩⟩
    have e0 : Env0 P w K mg (hidT s₁.heap H) callerA [] s₁ H := ⟨rfl, hM, fun b o e => of_hidT e, Nat.le_of_eq (hidT_size _ _), trivial, fun b hb => absurd (show b ∈ ([] : List Addr) from hb) (by simp), hok, .of_eq hg⟩
    refine codeAny_mono ((F _ hKb (nsK hns)).run callerA [] s₁ H ⟨[.ref a], []⟩ [.ref a] [.ref a] _ _ hr e0 (hbind s₁ (.ref a)) (.cons rfl .nil) (hsp H hO hS)) fun r s' h => ?_
    cases r with
    | error e => exact (hCX H e s' h).elim
    | ok fl =>
      cases fl with
      | next => exact False.elim h
      | brk => exact False.elim h
      | cont => exact False.elim h
      | ret u =>
        obtain ⟨v, H', os, bare, un, hok', r', q⟩ := h
        have q' : v = .bl true := q
        subst q'
        obtain rfl : u = Value.bool true := r'
        refine ⟨rfl, OldK.of_keep fun b o e => ?_, os, bare⟩
        cases q : H b with
        | none => exact un.keep b o e q (by intro z; exact absurd (show b ∈ ([] : List Addr) from z) (by simp)) (by simp)
        | some u =>
          rcases hO b with z | ⟨ob, xs, z⟩
          · rw [q] at z; cases z
          · have z2 := un.frzs b ob _ z
            obtain ⟨e1, _⟩ := hok b _ z
            obtain ⟨e2, _⟩ := hok' b _ z2
            rw [e] at e1; cases e1
            exact e2
  cases hk : K.lookup a with
  | some o =>
    -- the script is one of the module's own objects
    have e := KX a o hk
    rw [ha] at e
    cases e
    refine core (fun _ => none) (fun _ => .inl rfl) (.inr ⟨_, vs.toArray, _, hk, rfl, rfl, rfl, by rw [List.size_toArray, lenV]; exact hl, by simpa using rv⟩) (fun b u z => by have z' : (none : Option HO) = some u := z; cases z') (fun b z => absurd rfl z) fun z => absurd rfl z
  | none =>
    refine core (fun b => if b = a then some (.frz { cls := .type "list", data := .seq vs.toArray } (.lst (ns.map V.int))) else none) (fun b => ?_) (.inl (.inr ⟨{ cls := .type "list", data := .seq vs.toArray }, if_pos rfl⟩)) (fun b u z => ?_) (fun b z => ?_) fun _ => hk
    · by_cases hb : b = a
      · exact .inr ⟨_, _, if_pos hb⟩
      · exact .inl (if_neg hb)
    · by_cases hb : b = a
      · have z' := (if_pos hb).symm.trans z
        cases z'
        subst hb
        exact ⟨ha, by rw [List.length_map]; exact hl, vs, _, rv, ha⟩
      · have z' := (if_neg hb).symm.trans z
        cases z'
    · by_cases hb : b = a
      · exact hb
      · exact absurd (if_neg hb) z
end L2

namespace L2
open PySem PySem.Spec PyProof.Rows

abbrev KOf {K : PySem.W.Frag} {h : Heap} (_ : K.In h) : PySem.W.Frag := K

theorem walk_of {l : PySem.W.OpenLaw} {n k : Nat} {q : Program} {loose : List Str} {XP : (Str → Option Value) → Heap → Prop} {YP : World → Heap → Prop} {d : DefRec} {K : Params → PySem.W.Frag} {CX : World → CXT} {sp : World → Sp} {x : Str}
    (hn : l.most = some n) (hn2 : n ≤ sizeLine) (hdf : d.params.defaults = []) (hr : Room k callerA)
    (hY : ∀ (w : World) (h : Heap), YP w h → (K w.params).In h)
    (F : ∀ (w : World) (mg : Str → Option Value) (fa : Addr) (h : Heap), (K w.params).In h → h.Ns mainGlobals mg → mg d.name = some (.ref fa) →
      ∃ fd : FuncData, (∀ (s : Shared) (u : Value), BindsTo s fd ⟨[u], []⟩ [(x, u)]) ∧
        ∀ base : Heap, (K w.params).In base → base.Ns mainGlobals mg → FnOk l.prog w (K w.params) mg base (CX w) k fa fd [x] (sp w))
    (hsp : ∀ (w : World) (H : Hp) (a : Addr) (ns : List Int), ns.length ≤ n → Only H → SqL (K w.params) H a (ns.map V.int) → sp w [.ref a] H (fun v _ => v = .bl true) fun _ _ _ => False)
    (hCX : ∀ (w : World) (H : Hp) (s : Shared) (e : Value) (s' : Shared), CX w [] H s (fun _ _ _ => False) e s' → False) :
    PySem.W.WalkO q loose XP YP l.row.toRowW d [] (fun f vs => PySem.call f vs) := by
  refine Att.attach_call hn hdf fun w s₀ s₁ mg mb fa o pm cd doc a vs ns G Y ho hd hcd hmg hobj hints hlen hg => ?_
  have KX := hY w _ Y
  obtain ⟨fd, hb, hF⟩ := F w mg fa _ KX G.T.g hmg
  exact law_call KX G.T.g G.T.b G.T.builtins G.T.nolimit hg hobj hints (Nat.le_trans hlen hn2) hr hF hb (fun H hO hS => hsp w H a ns hlen hO hS) fun H e s' => hCX w H s₁ e s'
theorem walk_ofK {l : PySem.W.OpenLaw} {n k : Nat} {q : Program} {loose : List Str} {XP : (Str → Option Value) → Heap → Prop} {YP : World → Heap → Prop} {d : DefRec} {K : Params → PySem.W.Frag} {CX : CXT} {sp : PySem.W.Frag → Sp} {x : Str}
    (hn : l.most = some n) (hn2 : n ≤ sizeLine) (hdf : d.params.defaults = []) (hr : Room k callerA)
    (hY : ∀ (w : World) (h : Heap), YP w h → (K w.params).In h)
    (F : ∀ (w : World) (mg : Str → Option Value) (fa : Addr) (h : Heap), (K w.params).In h → h.Ns mainGlobals mg → mg d.name = some (.ref fa) →
      ∃ fd : FuncData, (∀ (s : Shared) (u : Value), BindsTo s fd ⟨[u], []⟩ [(x, u)]) ∧
        ∀ base : Heap, (K w.params).In base → base.Ns mainGlobals mg → FnOk l.prog w (K w.params) mg base CX k fa fd [x] (sp (K w.params)))
    (hsp : ∀ (K : PySem.W.Frag) (H : Hp) (a : Addr) (ns : List Int), ns.length ≤ n → Only H → SqL K H a (ns.map V.int) → sp K [.ref a] H (fun v _ => v = .bl true) fun _ _ _ => False)
    (hCX : ∀ (H : Hp) (s : Shared) (e : Value) (s' : Shared), CX [] H s (fun _ _ _ => False) e s' → False) :
    PySem.W.WalkO q loose XP YP l.row.toRowW d [] (fun f vs => PySem.call f vs) :=
  walk_of (K := K) (CX := fun _ => CX) (sp := fun w => sp (K w.params)) hn hn2 hdf hr hY F (fun w H a ns h1 h2 h3 => hsp (K w.params) H a ns h1 h2 h3) fun _ H s e s' => hCX H s e s'
end L2


namespace L2
open PySem PySem.Spec PyProof.Rows

def inClass (s : Stmt) (j : Nat) : Stmt := match s with
  | .ClassDef _ _ _ body _ _ _ _ _ _ _ => body.getD j (.Pass ⟨0, 0, 0, 0⟩)
  | _ => .Pass ⟨0, 0, 0, 0⟩
def defArgs (s : Stmt) : Arguments := match s with
  | .FunctionDef _ a _ _ _ _ _ _ _ _ => a
  | _ => { posonlyargs := [], args := [], vararg := none, kwonlyargs := [], kw_defaults := [], kwarg := none, defaults := [] }
def defBody (s : Stmt) : List Stmt := match s with
  | .FunctionDef _ _ b _ _ _ _ _ _ _ => b
  | _ => []
def defScope (s : Stmt) : Scope := match s with
  | .FunctionDef _ _ _ _ _ _ sc _ _ _ => sc
  | _ => { kind := .function, names := [], isGenerator := false, isCoroutine := false }

abbrev CX0 : CXT := fun _ _ _ _ _ _ => False
abbrev E0 : XK := fun _ _ _ => False
theorem pass0 {X : Cx} : Passes CX0 X E0 := fun _ _ _ _ _ _ _ h => h.elim

structure Fun (K : PySem.W.Frag) (x qual : Str) (st : Stmt) (f : Addr) (fd : FuncData) : Prop where
  ex : ∃ (oc : Value) (od : Option Addr) (kV doc pm : Value) (an : Option Addr) (cdv ct : Value) (osl : Array (Option Value)),
    fd = PySem.W.fnOf x qual (defArgs st) (defBody st) (defScope st) .none kV doc pm an cdv ct ∧ K.lookup f = some ⟨oc, od, .func fd, osl⟩ ∧ PySem.W.codeIn K cdv qual = true
  kp : PySem.W.keepIn K (.ref f) = true
section
variable {P : Program} {w : World} {K : PySem.W.Frag} {mg : Str → Option Value} {base : Heap}
theorem Fun.ok {x qual : Str} {st : Stmt} {f : Addr} {fd : FuncData} {N ps : List Str} {k : Nat} {sp : Sp} (F : Fun K x qual st f fd) (S : FnScope N ps (defScope st)) (len : ∀ vs H Q E, sp vs H Q E → vs.length = ps.length)
    (hbody : ∀ (cdv : Value) (A : Around) (outer : List Env) (s : Shared) (H : Hp) (vs : List V) (Q : VK) (E : XK), Room k (A.deeper (envOfC qual (defScope st) s.heap.objs.size f cdv)) → sp vs H Q E →
      ∃ t, PSs (cxOf CX0 P w K mg base N qual (defScope st) f cdv A outer s H E).nox (defBody st) t ∧ t { nx := fun _ H' => Q .non H', rt := Q } (start N vs) H) : FnOk P w K mg base CX0 (k + 1) f fd ps sp := by
  obtain ⟨oc, od, kV, doc, pm, an, cdv, ct, osl, rfl, lk, hcd⟩ := F.ex
  refine fn_of lk hcd S len fun A outer s H vs Q E hr hsp => ?_
  obtain ⟨t, h, q⟩ := hbody cdv A outer s H vs Q E hr hsp
  exact ⟨t, h.nox, q⟩
theorem Fun.binds {x qual : Str} {st : Stmt} {f : Addr} {fd : FuncData} {ps : List Str} (F : Fun K x qual st f fd)
    (h : ∀ (kV doc pm : Value) (an : Option Addr) (cdv ct : Value) (us : List Value), us.length = ps.length → bindArgs (PySem.W.fnOf x qual (defArgs st) (defBody st) (defScope st) .none kV doc pm an cdv ct) ⟨us, []⟩ = pure (ps.zip us)) : Binds K fd ps [] := by
  obtain ⟨oc, od, kV, doc, pm, an, cdv, ct, osl, rfl, lk, hcd⟩ := F.ex
  exact .all (h kV doc pm an cdv ct)
theorem fun_mk {x qual : Str} {st : Stmt} {f : Addr} {oc : Value} {od an : Option Addr} {osl : Array (Option Value)} {kV doc pm cdv ct : Value} (l : K.lookup f = some ⟨oc, od, .func (PySem.W.fnOf x qual (defArgs st) (defBody st) (defScope st) .none kV doc pm an cdv ct), osl⟩)
    (c : PySem.W.codeIn K cdv qual = true) (k : PySem.W.keepIn K (.ref f) = true) : Fun K x qual st f (PySem.W.fnOf x qual (defArgs st) (defBody st) (defScope st) .none kV doc pm an cdv ct) := ⟨⟨oc, od, kV, doc, pm, an, cdv, ct, osl, rfl, l, c⟩, k⟩
end
theorem hu_of {A : Around} {k : Nat} (hr : Room k A) : A.units + 1 < cLine := Nat.lt_of_le_of_lt (Nat.add_le_add_left (by decide : 1 ≤ 64) _) hr.units
section
variable {X : Cx}
theorem pv (i : Nat) {x : Str} {pos : Pos} (hN : X.N[i]? = some x := by rfl) (hv : Vis X.env.scope x := by first | exact Or.inl rfl | exact Or.inr (Or.inl rfl) | exact Or.inr (Or.inr rfl)) (hd : (x == ("__debug__" : Str)) = false := by decide)
    (hcd : (x == ("__classdict__" : Str)) = false := by decide) : PE X (.Name x pos) (tVar i) := pe_var hN hv hd hcd
theorem call_lenD : CallR X (.builtin "len") (fun xs H Q => ∃ a kvs, xs = [V.ref a] ∧ H a = some (.dK kvs) ∧ Q (.int kvs.length) H) := by
  intro pins s σ H xs us Q I r h
  obtain ⟨a, kvs, rfl, ha, q⟩ := h
  obtain ⟨u, rfl, ru⟩ := vals1 r
  cases ru
  exact d_len I (.inl ha) fun t s' I' => ⟨.int kvs.length, H, I', ⟨t, rfl⟩, q⟩
end

theorem iteF {A B : Prop} (h : B) : if false = true then A else B := by
  rw [if_neg Bool.false_ne_true]
  exact h
theorem iteT {A B : Prop} (h : A) : if true = true then A else B := by
  rw [if_pos rfl]
  exact h
theorem ite2 {c A B : Prop} [Decidable c] (h1 : c → A) (h2 : ¬ c → B) : if c then A else B := by
  by_cases h : c
  · rw [if_pos h]
    exact h1 h
  · rw [if_neg h]
    exact h2 h
def Same (H H' : Hp) : Prop := ∀ b o, H b = some o → H' b = some o
theorem Same.refl (H : Hp) : Same H H := fun _ _ h => h
theorem Same.trans {H H1 H2 : Hp} (a : Same H H1) (b : Same H1 H2) : Same H H2 := fun c o h => b c o (a c o h)
theorem Same.free {H H' : Hp} (e : Same H H') {l : Addr} (h : H' l = Option.none) : H l = Option.none := by
  cases q : H l with
  | none => rfl
  | some o =>
    rw [e l o q] at h
    cases h
theorem Same.seq {K : PySem.W.Frag} {H H' : Hp} {a : Addr} {xs : List V} (e : Same H H') (h : SqL K H a xs) : SqL K H' a xs := by
  rcases h with (h | ⟨o, h⟩) | h
  · exact .inl (.inl (e _ _ h))
  · exact .inl (.inr ⟨o, e _ _ h⟩)
  · exact .inr h

section
variable {κ : Type} [DecidableEq κ]
theorem valV_in {kvs : List (κ × V)} {k : κ} {v : V} (h : valV kvs k = some v) : k ∈ kvs.map (·.1) := by
  have q : (kvs.any fun kv => decide (kv.1 = k)) = true := by
    rw [valV_any, h]
    all_goals rfl
  obtain ⟨p, hp, e⟩ := List.any_eq_true.mp q
  exact List.mem_map.mpr ⟨p, hp, of_decide_eq_true e⟩
end
end L2

set_option Elab.async false
set_option linter.all false
set_option maxRecDepth 100000
namespace L2
open PySem PySem.Spec PyProof.Rows

def clGo (env : Env) : List (Str × NameKind) → List (Str × Addr) → List (Str × Addr)
  | [], cs => cs
  | (n, k) :: r, cs => clGo env r (if (k == NameKind.free) = true then (n, (env.cells.lookup n).getD 0) :: cs else cs)
theorem clGo_pure {env : Env} : ∀ (ns : List (Str × NameKind)) (cs : List (Str × Addr)), (∀ y ∈ ns, y.2 = .free → ∃ c, env.cells.lookup y.1 = some c) →
    (forIn (m := Sem) ns cs fun y cs => if (y.2 == NameKind.free) = true then (do let a ← cellOf env y.1; pure (ForInStep.yield ((y.1, a) :: cs))) else pure (ForInStep.yield cs)) = pure (clGo env ns cs)
  | [], cs, _ => rfl
  | (n, k) :: r, cs, h => by
    rw [List.forIn_cons]
    have hr : ∀ y ∈ r, y.2 = .free → ∃ c, env.cells.lookup y.1 = some c := fun y hy => h y (List.mem_cons_of_mem _ hy)
    by_cases hk : (k == NameKind.free) = true
    · obtain ⟨c, hc⟩ := h (n, k) List.mem_cons_self (beq_iff_eq.mp hk)
      have e1 : cellOf env n = pure c := by unfold cellOf; rw [show env.cells.lookup n = some c from hc]
      simp only [hk, if_true, e1, pure_bind]
      rw [clGo_pure r _ hr]
      show _ = pure (clGo env r (if (k == NameKind.free) = true then (n, (env.cells.lookup n).getD 0) :: cs else cs))
      rw [if_pos hk, show env.cells.lookup n = some c from hc]
      rfl
    · simp only [hk, Bool.false_eq_true, if_false, pure_bind]
      rw [clGo_pure r _ hr]
      show _ = pure (clGo env r (if (k == NameKind.free) = true then (n, (env.cells.lookup n).getD 0) :: cs else cs))
      rw [if_neg hk]
theorem closure_of {scope : Scope} {env : Env} (h : ∀ y ∈ scope.names, y.2 = .free → ∃ c, env.cells.lookup y.1 = some c) : closureFor scope env = pure (clGo env scope.names []) := by
  have e := clGo_pure scope.names [] h
  unfold closureFor
  refine Eq.trans ?_ (e.trans rfl)
  first
    | rfl
    | (simp only [bind_pure]; rfl)
    | simp

theorem clGo_look {env : Env} {x : Str} {c : Addr} : ∀ (ns : List (Str × NameKind)) (cs : List (Str × Addr)), (∀ y ∈ ns, y.2 = .free → ∃ c, env.cells.lookup y.1 = some c) →
    (∀ c, cs.lookup x = some c → env.cells.lookup x = some c) → (clGo env ns cs).lookup x = some c → env.cells.lookup x = some c
  | [], cs, _, hc, e => hc c e
  | (n, k) :: r, cs, h, hc, e => by
    refine clGo_look r _ (fun y hy => h y (List.mem_cons_of_mem _ hy)) (fun c' e' => ?_) e
    by_cases hk : (k == NameKind.free) = true
    · rw [if_pos hk] at e'
      rw [List.lookup_cons] at e'
      cases hx : x == n with
      | true =>
        rw [hx] at e'
        obtain ⟨c2, h2⟩ := h (n, k) List.mem_cons_self (beq_iff_eq.mp hk)
        have h2' : env.cells.lookup n = some c2 := h2
        rw [h2'] at e'
        rw [beq_iff_eq.mp hx, h2']
        exact e'
      | false =>
        rw [hx] at e'
        exact hc c' e'
    · rw [if_neg hk] at e'
      exact hc c' e'
theorem clGo_has {env : Env} {x : Str} : ∀ (ns : List (Str × NameKind)) (cs : List (Str × Addr)), ((x, NameKind.free) ∈ ns ∨ (∃ c, cs.lookup x = some c)) → ∃ c, (clGo env ns cs).lookup x = some c
  | [], cs, h => by
    rcases h with h | h
    · cases h
    · exact h
  | (n, k) :: r, cs, h => by
    refine clGo_has r _ ?_
    rcases h with h | ⟨c, h⟩
    · rcases List.mem_cons.mp h with e | e
      · cases e
        refine .inr ⟨(env.cells.lookup x).getD 0, ?_⟩
        rw [if_pos (by rfl), List.lookup_cons]
        simp
      · exact .inl e
    · right
      by_cases hk : (k == NameKind.free) = true
      · rw [if_pos hk, List.lookup_cons]
        cases hx : x == n with
        | true => exact ⟨_, rfl⟩
        | false => exact ⟨c, h⟩
      · rw [if_neg hk]
        exact ⟨c, h⟩

def blk (X : Cx) (scope : Scope) (Nc : List Str) (C : Addr) (s₂ : Shared) (H₂ : Hp) (ex : List Addr) (pins : List (Addr × Obj)) : Cx :=
  { prog := X.prog, w := X.w, K := X.K, mg := X.mg, base := X.base, A := X.A, N := Nc, s₀ := s₂, H₀ := H₂, env := compEnvC scope (clGo X.env scope.names []) C X.env, outer := X.stack, stack := X.stack, ex := ex,
    fn := fun _ => false, calm := X.calm, pn := X.pn ++ pins, xe := fun _ _ => False }

structure BlkScope (X : Cx) (scope : Scope) (x : Str) (Nf : List Str) (js : List Nat) : Prop where
  kind : scope.kind = .function
  nocell : ∀ y ∈ scope.names, y.2 ≠ .cell
  loc : ∀ y ∈ scope.names, y.2 = .local → scope.names.lookup y.1 = some .local
  own : scope.names.lookup x = some .local
  nd : (x :: Nf).Nodup
  free : ∀ y ∈ scope.names, y.2 = .free → X.env.kindOf y.1 = some .cell
  slots : Nf.length = js.length
  at_ : ∀ (i : Nat) (z : Str), Nf[i]? = some z → ∃ j : Nat, js[i]? = some j ∧ X.N[j]? = some z ∧ scope.names.lookup z = some .free ∧ X.env.scope.names.lookup z = some .cell
section
variable {X : Cx} {scope : Scope} {x : Str} {Nf : List Str} {js : List Nat} {C : Addr} {s₂ : Shared} {H₂ : Hp} {ex : List Addr} {pins : List (Addr × Obj)} {σ : St}
theorem BlkScope.hasCell (B : BlkScope X scope x Nf js) (ok : X.Ok) : ∀ y ∈ scope.names, y.2 = .free → ∃ c, X.env.cells.lookup y.1 = some c := fun y hy hf => ok.has y.1 (.inl (B.free y hy hf))
theorem BlkScope.look (B : BlkScope X scope x Nf js) (ok : X.Ok) {z : Str} {c : Addr} (e : (clGo X.env scope.names []).lookup z = some c) : X.env.cells.lookup z = some c :=
  clGo_look scope.names [] (B.hasCell ok) (fun c h => by simp at h) e
theorem relabel_free {sc : Scope} {env : Env} {z : Str} : ∀ {ns : List (Str × NameKind)}, (∀ y ∈ ns, y.2 ≠ .cell) →
    ((ns.map fun (n, k) => if (k == NameKind.free && env.scope.kind == .function && env.kindOf n == some .cell) then (n, NameKind.cell) else (n, k)).lookup z = some .cell ∨
     (ns.map fun (n, k) => if (k == NameKind.free && env.scope.kind == .function && env.kindOf n == some .cell) then (n, NameKind.cell) else (n, k)).lookup z = some .free) → (z, NameKind.free) ∈ ns
  | [], _, h => by simp at h
  | (n, k) :: r, hc, h => by
    have ih := @relabel_free sc env z r fun y hy => hc y (List.mem_cons_of_mem _ hy)
    rw [List.map_cons, List.lookup_cons] at h
    by_cases hk : (k == NameKind.free && env.scope.kind == .function && env.kindOf n == some .cell) = true
    · have kf : k = .free := by
        rw [Bool.and_eq_true, Bool.and_eq_true] at hk
        exact beq_iff_eq.mp hk.1.1
      subst kf
      simp only [hk, if_true] at h
      cases hz : z == n with
      | true => rw [beq_iff_eq.mp hz]; exact List.mem_cons_self
      | false => rw [hz] at h; exact List.mem_cons_of_mem _ (ih h)
    · simp only [hk, Bool.false_eq_true, if_false] at h
      cases hz : z == n with
      | true =>
        rw [hz] at h
        have h' : k = .cell ∨ k = .free := by
          rcases h with h | h
          · exact .inl (Option.some.inj h)
          · exact .inr (Option.some.inj h)
        rcases h' with e | e
        · exact absurd e (hc (n, k) List.mem_cons_self)
        · rw [beq_iff_eq.mp hz, e]; exact List.mem_cons_self
      | false => rw [hz] at h; exact List.mem_cons_of_mem _ (ih h)
theorem relabel_cell {env : Env} {z : Str} (hk : env.scope.kind = .function) (hz : env.kindOf z = some .cell) : ∀ {ns : List (Str × NameKind)}, (∀ y ∈ ns, y.2 = .local → ns.lookup y.1 = some .local) → (∀ y ∈ ns, y.2 ≠ .cell) → ns.lookup z = some .free →
    (ns.map fun (n, k) => if (k == NameKind.free && env.scope.kind == .function && env.kindOf n == some .cell) then (n, NameKind.cell) else (n, k)).lookup z = some .cell
  | [], _, _, h => by simp at h
  | (n, k) :: r, _, _, h => by
    have ih : ∀ {ns : List (Str × NameKind)}, ns.lookup z = some .free → (ns.map fun (n, k) => if (k == NameKind.free && env.scope.kind == .function && env.kindOf n == some .cell) then (n, NameKind.cell) else (n, k)).lookup z = some .cell := by
      intro ns
      induction ns with
      | nil => intro h; simp at h
      | cons p ps ihp =>
        intro h
        obtain ⟨n', k'⟩ := p
        rw [List.lookup_cons] at h
        rw [List.map_cons, List.lookup_cons]
        cases hx : z == n' with
        | true =>
          rw [hx] at h
          have e : k' = .free := Option.some.inj h
          subst e
          rw [← beq_iff_eq.mp hx]
          simp [hk, hz]
        | false =>
          rw [hx] at h
          by_cases hc : (k' == NameKind.free && env.scope.kind == .function && env.kindOf n' == some .cell) = true
          · simp only [hc, if_true, hx]; exact ihp h
          · simp only [hc, Bool.false_eq_true, if_false, hx]; exact ihp h
    exact ih h

theorem BlkScope.ok (B : BlkScope X scope x Nf js) {H : Hp} {s : Shared} (I : Inv X pins σ H s) (hC : s.heap.objs.size ≤ C) {fp : List Addr} (hf : ∀ b ∈ fp, FpOk X pins H b) (ho : ∀ b ∈ fp, ∃ o, s.heap.get? b = some o ∧ ∀ v, o.data ≠ .cell v) :
    (blk X scope (x :: Nf) C s H fp pins).Ok where
  mod := I.ok.mod
  kind := B.kind
  glob := I.ok.glob
  blt := I.ok.blt
  above := hC
  inj := fun y z c h1 h2 => I.ok.inj y z c (B.look I.ok h1) (B.look I.ok h2)
  has := fun z hz => clGo_has scope.names [] (.inl (relabel_free (sc := scope) B.nocell hz))
  cab := fun y c h _ => Bool.noConfusion h
  hd := fun h => I.ok.hd h
  frames := I.ok.frames
  stk := .inl rfl
  exf := fun b hb => by
    obtain ⟨o, e, d⟩ := ho b hb
    refine ⟨Nat.ne_of_lt (Nat.lt_of_lt_of_le (Heap.lt_size e) hC), fun z c h => (hf b hb).2.2.2.2.1 z c (B.look I.ok h)⟩
  bs := I.bs
  bsz := Nat.le_trans I.ok.bsz I.sz
  noex := fun b o e hb => by
    rcases (hf b hb).2.2.2.1 with z | z
    · exact I.ok.noex b o e z
    · exact absurd (Nat.lt_of_lt_of_le (Heap.lt_size e) (Nat.le_trans I.ok.bsz z)) (Nat.lt_irrefl _)
  exfs := fun b hb hs => by
    rcases List.mem_cons.mp (I.stkSub b hs) with e | e
    · exact (hf b hb).2.1 e
    · exact (hf b hb).2.2.1 e
  funs := I.stack
  frf := I.stkFree
end
end L2

set_option Elab.async false
set_option linter.all false
set_option maxRecDepth 100000
namespace L2
open PySem PySem.Spec PyProof.Rows
section
variable {X : Cx} {scope : Scope} {x : Str} {Nf : List Str} {js : List Nat} {pins : List (Addr × Obj)} {σ : St}

def blkSt (js : List Nat) (σ : St) (v : Option V) : St := v :: js.map fun j => (σ[j]?).getD none

theorem BlkScope.inv (B : BlkScope X scope x Nf js) {H : Hp} {s : Shared} (I : Inv X pins σ H s) {fp : List Addr} (hf : ∀ b ∈ fp, FpOk X pins H b) (ho : ∀ b ∈ fp, ∃ o, s.heap.get? b = some o ∧ ∀ v, o.data ≠ .cell v)
    {h₁ : Heap} {tk : Nat} (hn : h₁.Ns (s.heap.objs.size + 1) (fun _ => none)) (hs : Heap.SameBut (s.heap.objs.size + 1) ((s.heap.push { cls := .type "list", data := .seq #[] }).push { cls := .type "dict", data := .dict #[] }) h₁) :
    Inv (blk X scope (x :: Nf) (s.heap.objs.size + 1) s H fp pins) [] (blkSt js σ none) (upd H s.heap.objs.size (.lst [])) { s with heap := h₁, toks := tk } := by
  have old : ∀ b o, s.heap.get? b = some o → h₁.get? b = some o := fun b o e =>
    hs.extBut b o (Nat.ne_of_lt (Nat.lt_succ_of_lt (Heap.lt_size e))) (Heap.get?_push_of_some _ (Heap.get?_push_of_some _ e))
  have hD : h₁.get? s.heap.objs.size = some { cls := .type "list", data := .seq #[] } := hs.extBut _ _ (Nat.ne_of_lt (Nat.lt_succ_self _)) (Heap.get?_push_of_some _ (Heap.get?_push_size _ rfl))
  have fD : H s.heap.objs.size = none := I.hok.fresh (Nat.le_refl _)
  have fC : H (s.heap.objs.size + 1) = none := I.hok.fresh (Nat.le_succ _)
  have cellAt : ∀ z c, (clGo X.env scope.names []).lookup z = some c → c < s.heap.objs.size := fun z c e => by
    obtain ⟨v, q⟩ := I.cell z c (B.look I.ok e)
    exact q.lt
  have J := I.laid (a := s.heap.objs.size) (o := .lst []) (h' := h₁) (t' := tk) old (Nat.le_refl _) ⟨Nat.zero_le _, [], 0, .nil, hD⟩
  refine ⟨B.ok I (Nat.le_succ _) hf ho, rfl, I.bare, Un.laid old (Nat.le_refl _) fD, ⟨_, hn, fun i z v h1 h2 h3 => ?_⟩, fun z c e => ?_, ?_, fun z c e => ?_, fun p hp => ?_, J.hok, ?_⟩
  · -- a name of the block that has a value: one of the def's
    cases i with
    | zero =>
      have h2' : some (none : Option V) = some (some v) := h2
      cases h2'
    | succ i =>
      have h1' : Nf[i]? = some z := h1
      have h2' : (js.map fun j => (σ[j]?).getD none)[i]? = some (some v) := h2
      obtain ⟨j, e1, e2, e3, e4⟩ := B.at_ i z h1'
      rw [List.getElem?_map, e1] at h2'
      have h2'' : (σ[j]?).getD none = some v := Option.some.inj h2'
      have e5 : σ[j]? = some (some v) := by
        cases q : σ[j]? with
        | none => rw [q] at h2''; cases h2''
        | some y => rw [q] at h2''; exact congrArg some h2''
      obtain ⟨m, hm, hl⟩ := I.loc
      obtain ⟨u, r, l⟩ := hl j z v e2 e5 (.inr (.inl e4))
      refine ⟨u, r, .inr ⟨.inl ?_, ?_⟩⟩
      · exact relabel_cell I.ok.kind e4 B.loc B.nocell e3
      · rcases l with ⟨k, _⟩ | ⟨_, c, hc, q⟩
        · rw [show X.env.kindOf z = X.env.scope.names.lookup z from rfl, e4] at k; cases k
        · obtain ⟨c', hc'⟩ := clGo_has (env := X.env) (x := z) scope.names [] (.inl (PySem.mem_of_lookup e3))
          have e6 := B.look I.ok hc'
          rw [hc] at e6
          cases e6
          exact ⟨c, hc', q.keeps old⟩
  · obtain ⟨v, q⟩ := I.cell z c (B.look I.ok e)
    exact ⟨v, q.keeps old⟩
  · show upd H s.heap.objs.size (.lst []) (s.heap.objs.size + 1) = none
    rw [upd_ne (Nat.ne_of_gt (Nat.lt_succ_self _))]
    exact fC
  · rw [upd_ne (Nat.ne_of_lt (cellAt z c e))]
    exact I.freeC z c (B.look I.ok e)
  · have hp' : p ∈ X.pn ++ pins := by
      have : p ∈ (X.pn ++ pins) ++ [] := hp
      rwa [List.append_nil] at this
    obtain ⟨e, n, ne, nf, d⟩ := I.pin p hp'
    refine ⟨old _ _ e, ?_, Nat.ne_of_lt (Nat.lt_succ_of_lt (Heap.lt_size e)), fun z => ?_, d⟩
    · rw [upd_ne (Nat.ne_of_lt (Heap.lt_size e))]; exact n
    · rcases List.mem_cons.mp (I.stkSub p.1 z) with q | q
      · exact ne q
      · exact nf q
  · show (none :: js.map _).length = (x :: Nf).length
    rw [List.length_cons, List.length_map, List.length_cons, B.slots]

theorem BlkScope.back (B : BlkScope X scope x Nf js) {H H' : Hp} {s s' : Shared} {fp : List Addr} {C : Addr} {pl : List (Addr × Obj)} {τ : St} (I : Inv X pins σ H s) (hf : ∀ b ∈ fp, FpOk X pins H b) (hC : s.heap.objs.size ≤ C)
    (J : Inv (blk X scope (x :: Nf) C s H fp pins) pl τ H' s') {h' : Heap} (hs : Heap.SameBut C s'.heap h') : Inv X pins σ H' { s' with heap := h' } := by
  have nC : H' C = none := J.free
  refine I.call' (s' := { s' with heap := h' }) (ch := fp) J.os ⟨fun b o e n hb hx => ?_, fun b o e n hb hx => ?_, J.base.free, fun b o e hx => ?_, J.base.tups, J.base.frzs, J.base.tbls⟩ ?_ J.bare (fun b hb => ?_)
  · exact hs.extBut b o (Nat.ne_of_lt (Nat.lt_of_lt_of_le (Heap.lt_size e) hC)) (J.base.keep b o e n hb hx)
  · obtain ⟨sl, e1⟩ := J.base.slot b o e n hb hx
    exact ⟨sl, hs.extBut b _ (Nat.ne_of_lt (Nat.lt_of_lt_of_le (Heap.lt_size e) hC)) e1⟩
  · obtain ⟨o', e1⟩ := J.base.there b o e hx
    exact ⟨o', hs.extBut b _ (Nat.ne_of_lt (Nat.lt_of_lt_of_le (Heap.lt_size e) hC)) e1⟩
  · intro a o e
    refine (J.hok a o e).stay (fun b u hb q => hs.extBut b u ?_ q) (fun _ q => q) fun _ _ q => q
    rcases hb with rfl | hb
    · exact fun z => by rw [z, nC] at e; cases e
    · exact fun z => by rw [z, nC] at hb; cases hb
  · obtain ⟨_, f1, f2, f3, f4, f5⟩ := hf b hb
    exact ⟨f3, f1, f4, f5⟩
end
end L2

set_option Elab.async false
set_option linter.all false
set_option maxRecDepth 100000
namespace L2
open PySem PySem.Spec PyProof.Rows

inductive PTs (X : Cx) : List Expr → TT → Prop where
  | nil : PTs X [] (fun _ H Q => Q true H)
  | one {c : Expr} {t : TT} (h : PT X c t) : PTs X [c] t
theorem PTs.run {X : Cx} {ifs : List Expr} {t : TT} (h : PTs X ifs t) {pins : List (Addr × Obj)} {s : Shared} {σ : St} {H : Hp} {Q : Bool → Hp → Prop} (I : Inv X pins σ H s) (q : t σ H Q) :
    wpAny (model X.prog X.w) X.A (forIn ifs true fun c r => if r = true then do let ok ← isTrue c X.env (eval c X.env); pure (ForInStep.yield ok) else pure (ForInStep.yield r)) (TP X pins σ Q) X.xe s := by
  cases h with
  | nil => exact wpAny_pure ⟨H, I, q⟩
  | @one c t h =>
    rw [List.forIn_cons]
    refine wpAny_bind ?_
    rw [if_pos rfl]
    refine wpAny_bind (thn (h pins s σ H Q I q) fun b s1 q1 => wpAny_pure ?_)
    exact wpAny_pure q1

def tComp (js : List Nat) (wi : TI) (tc : TT) (te : TE) : TE := fun σ H Q => wi σ H fun J H1 => ∀ D, H1 D = none → ∃ W : Nat → Nat → Hp → Prop, (∃ m, W 0 m (upd H1 D (.lst []))) ∧ ∀ i m H2, W i m H2 →
  (J.stop i H2 ∧ Q (.ref D) H2) ∨ (J.go i H2 ∧ ∀ v H3, J.yld i H2 v H3 → tc (blkSt js σ (some v)) H3 fun b H4 =>
    if b = true then te (blkSt js σ (some v)) H4 fun y H5 => ∃ ys, H5 D = some (.lst ys) ∧ ys.length < sizeLine ∧ ∃ m', m' < m ∧ W (i + 1) m' (upd H5 D (.lst (ys ++ [y])))
    else ∃ m', m' < m ∧ W (i + 1) m' H4)
section
variable {X : Cx} {scope : Scope} {x : Str} {Nf : List Str} {js : List Nat} {wi : TI} {tc : TT} {te : TE} {elt iter : Expr} {ifs : List Expr} {px pos : Pos}

theorem comp_core (use : Option (Value → Sem Unit)) {pins : List (Addr × Obj)} {s₂ : Shared} {σ : St} {H₂ : Hp} {it : Addr} {fp : List Addr} {tn : Nat → Heap → Prop} {J : It} {E : Value → Shared → Prop} {QQ : Value → Addr → Result → Shared → Prop} {Q : VK} {tg0 : Expr} (htg : tg0 = .Name x px)
    (B : BlkScope X scope x Nf js) (hc : X.calm = true)
    (ht : ∀ C s₂ H₂ ex pins, PTs (blk X scope (x :: Nf) C s₂ H₂ ex pins) ifs tc) (he : ∀ C s₂ H₂ ex pins, PE (blk X scope (x :: Nf) C s₂ H₂ ex pins) elt te)
    (I : Inv X pins σ H₂ s₂) (T : Turn X.prog X.w X.K tg0 J fp it tn) (st : tn 0 s₂.heap) (hf : ∀ b ∈ fp, FpOk X pins H₂ b)
    (hW : ∀ D, H₂ D = none → ∃ W : Nat → Nat → Hp → Prop, (∃ m, W 0 m (upd H₂ D (.lst []))) ∧ ∀ i m H2, W i m H2 →
      (J.stop i H2 ∧ Q (.ref D) H2) ∨ (J.go i H2 ∧ ∀ v H3, J.yld i H2 v H3 → tc (blkSt js σ (some v)) H3 fun b H4 =>
        if b = true then te (blkSt js σ (some v)) H4 fun y H5 => ∃ ys, H5 D = some (.lst ys) ∧ ys.length < sizeLine ∧ ∃ m', m' < m ∧ W (i + 1) m' (upd H5 D (.lst (ys ++ [y])))
        else ∃ m', m' < m ∧ W (i + 1) m' H4))
    (hQ : ∀ s' H', (∀ h', Heap.SameBut (s₂.heap.objs.size + 1) s'.heap h' → Inv X pins σ H' { s' with heap := h' }) → (∃ m, s'.heap.Ns (s₂.heap.objs.size + 1) m) → H' (s₂.heap.objs.size + 1) = none → Q (.ref s₂.heap.objs.size) H' → QQ (.ref s₂.heap.objs.size) (s₂.heap.objs.size + 1) (.ok .next) s') :
    wpAny (model X.prog X.w) X.A (newList []) (fun acc s₃ => wpAny (model X.prog X.w) X.A (newFunctionEnv scope X.env.globals (clGo X.env scope.names []) [] X.env.qual none .none (some X.env)) (fun cenv s₄ =>
      codeAny (model X.prog X.w) X.A (.compStart (.ListComp elt [⟨.Name x px, iter, ifs, 0⟩] scope pos) 0 (.ref it) acc { cenv with scope := relabel scope X.env }) (QQ acc cenv.locals) s₄) E s₃) E s₂ := by
  subst htg
  refine wpAny_newObj_type (wpAny_newFunctionEnv B.nocell (by intro y hy; simp at hy) (fun h₁ hns₁ hsb₁ => ?_) B.kind)
  dsimp only at hns₁ hsb₁ ⊢
  have hsz : (s₂.heap.push { cls := .type "list", dict := none, data := .seq ([] : List Value).toArray }).objs.size = s₂.heap.objs.size + 1 := Heap.size_push _ _
  rw [hsz] at hns₁ hsb₁ ⊢
  have ho : ∀ b ∈ fp, ∃ o, s₂.heap.get? b = some o ∧ ∀ v, o.data ≠ .cell v := T.obj 0 _ st
  have hD0 : H₂ s₂.heap.objs.size = none := I.hok.fresh (Nat.le_refl _)
  obtain ⟨W, ⟨m0, w0⟩, turn⟩ := hW _ hD0
  have old : ∀ b o, s₂.heap.get? b = some o → h₁.get? b = some o := fun b o e =>
    hsb₁.extBut b o (Nat.ne_of_lt (Nat.lt_succ_of_lt (Heap.lt_size e))) (Heap.get?_push_of_some _ (Heap.get?_push_of_some _ e))
  have st1 : tn 0 h₁ := T.keep _ _ _ st fun b _ o e => old b o e
  have I1 : ∀ tk, Inv (blk X scope (x :: Nf) (s₂.heap.objs.size + 1) s₂ H₂ fp pins) [] (blkSt js σ none) (upd H₂ s₂.heap.objs.size (.lst [])) { s₂ with heap := h₁, toks := tk } := fun tk => B.inv I hf ho hns₁ hsb₁
  have fpD : ∀ b ∈ fp, b ≠ s₂.heap.objs.size := fun b hb => by
    obtain ⟨o, e, _⟩ := ho b hb
    exact Nat.ne_of_lt (Heap.lt_size e)
  have fp0 : ∀ b ∈ fp, upd H₂ s₂.heap.objs.size (.lst []) b = none := fun b hb => by rw [upd_ne (fpD b hb)]; exact (hf b hb).1
  -- what the block's context says of the iterator's objects
  have stat : ∀ {H' : Hp}, (∀ b ∈ fp, H' b = none) → ∀ b ∈ fp, FpOk (blk X scope (x :: Nf) (s₂.heap.objs.size + 1) s₂ H₂ fp pins) [] H' b := fun {H'} hn b hb => by
    obtain ⟨_, f1, f2, f3, f4, f5⟩ := hf b hb
    obtain ⟨o, e, _⟩ := ho b hb
    refine ⟨hn b hb, Nat.ne_of_lt (Nat.lt_succ_of_lt (Heap.lt_size e)), fun z => ?_, .inl hb, fun z c h => f4 z c (B.look I.ok h), fun p hp => ?_⟩
    · rcases List.mem_cons.mp (I.stkSub b z) with q | q
      · exact f1 q
      · exact f2 q
    · have hp' : p ∈ (X.pn ++ pins) ++ [] := hp
      rw [List.append_nil] at hp'
      exact f5 p hp'
  have loop : ∀ sL : Shared, sL = { s₂ with heap := h₁, toks := s₂.toks + ([] : List (Str × Value)).length } →
      codeAny (model X.prog X.w) X.A (.compLoop (.ListComp elt [⟨.Name x px, iter, ifs, 0⟩] scope pos) 0 (.ref it) (.ref s₂.heap.objs.size) (compEnvC scope (clGo X.env scope.names []) (s₂.heap.objs.size + 1) X.env))
        (QQ (.ref s₂.heap.objs.size) (s₂.heap.objs.size + 1)) sL := by
    rintro sL rfl
    refine codeAny_compLoop_tests (fun n s' => ∃ i v H', Inv (blk X scope (x :: Nf) (s₂.heap.objs.size + 1) s₂ H₂ fp pins) [] (blkSt js σ v) H' s' ∧ tn i s'.heap ∧ (∀ b ∈ fp, H' b = none) ∧ W i n H') ?_ m0 ⟨0, none, _, I1 _, st1, fp0, w0⟩
    rintro n s3 ⟨i, v3, H3, I3, st3, fr3, w3⟩
    rcases turn i n H3 w3 with ⟨stop, qn⟩ | ⟨go, step⟩
    · refine thn (T.done (blk X scope (x :: Nf) (s₂.heap.objs.size + 1) s₂ H₂ fp pins) rfl rfl rfl hc i [] s3 _ H3 _ I3 (stat fr3) st3 stop) fun r s4 ⟨hr, I4⟩ => ?_
      subst hr
      obtain ⟨m4, hm4, _⟩ := I4.loc
      exact hQ s4 H3 (fun h' hs => B.back I hf (Nat.le_succ _) I4 hs) ⟨m4, hm4⟩ I4.free qn
    · refine thn (T.item (blk X scope (x :: Nf) (s₂.heap.objs.size + 1) s₂ H₂ fp pins) rfl rfl rfl hc i [] s3 _ H3 _ I3 (stat fr3) st3 go) fun r s4 ⟨u, hr, h4⟩ => ?_
      subst hr
      refine (show wpAny (model X.prog X.w) X.A (letOwnedTupleGo (Expr.Name x px) (.ref it) u >>= fun _ => assign (.Name x px) (compEnvC scope (clGo X.env scope.names []) (s₂.heap.objs.size + 1) X.env) u) _ _ s4 from wpAny_bind (thn h4 fun _ s5 ⟨y5, H5, I5, r5, yl5, st5, fr5⟩ => ?_))
      have I5' := I5.pinned (stat fr5) (T.obj _ _ st5)
      have hnm : (blk X scope (x :: Nf) (s₂.heap.objs.size + 1) s₂ H₂ fp pins).env.scope.names.lookup x = some .local := lookup_relabel_local B.own
      have hg : PG (blk X scope (x :: Nf) (s₂.heap.objs.size + 1) s₂ H₂ fp pins) (.Name x px) (gName 0) := pg_name B.nd rfl (.inl hnm) (.inr hnm)
      refine wpAny_mono (hg _ s5 _ H5 y5 u (fun σ' H' => σ' = blkSt js σ (some y5) ∧ H' = H5) I5' r5 ⟨rfl, rfl⟩) (fun _ s6 ⟨σ6, H6, I6, q6⟩ => ?_) fun _ _ z => False.elim z
      obtain ⟨e6, e6'⟩ := q6
      subst e6 e6'
      refine wpAny_mono ((ht _ _ _ _ _).run I6 (step y5 _ yl5)) (fun b s7 ⟨H7, I7, q7⟩ => ?_) fun _ _ z => False.elim z
      have again : ∀ {s8 : Shared} {σ8 : St} {H8 : Hp}, Inv (blk X scope (x :: Nf) (s₂.heap.objs.size + 1) s₂ H₂ fp pins) ([] ++ pinsAt fp s5.heap) σ8 H8 s8 → tn (i + 1) s8.heap ∧ ∀ b ∈ fp, H8 b = none := fun {s8 σ8 H8} I8 => by
        refine ⟨T.keep _ _ _ st5 fun b hb o e => (I8.pin (b, o) (List.mem_append_right _ (List.mem_append_right _ (mem_pinsAt hb e)))).1, fun b hb => ?_⟩
        obtain ⟨o, e, d⟩ := T.obj _ _ st5 b hb
        exact (I8.pin (b, o) (List.mem_append_right _ (List.mem_append_right _ (mem_pinsAt hb e)))).2.1
      cases b with
      | false =>
        simp only [Bool.false_eq_true, if_false] at q7 ⊢
        obtain ⟨m', hm, w7⟩ := q7
        exact ⟨m', hm, i + 1, _, H7, I7.unpinned, (again I7).1, (again I7).2, w7⟩
      | true =>
        simp only [if_true] at q7 ⊢
        refine wpAny_mono (he _ _ _ _ _ _ s7 _ H7 _ I7 q7) (fun yv s8 ⟨y8, H8, I8, r8, ys, hD8, hl8, m', hm, w8⟩ => ?_) fun _ _ z => False.elim z
        obtain ⟨a1, a2⟩ := again I8
        refine wpAny_mono (mt_append (X := blk X scope (x :: Nf) (s₂.heap.objs.size + 1) s₂ H₂ fp pins) _ s8 _ H8 (.ref s₂.heap.objs.size) [y8] (.ref s₂.heap.objs.size) [yv] (fun _ H' => H' = upd H8 s₂.heap.objs.size (.lst (ys ++ [y8]))) I8 rfl (.cons r8 .nil)
          ⟨_, _, _, rfl, rfl, hD8, hl8, rfl⟩) (fun _ s9 ⟨_, H9, I9, _, q9⟩ => ?_) fun _ _ z => False.elim z
        subst q9
        obtain ⟨b1, b2⟩ := again I9
        exact ⟨m', hm, i + 1, _, _, I9.unpinned, b1, b2, w8⟩
  exact codeAny_compStart_list (loop _ rfl) (T.self _ 0 _ _ _ st1 (loop _ rfl))

theorem pe_comp (B : BlkScope X scope x Nf js) (hc : X.calm = true) (hi : PI X (.Name x px) iter wi)
    (ht : ∀ C s₂ H₂ ex pins, PTs (blk X scope (x :: Nf) C s₂ H₂ ex pins) ifs tc) (he : ∀ C s₂ H₂ ex pins, PE (blk X scope (x :: Nf) C s₂ H₂ ex pins) elt te)
    (hs : ∀ v, foldedSetIterable iter X.env v = pure v := by intro _; rfl) : PE X (.ListComp elt [⟨.Name x px, iter, ifs, 0⟩] scope pos) (tComp js wi tc te) := by
  intro pins s σ H Q I h
  rw [eval_ListComp]
  refine wpAny_comprehension_free (use := none) rfl hs (closure_of (B.hasCell I.ok)) B.kind B.loc (thn (hi pins s σ H _ I h) fun v s1 h1 => thn h1 fun itv s2 h2 => ?_)
  obtain ⟨it, fp, tn, J, H2, e, I2, T, st2, f2, hW⟩ := h2
  subst e
  refine comp_core (QQ := fun acc C => compPost (model X.prog X.w) X.A X.xe none (EP X pins σ Q) acc C) none rfl B hc ht he I2 T st2 f2 hW fun s' H' hI hn _ hq => ?_
  obtain ⟨m, hm⟩ := hn
  exact ⟨m, hm, fun h' hs' => ⟨.ref s2.heap.objs.size, H', hI h' hs', rfl, hq⟩⟩
theorem ps_setComp {i : Nat} {y : Str} {py spos : Pos} (B : BlkScope X scope x Nf js) (hc : X.calm = true) (hi : PI X (.Name x px) iter wi)
    (ht : ∀ C s₂ H₂ ex pins, PTs (blk X scope (x :: Nf) C s₂ H₂ ex pins) ifs tc) (he : ∀ C s₂ H₂ ex pins, PE (blk X scope (x :: Nf) C s₂ H₂ ex pins) elt te)
    (hN : X.N.Nodup) (hy : X.N[i]? = some y) (hl : X.env.scope.names.lookup y = some .local)
    (hsw : swapsWith (.ListComp elt [⟨.Name x px, iter, ifs, 0⟩] scope pos) (some (.Name y py)) spos.line X.env = pure true := by rfl)
    (hs : ∀ v, foldedSetIterable iter X.env v = pure v := by intro _; rfl) : PS X (.Assign [.Name y py] (.ListComp elt [⟨.Name x px, iter, ifs, 0⟩] scope pos) spos) (tAsg (tComp js wi tc te) (gName i)) := by
  intro pins s σ H D I h
  have asg := exec_Assign_Name_used _ _ _ _ hsw
  rw [asg]
  refine wpAny_bind (wpAny_standAt ?_)
  refine wpAny_bind ?_
  show wpAny _ _ (do let _ ← comprehension (.ListComp elt [⟨.Name x px, iter, ifs, 0⟩] scope pos) scope X.env _ (newList []) false (eval iter X.env) (some (assign (.Name y py) X.env))) _ _ s
  refine wpAny_bind (wpAny_mono (wpAny_comprehension_free (use := some (assign (.Name y py) X.env)) (Q := fun _ s' => SP X pins D .next s') rfl hs (closure_of (B.hasCell I.ok)) B.kind B.loc
    (thn (hi pins s σ H _ I h) fun v s1 h1 => thn h1 fun itv s2 h2 => ?_)) (fun _ s' hq => wpAny_pure (wpAny_pure hq)) fun _ _ e => e)
  obtain ⟨it, fp, tn, J, H2, e, I2, T, st2, f2, hW⟩ := h2
  subst e
  refine comp_core (Q := fun x H1 => gName i x σ H1 D.nx) (QQ := fun acc C => compPost (model X.prog X.w) X.A X.xe (some (assign (.Name y py) X.env)) (fun _ s' => SP X pins D .next s') acc C) none rfl B hc ht he I2 T st2 f2 hW fun s' H' hI hn hC hq => ?_
  obtain ⟨m, hm⟩ := hn
  have I3 : Inv X pins σ H' s' := hI s'.heap (Heap.SameBut.refl ..)
  have nC := I2.fpOk (b := s2.heap.objs.size + 1) (Nat.le_succ _) hC
  show wpAny _ _ (assign (.Name y py) X.env (.ref s2.heap.objs.size)) _ _ _
  refine wpAny_assign_Name (store_ok2 I3 hN hy (.inl hl) (v := .ref s2.heap.objs.size) rfl (fun s4 I4 ⟨b, hb, hbc⟩ => ?_) (.inr hl))
  have bne : s2.heap.objs.size + 1 ≠ b := by
    rcases hbc with z | z
    · rw [z]; exact nC.2.1
    · exact fun q => nC.2.2.2.2.1 y b z q.symm
  refine ⟨m, hm.sameBut hb bne, fun h' hs' => ⟨_, H', ?_, hq⟩⟩
  exact I4.turned (t' := s4.toks) (fun c o hc q => (hs'.2 c hc).trans q) nC.1 nC.2.1 nC.2.2.2.1 nC.2.2.2.2.1 nC.2.2.2.2.2
end
end L2

set_option Elab.async false
set_option linter.all false
set_option maxRecDepth 100000
namespace L2
open PySem PySem.Spec PyProof.Rows

section
variable {X : Cx} {pins : List (Addr × Obj)} {σ : St} {H : Hp} {s : Shared}
theorem rel_isb {x : V} {v : Value} {c : Bool} (r : RelV x v) : decide (x = .bl c) = (v == .bool c) := by
  cases x with
  | bl b => cases r; cases b <;> cases c <;> decide
  | non => cases r; rfl
  | int i => obtain ⟨t, rfl⟩ := r; rfl
  | str i => obtain ⟨t, rfl⟩ := r; rfl
  | byt i => obtain ⟨t, rfl⟩ := r; rfl
  | flt i => obtain ⟨t, rfl⟩ := r; rfl
  | ref a => cases r; rfl
  | ty n => cases r; rfl
theorem op_isnotB : OpR X (compareOp .IsNot) (fun x y H Q => ∃ c, y = .bl c ∧ Q (.bl (!decide (x = .bl c))) H) := by
  intro pins s σ H x y v u Q I rx ry h
  obtain ⟨c, rfl, q⟩ := h
  cases ry
  have q' : EP X pins σ Q (.bool (!(v == .bool c))) s := fin_bl I q (congrArg not (rel_isb rx))
  cases x <;> first
    | (cases rx; exact wpAny_pure q')
    | (obtain ⟨t, rfl⟩ := rx; exact wpAny_pure q')

theorem op_fdivL : OpR X (binaryOp .FloorDiv) (rI (fun _ j => 0 < j ∧ j.natAbs.log2 < 9000) fun i j => .int (i / j)) := opI fun i j _ _ _ _ _ hc q => by
  have e : i.fdiv j = i / j := Int.fdiv_eq_ediv_of_nonneg i (Int.le_of_lt hc.1)
  exact floordiv_int (by omega) (by rw [e]; exact q) (.inl (PyProof.noPylong_of_log2 hc.2))

def plainV : V → Bool
  | .non => true | .bl _ => true | .int _ => true | .str _ => true | .ref _ => true
  | _ => false
def okP (x y : V) : Prop := (x = y ∧ plainV x = true) ∨ (flatV x = true ∧ flatV y = true)
def eqP (x y : V) : Bool := decide (x = y) || eqV x y
theorem eqV_self : ∀ {x : V}, flatV x = true → eqV x x = true
  | .non, _ => rfl
  | .bl b, _ => by cases b <;> rfl
  | .int i, _ => by simp [eqV]
  | .str z, _ => by simp [eqV]
theorem eqAt_P {A : Around} {s : Shared} {x y : V} {u v : Value} (ru : RelV x u) (rv : RelV y v) (h : okP x y) : SeqAt.EqAt A s u v (eqP x y) := by
  rcases h with ⟨e, p⟩ | ⟨f, g⟩
  · subst e
    have e1 : eqP x x = true := by unfold eqP; simp
    rw [e1]
    cases x with
    | non => cases ru; cases rv; exact SeqAt.EqAt.same _
    | bl b => cases ru; cases rv; exact SeqAt.EqAt.same _
    | int i => have := eqAt_V (A := A) (s := s) ru rv rfl rfl; rwa [eqV_self rfl] at this
    | str z => have := eqAt_V (A := A) (s := s) ru rv rfl rfl; rwa [eqV_self rfl] at this
    | ref a => cases ru; cases rv; exact SeqAt.EqAt.same _
    | _ => exact absurd (show false = true from p) Bool.false_ne_true
  · have e1 : eqP x y = eqV x y := by
      unfold eqP
      by_cases e : x = y
      · subst e; rw [eqV_self f]; simp
      · simp [e]
    rw [e1]
    exact eqAt_V ru rv f g
def eqPs (xs ys : List V) : Bool := decide (xs.length = ys.length) && (List.zipWith eqP xs ys).all id
def okPs (xs ys : List V) : Prop := xs.length = ys.length → ∀ (j : Nat) (x y : V), xs[j]? = some x → ys[j]? = some y → okP x y
theorem eqPs_self {xs : List V} : eqPs xs xs = true := by
  unfold eqPs
  rw [Bool.and_eq_true]
  refine ⟨by simp, ?_⟩
  induction xs with
  | nil => rfl
  | cons x r ih => rw [List.zipWith_cons_cons, List.all_cons, ih]; simp [eqP]
theorem okPs_self {xs : List V} (h : xs.all plainV = true) : okPs xs xs := fun _ j x y e e' => by
  rw [e] at e'
  cases e'
  exact .inl ⟨rfl, List.all_eq_true.mp h x (List.mem_of_getElem? e)⟩
def ans (xs ys : List V) (j : Nat) : Bool := match xs[j]?, ys[j]? with
  | some x, some y => eqP x y
  | _, _ => true
theorem zip_ans : ∀ (xs ys : List V), xs.length = ys.length → (List.range xs.length).all (ans xs ys) = (List.zipWith eqP xs ys).all id
  | [], [], _ => rfl
  | [], _ :: _, h => by simp at h
  | _ :: _, [], h => by simp at h
  | x :: xs, y :: ys, h => by
    have ih := zip_ans xs ys (by simpa using h)
    rw [List.length_cons, List.range_succ_eq_map, List.all_cons, List.zipWith_cons_cons, List.all_cons, ← ih, List.all_map]
    rfl
theorem ans_at {xs ys : List V} {us ws : List Value} (r : Vals xs us) (r' : Vals ys ws) (ok : okPs xs ys) (hl : xs.length = ys.length) {A : Around} {s : Shared} (j : Nat) (h1 : j < us.toArray.size) (h2 : j < ws.toArray.size) :
    SeqAt.EqAt A s us.toArray[j] ws.toArray[j] (ans xs ys j) := by
  have l1 := r.length
  have l2 := r'.length
  have j1 : j < xs.length := by simp at h1; omega
  have j2 : j < ys.length := by omega
  have e1 : xs[j]? = some xs[j] := by simp [j1]
  have e2 : ys[j]? = some ys[j] := by simp [j2]
  obtain ⟨u, eu, ru⟩ := r.get e1
  obtain ⟨w, ew, rw'⟩ := r'.get e2
  have a1 : us.toArray[j] = u := by
    have : us[j]? = some u := eu
    simp at h1
    simpa [h1] using this
  have a2 : ws.toArray[j] = w := by
    have : ws[j]? = some w := ew
    simp at h2
    simpa [h2] using this
  have a3 : ans xs ys j = eqP xs[j] ys[j] := by unfold ans; rw [e1, e2]
  rw [a1, a2, a3]
  exact eqAt_P ru rw' (ok hl j _ _ e1 e2)
def rEqL (K : PySem.W.Frag) (neg : Bool) : R2 := fun x y H Q => ∃ p q xs ys, x = .ref p ∧ y = .ref q ∧ SqL K H p xs ∧ SqL K H q ys ∧ okPs xs ys ∧ Q (.bl (if neg then !eqPs xs ys else eqPs xs ys)) H
theorem op_neL (hu : X.A.units < cLine) : OpR X (compareOp .NotEq) (rEqL X.K true) := by
  intro pins s σ H x y v u Q I rx ry h
  obtain ⟨p, q, xs, ys, rfl, rfl, hp, hq, ok, hQ⟩ := h
  cases rx
  cases ry
  obtain ⟨us, r, pl, hz⟩ := I.list hp
  obtain ⟨ws, r', pl', hz'⟩ := I.list hq
  have l1 := r.length
  have l2 := r'.length
  by_cases hl : xs.length = ys.length
  · refine SeqAt.RcNeAt.lists (e := ans xs ys) pl.isList pl'.isList (by simp; omega) hu (fun j h1 h2 => ans_at r r' ok hl j h1 h2) _ _ _ _ ⟨.bl _, H, I, rfl, ?_⟩
    rw [show us.toArray.size = xs.length by simp; omega, zip_ans xs ys hl]
    unfold eqPs at hQ
    rw [decide_eq_true hl, Bool.true_and] at hQ
    exact hQ
  · refine SeqAt.RcNeAt.lists_lengths pl.isList pl'.isList (by simp; omega) hu _ _ _ _ ⟨.bl _, H, I, rfl, ?_⟩
    unfold eqPs at hQ
    rw [decide_eq_false hl, Bool.false_and] at hQ
    exact hQ

end
end L2

set_option Elab.async false
set_option linter.all false
set_option maxRecDepth 100000
namespace L2
open PySem PySem.Spec PyProof.Rows

abbrev bmV : List Value := [.type "ValueError", .type "Exception", .type "BaseException", .type "object"]
def strK (es : Array DictEntry) : Bool := es.all fun e => match e.key with | .str _ _ => true | _ => false
theorem strK_ok {es : Array DictEntry} (x : strK es = true) : StrKeys es := fun e he => by
  have hx := Array.all_eq_true_iff_forall_mem.mp x e he
  cases hk : e.key with
  | str a b => exact ⟨a, b, rfl⟩
  | _ => rw [hk] at hx; cases hx

structure ExC (K : PySem.W.Frag) (C T fI : Addr) : Prop where
  cls : ∃ (nm q : Str) (N : Addr) (bs : List Value) (hdct : Bool) (sn : List Str) (sub : List Value) (ab : Bool) (col : Option Bool) (dd : Option Addr) (k0 k1 k2 k3 k5 : Option Value),
    K.lookup C = some (excClassObj nm q C N bs (.ref T :: bmV) hdct sn sub ab col dd k0 k1 k2 k3 k5 "ValueError.__new__")
  top : ∃ (c0 : Value) (dd : Option Addr) (cd : ClassData) (sl : Array (Option Value)), K.lookup T = some ⟨c0, dd, .cls cd, sl⟩ ∧
    ∃ (d0 : Value) (d1 : Option Addr) (es : Array DictEntry) (n : Nat) (sl' : Array (Option Value)), K.lookup cd.ns = some ⟨d0, d1, .dict es n, sl'⟩ ∧ strK es = true ∧ nsFind es "__init__" = none
  init : PySem.W.findIn K (.ref C) "__init__" = some (some (.ref fI))
  fn : PySem.W.isFn K (.ref fI) = true
  kp : PySem.W.keepIn K (.ref C) = true
theorem ExC.tail {K : PySem.W.Frag} {C T fI : Addr} (x : ExC K C T fI) {h : Heap} (X : K.In h) : OwnTail h bmV (.ref T :: bmV) := by
  obtain ⟨c0, dd, cd, sl, h1, d0, d1, es, n, sl', h2, h3, h4⟩ := x.top
  exact .own (X _ _ h1) ⟨_, es, n, X _ _ h2, rfl, strK_ok h3, fun _ => rfl⟩ h4 .base

section
variable {prog : Program} {w : World} {A : Around} {E : Value → Shared → Prop} {K : PySem.W.Frag} {C T fI : Addr} {h : Heap} {g : Array GenState} {d : Drawn} {t : Nat} {os : OsState}
theorem exc_tc (x : ExC K C T fI) (X : K.In h) {us : List Value} {Q : Fin → Shared → Prop}
    (hq : ∀ h' e, Heap.MadeExcOf h h' e (.ref C) us → h.objs.size ≤ e → wpAny (model prog w) A (call (.ref fI) (.ref e :: us)) (fun r s' => r = .none ∧ Q (.done (.ret (.ref e))) s') E ⟨h', g, d, t, os⟩) (hz : us.length ≤ sizeLine) :
    wpAny (model prog w) A (Builtin.«type.__call__» ⟨.ref C :: us, []⟩) Q E ⟨h, g, d, t, os⟩ := by
  have F := PySem.F.excBase_ValueError
  have OT := x.tail X
  obtain ⟨nm, q, N, bs, hdct, sn, sub, ab, col, dd, k0, k1, k2, k3, k5, lk⟩ := x.cls
  have hC := X _ _ lk
  repeat (first
    | with_reducible exact wpAny_loadPart_at hC ‹_›
    | with_reducible refine wpAny_loadPart_at hC ?_
    | with_reducible refine wpAny_madeBy_exc hC ?_
    | wp_step)
  refine codeAny_call_builtin_code (Code.quiet_builtin _ F.quiet) (wpAny_check_new_subU F F.hasB OT hC ?_)
  refine codeAny_exc_new_subU F F.hasB F OT hC ?_ hz
  show wpAny _ _ _ _ _ _
  generalize hg1 : h.push { cls := .type "tuple", data := .seq us.toArray } = h1
  have z1 : h1.objs.size = h.objs.size + 1 := by rw [← hg1]; exact Heap.size_push _ _
  have k1' : ∀ b o, h.get? b = some o → h1.get? b = some o := fun b o e => by rw [← hg1]; exact Heap.get?_push_of_some _ e
  generalize hg2 : h1.push { cls := .ref C, data := .fields #[.ref h.objs.size, .none, .none, .none, .bool false, .none] } = h2
  have k2' : ∀ b o, h1.get? b = some o → h2.get? b = some o := fun b o e => by rw [← hg2]; exact Heap.get?_push_of_some _ e
  have X2 : K.In h2 := X.keeps fun b o e => k2' b o (k1' b o e)
  have hC2 := X2 _ _ lk
  have he : h2.get? (h.objs.size + 1) = some { cls := .ref C, data := .fields #[.ref h.objs.size, .none, .none, .none, .bool false, .none] } := by
    rw [← hg2, ← z1]; exact Heap.get?_push_size _ rfl
  have ht : h2.get? h.objs.size = some { cls := .type "tuple", data := .seq us.toArray } := k2' _ _ (by rw [← hg1]; exact Heap.get?_push_size _ rfl)
  have hcC : (Value.ref C :: Value.ref T :: bmV).contains (.ref C) = true := by simp
  unfold isInstance
  repeat (first | with_reducible refine wpAny_loadPart_at he ?_ | (with_reducible refine wpAny_isSubtype_exc hC2 ?_; rw [hcC]) | wp_step)
  refine (PySem.W.looks_findIn X2 x.init).at (wpAny_holding ?_)
  refine wpAny_bind ?_
  unfold bindSpecial
  refine wpAny_bind ((PySem.W.looks_typeIn X2 (beq_iff_eq.mp x.fn)).at ?_)
  rw [if_pos (by decide)]
  refine wpAny_pure (wpAny_bind (wpAny_mono (hq h2 (h.objs.size + 1) ⟨fun b o e => k2' b o (k1' b o e), Heap.get?_none_of_le (Nat.le_succ _), h.objs.size, he, Heap.get?_none_of_le (Nat.le_refl _), ht⟩ (Nat.le_succ _)) (fun r s' hr => ?_) fun _ _ z => z))
  obtain ⟨rfl, hQ⟩ := hr
  wp_walk
  exact hQ
theorem exc_call (x : ExC K C T fI) (X : K.In h) {us : List Value} {Q : Value → Shared → Prop}
    (hq : ∀ h' e, Heap.MadeExcOf h h' e (.ref C) us → h.objs.size ≤ e → wpAny (model prog w) (A.under (.builtin "type.__call__" ⟨.ref C :: us, []⟩)) (call (.ref fI) (.ref e :: us)) (fun r s' => r = .none ∧ Q (.ref e) s') E ⟨h', g, d, t, os⟩) (hz : us.length ≤ sizeLine) :
    wpAny (model prog w) A (call (.ref C) us) Q E ⟨h, g, d, t, os⟩ := by
  obtain ⟨nm, q, N, bs, hdct, sn, sub, ab, col, dd, k0, k1, k2, k3, k5, lk⟩ := x.cls
  have hC := X _ _ lk
  have f1 := tc_lookup
  have f2 := tc_bind (.ref C)
  have ty : Shared.TypeIs ⟨h, g, d, t, os⟩ (.ref C) "type" := ⟨_, hC, rfl⟩
  refine wpAny_call ?_
  refine codeAny_of_tree ?_
  show wpAny (model prog w) _ (callAny (.ref C) _) _ _ _
  repeat (any_goals (first
    | assumption
    | with_reducible refine wpAny_loadPart_at hC ?_
    | wp_step))
  refine ⟨rfl, ?_⟩
  exact codeAny_call_builtin_at (Code.quiet_builtin _ (by decide +kernel)) entry_typeCall (wpAny_check_type_call_sub hC (exc_tc x X hq hz))
end
end L2

set_option Elab.async false
set_option linter.all false
set_option maxRecDepth 100000
namespace L2
open PySem PySem.Spec PyProof.Rows PySem.Builtin.ObjectAttr

def tbV (tb : Option Addr) : Value := match tb with | none => .none | some b => .ref b
def ExAt (C e : Addr) (dx ar tb : Option Addr) (h : Heap) : Prop := ∃ (o : Obj) (vs : Array Value), h.get? e = some o ∧ o.cls = .ref C ∧ o.dict = dx ∧ o.data = .fields vs ∧ 0 < vs.size ∧ (∀ t, ar = some t → vs[0]? = some (.ref t)) ∧ vs[1]? = some (tbV tb)
def ExO (C e : Addr) (dx ar tb : Option Addr) : HO := .ext (ExAt C e dx ar tb)
def XdAt (a : Addr) (fs : List (Str × V)) (h : Heap) : Prop := fs.length ≤ 1000 ∧ ∃ mA, h.Ns1 a mA ∧ (∀ f, RelO (fs.lookup f) (mA f)) ∧ PySem.Within mA (fs.map (·.1))
def XdO (a : Addr) (fs : List (Str × V)) : HO := .ext (XdAt a fs)
theorem ExAt.stay {C e : Addr} {dx ar tb : Option Addr} {h h' : Heap} (x : ExAt C e dx ar tb h) (k : ∀ o, h.get? e = some o → h'.get? e = some o) : ExAt C e dx ar tb h' :=
  let ⟨o, vs, e1, r⟩ := x; ⟨o, vs, k o e1, r⟩
theorem XdAt.stay {a : Addr} {fs : List (Str × V)} {h h' : Heap} (x : XdAt a fs h) (k : ∀ o, h.get? a = some o → h'.get? a = some o) : XdAt a fs h' :=
  let ⟨z, mA, hn, r⟩ := x; ⟨z, mA, hn.at k, r⟩
section
variable {P : Program} {w : World} {H : Hp} {h : Heap}
theorem exO_ok {C e : Addr} {dx ar tb : Option Addr} (x : ExAt C e dx ar tb h) : ObjOk P w H h e (ExO C e dx ar tb) := by
  refine ⟨x, ?_, fun h1 h2 q k => q.stay k⟩
  obtain ⟨o, _, e1, _⟩ := x
  exact ⟨o, e1⟩
theorem xdO_ok {a : Addr} {fs : List (Str × V)} (x : XdAt a fs h) : ObjOk P w H h a (XdO a fs) := by
  refine ⟨x, ?_, fun h1 h2 q k => q.stay k⟩
  obtain ⟨_, _, ⟨o, _, _, e, _⟩, _⟩ := x
  exact ⟨o, e⟩
end
structure ExF (K : PySem.W.Frag) (C T fI : Addr) : Prop extends ExC K C T fI where
  hd : PySem.W.hasDictIn K C = true
  sa : PySem.W.findIn K (.ref C) "__setattr__" = some (some (.builtin "object.__setattr__"))

section
variable {X : Cx} {pins : List (Addr × Obj)} {σ : St} {H : Hp} {s : Shared} {C T fI e : Addr} {A : Around} {E : Value → Shared → Prop}
theorem ex_get {dx ar tb : Option Addr} (I : Inv X pins σ H s) (he : H e = some (ExO C e dx ar tb)) : ExAt C e dx ar tb s.heap := (I.hok e _ he).1

structure BaseInit (K : PySem.W.Frag) (T : Addr) : Prop where
  ga : PySem.W.specialIn K (.ref T) "__getattribute__" = some (some (.builtin "type.__getattribute__"))
  rd : PySem.W.readsIn K T (.type "type") = true
  at_ : PySem.W.findCls K (.ref T) (.type "type") "__init__" = some (.val (.builtin "ValueError.__init__"))
theorem init_text {dx ar tb : Option Addr} {us : List Value} {rest : List V} {Q : Value → Shared → Prop} (x : ExF X.K C T fI) (I : Inv X pins σ H s) (he : H e = some (ExO C e dx ar tb)) (rv : Vals rest us) (hz : us.length ≤ sizeLine)
    (hq : ∀ t s', H t = none → t ≠ e → Inv X pins σ (upd (upd H t (.tup rest)) e (ExO C e dx (some t) tb)) s' → Q .none s') : wpAny (model X.prog X.w) A (call (.builtin "ValueError.__init__") (.ref e :: us)) Q E s := by
  have F := PySem.F.excBase_ValueError
  have OT := x.tail I.kIn
  obtain ⟨nm, q, N, bs, hdct, sn, sub, ab, col, dd, k0, k1, k2, k3, k5, lk⟩ := x.cls
  have hC := I.kIn _ _ lk
  obtain ⟨o, vs, e1, e2, e3, e4, e5, e6, eT⟩ := ex_get I he
  rcases s with ⟨hp, g, d, tk, os⟩
  refine wpAny_call (codeAny_call_builtin F.init.plain F.initEntry (wpAny_check_init_subU F OT hC e1 e2 ?_))
  show wpAny _ _ (Builtin.«BaseException.__init__» ⟨.ref e :: us, []⟩) _ _ _
  delta Builtin.«BaseException.__init__»
  dsimp only
  rw [if_neg (by simp)]
  unfold Builtin.BaseException.bexcPut newTuple
  have h0 : vs[0]? = some vs[0] := by simp [e5]
  have e1' := Heap.get?_push_of_some (h := hp) { cls := .type "tuple", data := .seq us.toArray } e1
  refine wpAny_bind (wpAny_newObj_type (wpAny_bind (wpAny_bind (wpAny_field e1' e4 h0 (wpAny_bind (wpAny_setField e1' e4 e5 ?_))))) hz)
  have nt : hp.objs.size ≠ e := Nat.ne_of_gt (Heap.lt_size e1)
  have ft : H hp.objs.size = none := I.hok.fresh (Nat.le_refl _)
  have key : Inv X pins σ (upd (upd H hp.objs.size (.tup rest)) e (ExO C e dx (some hp.objs.size) tb)) ⟨(hp.push { cls := .type "tuple", data := .seq us.toArray }).update e (Obj.mapFields (·.setIfInBounds 0 (.ref hp.objs.size))), g, d, tk, os⟩ := by
    have I1 := I.laid (a := hp.objs.size) (o := .tup rest) (h' := hp.push { cls := .type "tuple", data := .seq us.toArray }) (t' := tk) (fun b o q => Heap.get?_push_of_some _ q) (Nat.le_refl _) ⟨by rw [rv.length]; exact hz, _, rv, (by first | exact ⟨IsTup.new _ _, tup_nodict⟩ | exact IsTup.new _ _)⟩
    have e7 : ((hp.push { cls := .type "tuple", data := .seq us.toArray }).update e (Obj.mapFields (·.setIfInBounds 0 (.ref hp.objs.size)))).get? e = some (Obj.mapFields (·.setIfInBounds 0 (.ref hp.objs.size)) o) :=
      Heap.get?_update_self _ e1' (Obj.isFreed_of_fields (Obj.data_mapFields e4 _))
    refine I1.write (x := e) (e := e) (t' := tk) (by rw [upd_ne (Ne.symm nt), he]; trivial) (.inl rfl) (fun b u hb q => (Heap.get?_update_other _ _ (Ne.symm hb)).trans q) ⟨_, e7⟩ (exO_ok ⟨_, _, e7, (Obj.cls_mapFields ..).trans e2, ?_, Obj.data_mapFields e4 _, by simpa using e5, fun t ht => ?_, by rw [Array.getElem?_setIfInBounds_ne (by decide)]; exact eT⟩)
    · have : (Obj.mapFields (·.setIfInBounds 0 (.ref hp.objs.size)) o).dict = o.dict := by
        rcases o with ⟨oc, od, odt, osl⟩
        cases (show odt = _ from e4)
        rfl
      rw [this, e3]
    · cases ht
      simp [e5]
  have fin : wpAny (model X.prog X.w) A.in1 (ret Value.none) (fun fin s' => match fin with
      | Fin.done f => match (Except.ok f : Result) with
        | Except.ok (Flow.ret v) => Q v s'
        | Except.ok a => False
        | Except.error e => E e s'
      | Fin.again c' => c'.quiet = true ∧ codeAny (model X.prog X.w) A c' (fun r s' => match r with
        | Except.ok (Flow.ret v) => Q v s'
        | Except.ok a => False
        | Except.error e => E e s') s') (fun e s' => E e s') _ := wpAny_pure (hq _ _ ft nt key)
  cases vs[0] <;> first
    | exact wpAny_letGo fin
    | exact wpAny_pure fin

theorem exc_refuse (self : Value) : refuseLoop self "__setattr__" (.ref C :: .ref T :: bmV) = pure () := by
  rw [refuseLoop_ref, refuseLoop_ref]
  first
    | kernel_rfl
    | rfl
theorem exset_ok {ar tb : Option Addr} {f : Str} {y : V} {u : Value} {Q : Unit → Shared → Prop} (x : ExF X.K C T fI) (I : Inv X pins σ H s) (he : H e = some (ExO C e none ar tb)) (n : NoAttr X.K C f) (ry : RelV y u)
    (hq : ∀ dx s', H dx = none → dx ≠ e → Inv X pins σ (upd (upd H dx (XdO dx [(f, y)])) e (ExO C e (some dx) ar tb)) s' → Q () s') : wpAny (model X.prog X.w) A (setAttr (.ref e) f u) Q E s := by
  obtain ⟨o, vs, e1, e2, e3, e4, e5, e6, eT⟩ := ex_get I he
  have J : PySem.W.InstAt s.heap e o C none := ⟨e1, e2, by unfold PySem.W.notCls; rw [e4], by rw [e3]; trivial⟩
  refine PySem.W.set_plain I.kIn J x.sa ?_
  have SF : _ := PySem.F.store_object
  obtain ⟨cd, hc, hd'⟩ := PySem.W.any_some x.hd
  obtain ⟨nm, q, N, bs, hdct, sn, sub, ab, col, dd, k0, k1, k2, k3, k5, lk⟩ := x.cls
  have hcd : cd.mro = .ref C :: .ref T :: bmV := by
    unfold PySem.W.clsIn at hc
    rw [lk] at hc
    cases hc
    rfl
  have hm : PySem.W.Looks (model X.prog X.w) s.heap (mroOf (.ref C)) cd.mro := (PySem.W.looks_clsIn I.kIn hc).andThen .now
  have sub : PySem.W.Looks (model X.prog X.w) s.heap (isInstance (.ref e) (.type "object")) true :=
    J.type.andThen (PySem.W.looks_mroIn I.kIn (by unfold PySem.W.mroIn; rw [hc, Option.bind_some, hcd]; rfl))
  have hat := PySem.W.looks_findIn (M := model X.prog X.w) I.kIn (show PySem.W.findIn X.K (.ref C) f = some none from n)
  refine codeAny_call_builtin SF.slot.plain SF.entry (@PySem.W.check_slot (model X.prog X.w) _ _ { s with toks := s.toks + 1 } "object.__setattr__" "object" "__setattr__" (.ref e) [.str f s.toks, u] [] _ SF.kind SF.split sub (SF.args (.ref e) (.str f s.toks) u) ?_)
  rw [PySem.W.osa_eq, refuse_eq]
  refine wpAny_bind (wpAny_bind (PySem.W.Looks.here (s := { s with toks := s.toks + 1 }) J.type (wpAny_bind (PySem.W.Looks.here (s := { s with toks := s.toks + 1 }) hm ?_))))
  rw [hcd, exc_refuse]
  refine wpAny_pure (wpAny_bind (PySem.W.Looks.here (s := { s with toks := s.toks + 1 }) J.type (wpAny_bind (PySem.W.Looks.here (s := { s with toks := s.toks + 1 }) hat (wpAny_bind (wpAny_pure ?_))))))
  show wpAny _ _ (storeInOwnDict (.ref e) (.ref C) (.str f s.toks) f u false) _ _ _
  have e1b : s.heap.get? e = some ⟨.ref C, none, .fields vs, o.slots⟩ := by
    rcases o with ⟨oc, od, odt, osl⟩
    cases (show oc = _ from e2)
    cases (show od = _ from e3)
    cases (show odt = _ from e4)
    exact e1
  unfold storeInOwnDict
  refine wpAny_bind (wpAny_pure ?_)
  dsimp only
  rw [if_neg (by intro z; cases z)]
  refine wpAny_bind ?_
  unfold ownDictForStores instanceDict
  refine wpAny_bind (wpAny_loadPart (s := { s with toks := s.toks + 1 }) e1b ?_)
  dsimp only
  refine wpAny_bind (PySem.W.Looks.here (s := { s with toks := s.toks + 1 }) (PySem.W.looks_clsIn I.kIn hc) ?_)
  rw [hd', if_neg (by decide), if_neg (show ¬ (!true || !typeHasDict (.ref C)) = true from Bool.false_ne_true)]
  have nd : s.heap.objs.size ≠ e := Nat.ne_of_gt (Heap.lt_size e1)
  refine wpAny_bind (wpAny_alloc (wpAny_bind (wpAny_update (Heap.get?_push_of_some _ e1b) (wpAny_pure ?_))))
  show wpAny _ _ (storeInDict s.heap.objs.size (.str f s.toks) f u) _ _ _
  generalize hg1 : s.heap.push { cls := .type "dict", data := .dict #[] } = g1
  have p1 : ∀ b o, s.heap.get? b = some o → g1.get? b = some o := fun b o q => by rw [← hg1]; exact Heap.get?_push_of_some _ q
  have q1 : g1.get? s.heap.objs.size = some { cls := .type "dict", data := .dict #[] } := by rw [← hg1]; exact Heap.get?_push_size _ rfl
  have z1 : g1.objs.size = s.heap.objs.size + 1 := by rw [← hg1]; exact Heap.size_push _ _
  generalize hg2 : g1.update e (fun o => { cls := o.cls, dict := some s.heap.objs.size, data := o.data, slots := o.slots }) = g2
  have q2 : g2.get? s.heap.objs.size = some { cls := .type "dict", data := .dict #[] } := by rw [← hg2, Heap.get?_update_other _ _ (Ne.symm nd)]; exact q1
  have q2e : g2.get? e = some ⟨.ref C, some s.heap.objs.size, .fields vs, o.slots⟩ := by rw [← hg2, Heap.get?_update_self _ (p1 _ _ e1b) rfl]
  have q2o : ∀ b, b ≠ e → g2.get? b = g1.get? b := fun b hb => by rw [← hg2]; exact Heap.get?_update_other _ _ (Ne.symm hb)
  have n2 : g2.Ns s.heap.objs.size (fun _ => none) := ⟨_, #[], _, q2, rfl, (fun e he => absurd he (by simp)), fun _ => rfl⟩
  unfold storeInDict
  refine wpAny_bind (wpAny_pure (wpAny_bind (wpAny_nsSet1 (s := ⟨g2, s.gens, s.drawn, s.toks + 1, s.os⟩) (Heap.Ns1.of_empty n2) fun h3 hn3 hs3 => ?_)))
  have wi : PySem.Within (fun z => if z = f then some u else none) [f] := fun z hz => by
    by_cases q : z = f
    · simp [q]
    · exact absurd (if_neg q) hz
  obtain ⟨oD, esD, epD, hoD, hdD, hcD⟩ := hn3.count wi
  refine wpAny_bind (wpAny_lookBehind hoD (by rw [hdD]; exact pastItsLine_dict (Nat.le_trans hcD (by rw [sizeLine_eq, List.length_singleton]; decide))) ?_)
  refine wpAny_pure (hq s.heap.objs.size _ (I.hok.fresh (Nat.le_refl _)) nd ?_)
  -- the dict first, with what it holds; then the error that has it
  have kA : (s.heap.push oD).get? s.heap.objs.size = some oD := Heap.get?_push_size _ (Obj.isFreed_of_dict hdD)
  have I1 := I.laid (a := s.heap.objs.size) (o := XdO s.heap.objs.size [(f, y)]) (h' := s.heap.push oD) (t' := s.toks + 1 + 1) (fun b u q => Heap.get?_push_of_some _ q) (Nat.le_refl _)
    (xdO_ok ⟨Nat.le_of_ble_eq_true rfl, _, hn3.at fun o q => by rw [hoD] at q; cases q; exact kA, fun z => ?_, wi⟩)
  · refine I1.write (x := e) (e := e) (t' := s.toks + 1 + 1) (by rw [upd_ne (Ne.symm nd), he]; trivial) (.inl rfl) (fun b v hb q => ?_) ⟨_, hs3.extBut _ _ (Ne.symm nd) q2e⟩ (exO_ok ⟨_, vs, hs3.extBut _ _ (Ne.symm nd) q2e, rfl, rfl, rfl, e5, e6, eT⟩)
    by_cases hbd : b = s.heap.objs.size
    · subst hbd
      rw [kA] at q
      cases q
      exact hoD
    · have hlt : b < s.heap.objs.size := by
        have z := Heap.lt_size q
        have z2 : (s.heap.push oD).objs.size = s.heap.objs.size + 1 := Heap.size_push _ _
        have z3 : b < s.heap.objs.size + 1 := by rw [← z2]; exact z
        exact Nat.lt_of_le_of_ne (Nat.le_of_lt_succ z3) hbd
      have q' : s.heap.get? b = some v := by
        obtain ⟨a1, a2⟩ := Heap.get?_some_iff.mp q
        refine Heap.get?_some_iff.mpr ⟨?_, a2⟩
        have : (s.heap.objs.push oD)[b]? = some v := a1
        rw [Array.getElem?_push_lt hlt] at this
        simpa [hlt] using this
      exact hs3.extBut _ _ hbd (by rw [q2o b hb]; exact p1 _ _ q')
  · show RelO ([(f, y)].lookup z) (if z = f then some u else none)
    by_cases q : z = f
    · subst q
      rw [if_pos rfl, List.lookup_cons]
      simp
      exact ry
    · rw [if_neg q, List.lookup_cons]
      have : (z == f) = false := beq_eq_false_iff_ne.mpr q
      rw [this]
      trivial
theorem exget_ok {dx : Addr} {ar tb : Option Addr} {fs : List (Str × V)} {f : Str} {y : V} {b : Bool} {Q : Value → Shared → Prop} (g : PySem.W.hasDictIn X.K C = true) (I : Inv X pins σ H s) (he : H e = some (ExO C e (some dx) ar tb)) (hx : H dx = some (XdO dx fs)) (n : NoAttr X.K C f)
    (l : fs.lookup f = some y) (ga : ∀ {o : Obj} {od : Option Obj} {v : Value}, PySem.W.InstAt s.heap e o C od → PySem.W.findObj X.K C od f = some (.value v) → PySem.W.handedIn v = true → Q v { s with toks := s.toks + 1 } → wpAny (model X.prog X.w) A (getAttr (.ref e) f b) Q E s)
    (hq : ∀ u s', Inv X pins σ H s' → RelV y u → Q u s') : wpAny (model X.prog X.w) A (getAttr (.ref e) f b) Q E s := by
  obtain ⟨o, vs, e1, e2, e3, e4, e5, e6, eT⟩ := ex_get I he
  obtain ⟨hzl, mA, hn, rA, wA⟩ := (show XdAt dx fs s.heap from (I.hok dx _ hx).1)
  obtain ⟨oD, q, hl⟩ := lookIn_ns hn
  obtain ⟨u, hu, ru⟩ := RelO.some_of (v := y) (o := mA f) (by rw [← l]; exact rA f)
  exact ga ⟨e1, e2, by unfold PySem.W.notCls; rw [e4], by rw [e3]; exact q⟩ (PySem.W.findObj_own g n rfl (by rw [hl, hu])) (handed_of ru) (hq u _ (I.tok _) ru)
end
end L2

set_option Elab.async false
set_option linter.all false
set_option maxRecDepth 100000
namespace L2
open PySem PySem.Spec PyProof.Rows PySem.Builtin.ObjectAttr

structure ExG (K : PySem.W.Frag) (C : Addr) : Prop where
  ga : PySem.W.findIn K (.ref C) "__getattribute__" = some (some (.builtin "BaseException.__getattribute__"))
  no : PySem.W.findIn K (.ref C) "__getattr__" = some none
  be : PySem.W.mroIn K C (.type "BaseException") = some true
  hd : PySem.W.hasDictIn K C = true
  ca : PySem.W.findIn K (.ref C) "__class__" = some (some (.builtin "object.__class__"))
  cn : PySem.W.specialIn K (.builtin "object.__class__") "__get__" = some (some (.builtin "getset_descriptor.__get__"))
  ct : PySem.W.takesIn K (.builtin "object.__class__") = some true
  ob : PySem.W.mroIn K C (.type "object") = some true
  ki : PySem.W.subIn K (.ref C) (.type "int") = some false
  kb : PySem.W.subIn K (.ref C) (.type "bool") = some false
  kl : PySem.W.subIn K (.ref C) (.type "list") = some false
  kt : PySem.W.subIn K (.ref C) (.type "tuple") = some false
def foundRun (r : Found) (e C : Addr) (name : Str) : Sem PySem.Fin := match r with
  | .value v => ret v
  | .bind g a => bindTo g a (.ref e) (.ref C)
  | .missing => noSuchAttribute (.ref e) name
section
variable {prog : Program} {w : World} {A : Around} {E : Value → Shared → Prop} {s : Shared} {K : PySem.W.Frag} {e C : Addr} {o : Obj} {od : Option Obj} {name : Str}
theorem exga_by {fill expr : Bool} {tk : Tok} {r : Found} {Q : Value → Shared → Prop} (x : ExG K C) (X : K.In s.heap) (I : PySem.W.InstAt s.heap e o C od) (hf : PySem.W.findObj K C od name = some r) (hr : r ≠ .missing)
    (h : wpAny (model prog w) A.in1 (foundRun r e C name) (fun fin s' => match fin with | .done (.ret v) => wpAny (model prog w) A (handedOut v) Q E s' | _ => False) (fun _ _ => False) s) :
    wpAny (model prog w) A (getAttrBy (.ref e) (.str name tk) fill expr) Q E s := by
  have SL := PySem.F.attr_ValueError.ga
  unfold getAttrBy
  refine wpAny_holding (wpAny_bind (I.type.here (wpAny_bind ((PySem.W.looks_findIn X x.ga).here ?_))))
  dsimp only
  rw [if_neg (by rw [show (Value.builtin "BaseException.__getattribute__" == Value.builtin "object.__getattribute__") = false from by decide +kernel, Bool.and_false]; decide)]
  unfold getAttrByItsOwn
  refine wpAny_bind ((PySem.W.looks_hook (mc := .ref C) X (r := none) (by rw [if_pos (by rfl)]; exact x.no)).here (wpAny_bind (wpAny_attempt (wpAny_holding ?_))))
  unfold callGetattribute
  rw [if_neg (by rw [show onTheHeap (Value.builtin "BaseException.__getattribute__") = false from rfl, Bool.and_false]; decide)]
  unfold boundAndCalled
  rw [SL.bind]
  refine wpAny_bind (wpAny_pure ?_)
  show wpAny _ _ (call (.builtin "BaseException.__getattribute__") [.ref e, .str name tk]) _ _ _
  refine wpAny_call (codeAny_call_builtin SL.plain PySem.F.entry_bexc_ga ?_)
  refine @PySem.W.check_slot (model prog w) _ _ s "BaseException.__getattribute__" "BaseException" "__getattribute__" (.ref e) [.str name tk] [] _ (by decide +kernel) (by decide +kernel) (I.type.andThen (PySem.W.looks_mroIn X x.be)) (PySem.F.args_bexc_ga (.ref e) (.str name tk)) ?_
  delta Builtin.«object.__getattribute__»
  refine wpAny_bind (wpAny_pure (wpAny_bind (wpAny_pure (wpAny_bind (I.type.here (wpAny_bind ((PySem.W.looks_find X I hf).here ?_)))))))
  refine wpAny_mono (show wpAny (model prog w) A.in1 _ (fun fin s' => match fin with | .done (.ret v) => wpAny (model prog w) A (handedOut v) Q E s' | _ => False) (fun _ _ => False) s from ?_) (fun fin s' z => ?_) fun _ _ z => z.elim
  · cases r with
    | value v => exact h
    | bind g a => exact h
    | missing => exact absurd rfl hr
  · rcases fin with (_ | _ | _ | _) | _ <;> first | exact z | exact z.elim
theorem exga_value {v : Value} {expr : Bool} {Q : Value → Shared → Prop} (x : ExG K C) (X : K.In s.heap) (I : PySem.W.InstAt s.heap e o C od) (hf : PySem.W.findObj K C od name = some (.value v)) (hh : PySem.W.handedIn v = true)
    (h : Q v { s with toks := s.toks + 1 }) : wpAny (model prog w) A (getAttr (.ref e) name expr) Q E s := by
  unfold getAttr
  refine wpAny_bind (wpAny_mkText (exga_by (s := { s with toks := s.toks + 1 }) x X I hf (fun z => nomatch z) (wpAny_pure ?_)))
  show wpAny (model prog w) _ (handedOut v) _ _ _
  rw [PySem.W.handedOut_of hh]
  exact wpAny_pure h
theorem exga_class {Q : Option Value → Shared → Prop} (x : ExG K C) (X : K.In s.heap) (I : PySem.W.InstAt s.heap e o C od) (h : Q (some (.ref C)) { s with toks := s.toks + 1 }) : wpAny (model prog w) A (getAttr? (.ref e) "__class__") Q E s := by
  have hf : PySem.W.findObj K C od "__class__" = some (.bind (.builtin "getset_descriptor.__get__") (.builtin "object.__class__")) := by
    obtain ⟨cd, hc, _⟩ := PySem.W.any_some x.hd
    unfold PySem.W.findObj
    rw [hc, Option.bind_some, x.ca, Option.bind_some]
    simp [x.cn, x.ct]
  unfold getAttr? getAttrBy?
  refine wpAny_bind (wpAny_mkText (wpAny_bind (wpAny_attempt (exga_by (s := { s with toks := s.toks + 1 }) x X I hf (fun z => nomatch z) ?_))))
  show wpAny _ _ (holding [.builtin "object.__class__"] (call (.builtin "getset_descriptor.__get__") [.builtin "object.__class__", .ref e, .ref C]) >>= ret) _ _ _
  refine wpAny_bind (wpAny_holding (wpAny_call (PySem.W.class_get (s := { s with toks := s.toks + 1 }) X I x.ob ?_)))
  refine wpAny_pure ?_
  show wpAny _ _ (handedOut (.ref C)) _ _ _
  rw [PySem.W.handedOut_of rfl]
  refine wpAny_pure ?_
  exact wpAny_pure h
theorem kitx_exc {dx ar tb : Option Addr} (x : ExG K C) : PySem.W.KitX K (.ref e) (.ref C) (fun h => ExAt C e dx ar tb h ∧ ∀ d, dx = some d → ∃ oD, h.get? d = some oD) where
  ty := fun _ h X p => by
    obtain ⟨⟨o, vs, e1, e2, _⟩, _⟩ := p
    exact e2 ▸ (PySem.W.Looks.ld e1).andThen .now
  it := fun _ _ X _ => by
    obtain ⟨cdD, hcD, _⟩ := PySem.W.any_some x.hd
    unfold PySem.W.clsIn at hcD
    split at hcD
    · rename_i c' d' cd' sl' ho
      intro A' Q' E' s' k q
      have hk := k _ _ (X _ _ ho)
      unfold isType loadHead
      exact wpAny_bind (wpAny_loadPart hk (wpAny_pure q))
    · cases hcD
  ne := fun _ tp _ _ _ _ X htp => by
    obtain ⟨cdD, hcD, _⟩ := PySem.W.any_some x.hd
    by_cases z : C = tp
    case neg => exact Bool.eq_false_iff.mpr (fun q => z (Value.ref.inj (beq_iff_eq.mp q)))
    subst z
    unfold PySem.W.clsIn at hcD
    split at hcD
    · rename_i c' d' cd' sl' ho
      exact nomatch (X _ _ ho).symm.trans htp
    · cases hcD
  ca := fun X p k => by
    obtain ⟨⟨o, vs, e1, e2, e3, e4, _⟩, hD⟩ := p
    cases dx with
    | none => exact exga_class (od := none) x X ⟨e1, e2, by unfold PySem.W.notCls; rw [e4], by rw [e3]; trivial⟩ k
    | some d =>
      obtain ⟨oD, q⟩ := hD d rfl
      exact exga_class (od := some oD) x X ⟨e1, e2, by unfold PySem.W.notCls; rw [e4], by rw [e3]; exact q⟩ k
end
end L2

set_option Elab.async false
set_option linter.all false
set_option maxRecDepth 100000
namespace L2
open PySem PySem.Spec PyProof.Rows

inductive Thg (K : PySem.W.Frag) (H : Hp) : V → Value → Prop where
  | non : Thg K H .non (.type "NoneType")
  | bl (x : Bool) : Thg K H (.bl x) (.type "bool")
  | int (i : Int) : Thg K H (.int i) (.type "int")
  | str (x : Str) : Thg K H (.str x) (.type "str")
  | lst {a : Addr} {xs : List V} (e : H a = some (.lst xs)) : Thg K H (.ref a) (.type "list")
  | frz {a : Addr} {o : Obj} {xs : List V} (e : H a = some (.frz o (.lst xs))) : Thg K H (.ref a) (.type "list")
  | tup {a : Addr} {xs : List V} (e : H a = some (.tup xs)) : Thg K H (.ref a) (.type "tuple")
  | dK {a : Addr} {kvs : List (Key × V)} (e : H a = some (.dK kvs)) : Thg K H (.ref a) (.type "dict")
  | exc {a C : Addr} {dx : Addr} {ar tb : Option Addr} {u : HO} (e : H a = some (ExO C a (some dx) ar tb)) (d : H dx = some u) (x : ExG K C) : Thg K H (.ref a) (.ref C)
  | exn {a C : Addr} {ar tb : Option Addr} (e : H a = some (ExO C a none ar tb)) (x : ExG K C) : Thg K H (.ref a) (.ref C)
theorem Thg.keep {K : PySem.W.Frag} {H H' : Hp} {v : V} {t : Value} (x : Thg K H v t) (k : ∀ a o, H a = some o → H' a = some o) : Thg K H' v t := by
  cases x with
  | non => exact .non
  | bl x => exact .bl x
  | int i => exact .int i
  | str x => exact .str x
  | lst e => exact .lst (k _ _ e)
  | frz e => exact .frz (k _ _ e)
  | tup e => exact .tup (k _ _ e)
  | dK e => exact .dK (k _ _ e)
  | exc e d x => exact .exc (k _ _ e) (k _ _ d) x
  | exn e x => exact .exn (k _ _ e) x
section
variable {X : Cx} {pins : List (Addr × Obj)} {σ : St} {H : Hp} {s : Shared}
theorem ObjOk.there {P : Program} {w : World} {H : Hp} {h : Heap} {a : Addr} {o : HO} (x : ObjOk P w H h a o) : ∃ ob, h.get? a = some ob := by
  cases o with
  | lst xs => obtain ⟨_, _, _, _, e⟩ := x; exact ⟨_, e⟩
  | tup xs => obtain ⟨_, _, _, ⟨ob, e, _⟩, _⟩ := x; exact ⟨ob, e⟩
  | dK kvs => obtain ⟨_, _, _, _, o, _, _, e, _⟩ := x; exact ⟨o, e⟩
  | dT kvs => obtain ⟨_, _, _, _, o, _, _, e, _⟩ := x; exact ⟨o, e⟩
  | set S n => obtain ⟨o, _, _, _, e, _⟩ := x; exact ⟨o, e⟩
  | ins C dx fs => obtain ⟨_, _, _, e, _⟩ := x; exact ⟨_, e⟩
  | own y => exact x
  | xd fs => obtain ⟨_, ⟨o, _, _, e, _⟩, _⟩ := x; exact ⟨o, e⟩
  | rng lo hi => obtain ⟨_, _, _, e⟩ := x; exact ⟨_, e⟩
  | frz ob u => obtain ⟨e, _⟩ := x; exact ⟨ob, e⟩
  | tbl ps => exact ⟨_, x⟩
  | met f y => exact ⟨_, x⟩
  | ext φ => exact x.2.1
theorem Thg.kit {v : V} {u t : Value} (I : Inv X pins σ H s) (r : RelV v u) (x : Thg X.K H v t) : u ≠ .builtin "__main__.__loader__#opaque" ∧ ∃ φ, PySem.W.KitX X.K u t φ ∧ φ s.heap := by
  cases x with
  | non => cases (show u = Value.none from r); exact ⟨(fun z => nomatch z), _, PySem.W.kitx_none, True.intro⟩
  | bl y => cases (show u = Value.bool y from r); exact ⟨(fun z => nomatch z), _, PySem.W.kitx_bool, True.intro⟩
  | int i => obtain ⟨t, q⟩ := (show ∃ t, u = Value.int i t from r); cases q; exact ⟨(fun z => nomatch z), _, PySem.W.kitx_int, True.intro⟩
  | str y => obtain ⟨t, q⟩ := (show ∃ t, u = Value.str y t from r); cases q; exact ⟨(fun z => nomatch z), _, PySem.W.kitx_str, True.intro⟩
  | @lst a xs ea =>
    cases (show u = Value.ref a from r)
    obtain ⟨_, _, n, _, h1⟩ := (show ObjOk X.prog X.w H s.heap a (.lst xs) from I.hok a _ ea)
    exact ⟨(fun z => nomatch z), _, PySem.W.kitx_list, ⟨_, h1, rfl⟩⟩
  | @frz a ob xs ea =>
    cases (show u = Value.ref a from r)
    obtain ⟨_, _, _, n, _, h1⟩ := (show ObjOk X.prog X.w H s.heap a (.frz ob (.lst xs)) from I.hok a _ ea)
    exact ⟨(fun z => nomatch z), _, PySem.W.kitx_list, ⟨_, h1, rfl⟩⟩
  | @tup a xs ea =>
    cases (show u = Value.ref a from r)
    obtain ⟨_, _, _, p, _⟩ := (show ObjOk X.prog X.w H s.heap a (.tup xs) from I.hok a _ ea)
    obtain ⟨o, h1, h2, _⟩ := p
    exact ⟨(fun z => nomatch z), _, PySem.W.kitx_tuple, ⟨o, h1, h2⟩⟩
  | @dK a kvs ea =>
    cases (show u = Value.ref a from r)
    obtain ⟨_, _, vs, _, p⟩ := (show ObjOk X.prog X.w H s.heap a (.dK kvs) from I.hok a _ ea)
    obtain ⟨o, es, ep, h1, h2, _⟩ := p
    exact ⟨(fun z => nomatch z), _, PySem.W.kitx_dict, ⟨o, h1, h2.1⟩⟩
  | @exc a C dx ar tb w ea ed x =>
    cases (show u = Value.ref a from r)
    refine ⟨(fun z => nomatch z), _, kitx_exc (dx := some dx) x, (I.hok a _ ea).1, fun d hd => ?_⟩
    cases hd
    exact (I.hok dx _ ed).there
  | @exn a C ar tb ea x =>
    cases (show u = Value.ref a from r)
    exact ⟨(fun z => nomatch z), _, kitx_exc (dx := none) x, (I.hok a _ ea).1, fun d hd => nomatch hd⟩
def vOf : V → Value
  | .ty n => .type n
  | .ref a => .ref a
  | _ => .none
theorem vals_vOf : ∀ {cs : List V} {us : List Value}, Vals cs us → (∀ c ∈ cs, (∃ n, c = .ty n) ∨ ∃ a, c = .ref a) → us = cs.map vOf
  | _, _, .nil, _ => rfl
  | c :: cs, u :: us, .cons r t, h => by
    rw [List.map_cons, vals_vOf t fun c hc => h c (List.mem_cons_of_mem _ hc)]
    rcases h c List.mem_cons_self with ⟨n, rfl⟩ | ⟨a, rfl⟩
    · cases (show u = Value.type n from r); rfl
    · cases (show u = Value.ref a from r); rfl
def rInst (K : PySem.W.Frag) : List V → Hp → VK → Prop := fun xs H Q => ∃ v c t b, xs = [v, c] ∧ Thg K H v t ∧
  ((∃ T, c = .ty T ∧ PySem.W.kitOne K t (.type T) = some b) ∨ (∃ C, c = .ref C ∧ PySem.W.kitOne K t (.ref C) = some b) ∨
    ∃ tp cs, c = .ref tp ∧ H tp = some (.tup cs) ∧ (∀ c ∈ cs, (∃ n, c = .ty n) ∨ ∃ a, c = .ref a) ∧ PySem.W.kitAny K t (cs.map vOf) = some b) ∧ Q (.bl b) H
theorem call_inst : CallR X (.builtin "isinstance") (rInst X.K) := by
  intro pins s σ H xs us Q I r h
  obtain ⟨v, c, t, b, rfl, x, hc, q⟩ := h
  obtain ⟨u, u', rfl, ru, ru'⟩ := vals2 r
  obtain ⟨hx, φ, Z, p⟩ := x.kit I ru
  have fin : ∀ tk, EP X pins σ Q (.bool b) { s with toks := tk } := fun tk => ⟨.bl b, H, I.tok tk, rfl, q⟩
  rcases hc with ⟨T, rfl, e⟩ | ⟨C, rfl, e⟩ | ⟨tp, cs, rfl, ht, hcs, e⟩
  · cases (show u' = Value.type T from ru')
    exact PySem.W.kia_one Z I.kIn p e hx fin
  · cases (show u' = Value.ref C from ru')
    exact PySem.W.kia_one Z I.kIn p e hx fin
  · cases (show u' = Value.ref tp from ru')
    obtain ⟨_, its, rv, ⟨o, h1, h2, n, h3⟩, _⟩ := (show ObjOk X.prog X.w H s.heap tp (.tup cs) from I.hok tp _ ht)
    rcases o with ⟨oc, od, odt, osl⟩
    cases (show oc = _ from h2)
    cases (show odt = _ from h3)
    rw [← vals_vOf rv hcs] at e
    exact PySem.W.kia_tup Z I.kIn p h1 e hx fin
end

section
variable {X : Cx} {C T fI : Addr}
def tEx (C : Addr) (sp : Sp) (t : TA) : TE := fun σ H Q => t σ H fun vs H1 => vs.length ≤ sizeLine ∧ ∀ e, H1 e = none → sp (.ref e :: vs) (upd H1 e (ExO C e none none none)) (fun v H2 => v = .non ∧ Q (.ref e) H2) E0
theorem pe_exc {k : Nat} {fd : FuncData} {ps : List Str} {sp : Sp} {x : Str} {p pos : Pos} {e : Expr} {es : List Expr} {t : TA} (M : ExF X.K C T fI) (F : FnOk X.prog X.w X.K X.mg X.base CX0 k fI fd ps sp) (hr : Room (k + 1) X.A) (hg : Gl X x) (hm : X.mg x = some (.ref C))
    (hb : Binds X.K fd ps []) (ha : PA X (e :: es) t) (hdb : (x == ("__debug__" : Str)) = false := by decide) (he : starEach (e :: es) X.env = (false, eval e X.env) :: starEach es X.env := by rfl) (hpl : (backTo pos (starEach es X.env)).any (·.1) = false := by rfl) :
    PE X (.Call (.Name x p) (e :: es) [] pos) (tEx C sp t) := by
  intro pins s σ H Q I h
  refine wpAny_Call_Name_kw (ld_glob I hg hm ?_ hdb)
  refine PySem.W.callWith_K (h₀ := X.base) I.ok.mod.kin M.kp (thn (ha pos pins s σ H _ I h) fun us s1 ⟨vs, H1, I1, r, hz, q⟩ => ⟨I1.kIn, ?_⟩) he hpl
  obtain ⟨hp, g, d, tk, os⟩ := s1
  refine exc_call M.toExC I1.kIn (fun h' e hm hle => ?_) (by rw [List.nil_append, ← r.length]; exact hz)
  obtain ⟨hk, hn, tt, h1, _, h2⟩ := hm
  have I2 : Inv X pins σ (upd H1 e (ExO C e none none none)) ⟨h', g, d, tk, os⟩ := I1.laid (a := e) (o := ExO C e none none none) (h' := h') (t' := tk) hk hle (exO_ok ⟨_, _, h1, rfl, rfl, rfl, by show 0 < 6; decide, (fun t z => nomatch z), rfl⟩)
  have hq := q e (I1.hok.fresh hle)
  have r2 : Vals (V.ref e :: vs) (Value.ref e :: us) := .cons rfl r
  have hl : (Value.ref e :: us ++ []).length = ps.length := by
    have e1 := r2.length
    rw [F.len _ _ _ _ hq] at e1
    rw [List.append_nil]
    exact e1.symm
  have hbb := hb ⟨h', g, d, tk, os⟩ (Value.ref e :: us) I2.kIn hl
  rw [List.append_nil] at hbb
  refine wpAny_call (codeAny_mono (F.run _ X.stack _ _ ⟨Value.ref e :: us, []⟩ (Value.ref e :: us) _ _ E0 (hr.make C us []) (I2.env0.make C us []) hbb r2 hq) fun rr s' hq' => ?_)
  cases rr with
  | error e => exact False.elim hq'
  | ok fl =>
    cases fl with
    | ret u =>
      obtain ⟨v, H', I3, rv, ev, q3⟩ := I2.after hq'
      subst ev
      exact ⟨rv, ⟨V.ref e, H', I3, rfl, q3⟩⟩
    | next => exact False.elim hq'
    | brk => exact False.elim hq'
    | cont => exact False.elim hq'
def tBI (C : Addr) (t : TA) : TE := fun σ H Q => t σ H fun vs H1 => ∃ e dx ar tb rest, vs = .ref e :: rest ∧ rest.length ≤ sizeLine ∧ H1 e = some (ExO C e dx ar tb) ∧ ∀ t, H1 t = none → t ≠ e → Q .non (upd (upd H1 t (.tup rest)) e (ExO C e dx (some t) tb))
theorem pe_baseInit {pl : Sem Bool} {x : Str} {p apos pos : Pos} {e : Expr} {es : List Expr} {t : TA} (M : ExF X.K C T fI) (B : BaseInit X.K T) (hg : Gl X x) (hm : X.mg x = some (.ref T)) (ha : PA X (e :: es) t)
    (hdb : (x == ("__debug__" : Str)) = false := by decide) (he : starEach (e :: es) X.env = (false, eval e X.env) :: starEach es X.env := by rfl) (hpl : (backTo pos (starEach es X.env)).any (·.1) = false := by rfl)
    (ht : eval (.Call (.Attribute (.Name x p) "__init__" apos) (e :: es) [] pos) X.env = (do
      let ov ← eval (.Name x p) X.env
      standAt apos.atName
      let (f, first) ← holding [ov] (getMethod ov "__init__" pl)
      callWith pos f first (backTo pos (starEach (e :: es) X.env)) (backToKw pos (keywordEach [] X.env))) := by rfl) :
    PE X (.Call (.Attribute (.Name x p) "__init__" apos) (e :: es) [] pos) (tBI C t) := by
  intro pins s σ H Q I h
  refine PySem.W.methodCall_KW (pl := pl) (ld_glob I hg hm ?_ hdb) ht
  refine PySem.W.method_cls I.kIn B.ga (PySem.W.cls_value I.kIn B.rd B.at_ (by decide +kernel) ?_)
  refine PyProof.Rows.callWith_builtin1 (thn (ha pos pins { s with toks := s.toks + 1 } σ H _ (I.tok _) h) fun us s1 ⟨vs, H1, I1, r, q⟩ => ?_) he hpl
  obtain ⟨e', dx, ar, tb, rest, rfl, hz, hE, q⟩ := q
  cases r with
  | cons r1 r2 =>
    cases r1
    exact init_text M I1 hE r2 (by rw [← r2.length]; exact hz) fun t s' f1 f2 I' => ⟨.non, _, I', rfl, q t f1 f2⟩
def sExF (K : PySem.W.Frag) (C : Addr) (ta tv : TE) (f : Str) : TS := fun D σ H => tv σ H fun y H1 => ta σ H1 fun x H2 => ∃ e ar tb, x = .ref e ∧ H2 e = some (ExO C e none ar tb) ∧ NoAttr K C f ∧
  ∀ dx, H2 dx = none → dx ≠ e → D.nx σ (upd (upd H2 dx (XdO dx [(f, y)])) e (ExO C e (some dx) ar tb))
theorem ps_exf {o value : Expr} {f : Str} {pos pos' : Pos} {ta tv : TE} (M : ExF X.K C T fI) (ha : PE X o ta) (hv : PE X value tv) (hs : swapsWith value (some (.Attribute o f pos')) pos.line X.env = pure false) : PS X (.Assign [.Attribute o f pos'] value pos) (sExF X.K C ta tv f) := by
  intro pins s σ H D I h
  refine plainObj_wpAny_Assign_Attribute (thn (hv pins s σ H _ I h) fun u s1 ⟨y, H1, I1, ry, q⟩ => thn (ha pins s1 σ H1 _ I1 q) fun ov s2 ⟨x, H2, I2, rx, e, ar, tb, ex, ea, n, q2⟩ => ?_) hs
  subst ex
  obtain rfl : ov = Value.ref e := rx
  exact exset_ok M I2 ea n ry fun dx s3 h1 h2 I3 => ⟨σ, _, I3, q2 dx h1 h2⟩
def tExFld (K : PySem.W.Frag) (ta : TE) (f : Str) : TE := fun σ H Q => ta σ H fun x H1 => ∃ e C dx ar tb fs y, x = .ref e ∧ H1 e = some (ExO C e (some dx) ar tb) ∧ H1 dx = some (XdO dx fs) ∧ ExG K C ∧ NoAttr K C f ∧ fs.lookup f = some y ∧ Q y H1
theorem pe_exfld {e : Expr} {f : Str} {pos : Pos} {ta : TE} (he : PE X e ta) (hb : attributeBase e f X.env (eval e X.env) = eval e X.env) : PE X (.Attribute e f pos) (tExFld X.K ta f) := by
  intro pins s σ H Q I h
  refine attr_of hb (thn (he pins s σ H _ I h) fun u s1 ⟨x, H1, I1, rx, a, C, dx, ar, tb, fs, y, ex, ea, ed, g, n, l, q⟩ => ?_)
  subst ex
  obtain rfl : u = Value.ref a := rx
  exact exget_ok g.hd I1 ea ed n l (fun J hf hh hq => exga_value g I1.kIn J hf hh hq) fun u' s2 I2 ru => ⟨y, H1, I2, ru, q⟩
end
end L2

set_option Elab.async false
set_option linter.all false
set_option maxRecDepth 100000
namespace L2
open PySem PySem.Spec PyProof.Rows
structure ExS (K : PySem.W.Frag) (C : Addr) (nm : String) : Prop where
  rp : PySem.W.findIn K (.ref C) "__repr__" = some (some (.builtin "BaseException.__repr__"))
  be : PySem.W.mroIn K C (.type "BaseException") = some true
  nm : ∃ cd, PySem.W.clsIn K C = some cd ∧ cd.name.toString = nm
section
variable {prog : Program} {w : World} {A : Around} {E : Value → Shared → Prop} {s : Shared} {K : PySem.W.Frag} {e C t : Addr} {o : Obj} {od : Option Obj} {vs : Array Value} {m : Str} {tk : Tok} {nm : String}
def KBp (p : Addr) (H H' : Hp) : Prop := ∀ b o, H b = some o → b ≠ p → H' b = some o
def Shw (P : Program) (w : World) (K : PySem.W.Frag) (p : Addr) (H : Hp) (as : List Addr) (d : Nat) (v : V) (t : Str) : Prop :=
  ∀ (X : Cx) (pins : List (Addr × Obj)) (σ : St) (H' : Hp) (s : Shared) (u : Value), X.prog = P → X.w = w → X.K = K → Inv X pins σ H' s → KBp p H H' → RelV v u → ReprK P w as s.heap d u t
variable {P : Program} {p : Addr} {H H' : Hp} {as as' : List Addr} {d d' : Nat} {v : V} {tx : Str}
theorem Shw.keep (h : Shw P w K p H as d v tx) (k : KBp p H H') : Shw P w K p H' as d v tx := fun X pins σ H2 s u e1 e2 e3 I k2 r => h X pins σ H2 s u e1 e2 e3 I (fun b o q n => k2 b o (k b o q n) n) r
theorem Shw.more (h : Shw P w K p H as d v tx) (hs : ∀ b ∈ as, b ∈ as') (hd : d ≤ d') : Shw P w K p H as' d' v tx := fun X pins σ H2 s u e1 e2 e3 I k r => ((h X pins σ H2 s u e1 e2 e3 I k r).more hs).level_le hd
inductive ShwAll (P : Program) (w : World) (K : PySem.W.Frag) (p : Addr) (H : Hp) (as : List Addr) (d : Nat) : List V → List Str → Prop
  | nil : ShwAll P w K p H as d [] []
  | cons {v : V} {t : Str} {vs : List V} {ts : List Str} : Shw P w K p H as d v t → ShwAll P w K p H as d vs ts → ShwAll P w K p H as d (v :: vs) (t :: ts)
end
end L2

set_option Elab.async false
set_option linter.all false
set_option maxRecDepth 100000
namespace L2
open PySem PySem.Spec PyProof.Rows
section
variable {w : World} {K : PySem.W.Frag} {P : Program} {p : Addr} {H H' : Hp} {as as' : List Addr} {d d' : Nat} {v : V} {tx : Str}
end
end L2

set_option Elab.async false
set_option linter.all false
set_option maxRecDepth 100000
namespace L2
open PySem PySem.Spec PyProof.Rows
structure ExT (K : PySem.W.Frag) (T : Addr) : Prop where
  cls : ∃ (nm q : Str) (N : Addr) (bs : List Value) (hdct : Bool) (sn : List Str) (sub : List Value) (ab : Bool) (col : Option Bool) (dd : Option Addr) (k0 k1 k2 k3 k5 : Option Value),
    K.lookup T = some (excClassObj nm q T N bs bmV hdct sn sub ab col dd k0 k1 k2 k3 k5 "ValueError.__new__")
  init : PySem.W.findIn K (.ref T) "__init__" = some (some (.builtin "ValueError.__init__"))
  kp : PySem.W.keepIn K (.ref T) = true
section
variable {prog : Program} {w : World} {A : Around} {E : Value → Shared → Prop} {K : PySem.W.Frag} {T : Addr} {h : Heap} {g : Array GenState} {d : Drawn} {t : Nat} {os : OsState}
end
section
variable {X : Cx} {pins : List (Addr × Obj)} {σ : St} {H : Hp} {s : Shared} {T e : Addr} {A : Around} {E : Value → Shared → Prop}
end
end L2

set_option Elab.async false
set_option linter.all false
set_option maxRecDepth 100000
namespace L2
open PySem PySem.Spec PyProof.Rows
section
variable {X : Cx} {pins : List (Addr × Obj)} {σ : St} {H : Hp} {s : Shared} {h' : Heap} {C e : Addr} {A : Around} {E : Value → Shared → Prop}
theorem Inv.slots (I : Inv X pins σ H s) (x : Heap.SlotsOnly (frs X.stack) s.heap h') : Inv X pins σ H { s with heap := h' } := by
  have nf : ∀ b o, H b = some o → b ∉ frs X.stack := fun b o q m => by rw [I.stkFree b m] at q; cases q
  refine I.call (g' := s.gens) (t' := s.toks) (d' := s.drawn) (ch := []) ⟨fun b o q n hb _ => (x.2.1 b hb).trans q, fun b o q _ _ _ => x.2.2 b o q, fun _ _ _ n _ => n, fun b o q _ => let ⟨_, z⟩ := x.2.2 b o q; ⟨_, z⟩, fun _ _ q => q, fun _ _ _ q => q, fun b ps q => ⟨#[], by rw [q]; simp⟩⟩ (fun a o q => ?_) I.bare (fun _ z => nomatch z)
  refine (I.hok a o q).stay (fun b u hb z => ?_) (fun _ z => z) fun _ _ z => z
  rcases hb with rfl | hb
  · exact (x.2.1 _ (nf _ _ q)).trans z
  · exact (x.2.1 _ (nf _ _ hb)).trans z
def TbAt (b : Addr) (h : Heap) : Prop := ∃ (o : Obj) (ts : Array Value), h.get? b = some o ∧ o.data = .fields ts ∧ ts[3]? = some .none
def TbO (b : Addr) : HO := .ext (TbAt b)
theorem tbO_ok {P : Program} {w : World} {H : Hp} {h : Heap} {b : Addr} (x : TbAt b h) : ObjOk P w H h b (TbO b) := by
  refine ⟨x, ?_, fun h1 h2 q k => ?_⟩
  · obtain ⟨o, _, e1, _⟩ := x
    exact ⟨o, e1⟩
  · obtain ⟨o, ts, e1, r⟩ := q
    exact ⟨o, ts, k o e1, r⟩
theorem note_ok {dx ar tb : Option Addr} {Q : Unit → Shared → Prop} (hst : X.stack = X.env :: X.outer) (hfr : X.env.frame = some X.env.locals) (I : Inv X pins σ H s) (he : H e = some (ExO C e dx ar tb)) (ht : ∀ b, tb = some b → H b = some (TbO b) ∧ b ≠ e)
    (hA : A.frames = some X.stack) (hq : ∀ b' s', H b' = none → b' ≠ e → Inv X pins σ (upd (upd H b' (TbO b')) e (ExO C e dx ar (some b'))) s' → Q () s') : wpAny (model X.prog X.w) A (noteFrame (.ref e) X.env) (fun _ s' => wpAny (model X.prog X.w) A (setFlight (.ref e) none) Q E s') E s := by
  obtain ⟨o, vs, e1, e2, e3, e4, e5, e6, eT⟩ := ex_get I he
  have h1 : 1 < vs.size := (Array.getElem?_eq_some_iff.mp eT).1
  -- the entry is made, stored, and its flight is ended
  have tail : ∀ {s1 : Shared} {hd : Value} {nx : Bool}, Inv X pins σ H s1 → s1.heap.get? e = some o → wpAny (model X.prog X.w) A (do let a ← frameOf X.env; let pl ← entryPlaceOf X.env.locals nx; let b ← EntryCells.newEntry hd a .none (rawInt X.env.locals) .none pl; setField (.ref e) 1 b)
      (fun _ s2 => wpAny (model X.prog X.w) A (setFlight (.ref e) none) Q E s2) E s1 := fun {s1 hd nx} I1 q1 => by
    rw [hst] at hA
    have fr : s1.heap.FunFrames X.base (X.env :: X.outer) := by have := I1.stack; rw [hst] at this; exact this
    refine wpAny_bind (wpAny_frameOf_fun hA fr hfr fun h2 hs2 => ?_)
    have I2 : Inv X pins σ H { s1 with heap := h2 } := I1.slots (by rw [hst]; exact hs2)
    have ne : e ∉ (X.env :: X.outer).filterMap (·.frame) := fun m => by
      have := I1.stkFree e (by rw [hst]; exact m)
      rw [he] at this
      cases this
    have q2 : h2.get? e = some o := (hs2.2.1 e ne).trans q1
    refine wpAny_bind (wpAny_entryPlaceOf fun pl hpl => ?_)
    unfold EntryCells.newEntry newFields
    refine wpAny_bind (wpAny_newObj_type ?_ (hpl.sizeOk5 _ _ _ _ _))
    generalize hob : ({ cls := .type "traceback", data := .fields ([hd, .ref X.env.locals, .none, rawInt X.env.locals, .none] ++ (if pl.isEmpty then List.replicate 6 Value.none else pl)).toArray } : Obj) = ob
    have obd : ∃ ts, ob.data = .fields ts ∧ 3 < ts.size := by
      rw [← hob]
      exact ⟨_, rfl, by simp⟩
    obtain ⟨ts, d1, d2⟩ := obd
    have nb : h2.objs.size ≠ e := Nat.ne_of_gt (Heap.lt_size q2)
    have q3 := Heap.get?_push_of_some (h := h2) ob q2
    refine wpAny_setField q3 e4 h1 ?_
    have d3 := Obj.data_mapFields e4 (·.setIfInBounds 1 (Value.ref h2.objs.size))
    have q4 := Heap.get?_update_self (Obj.mapFields (·.setIfInBounds 1 (Value.ref h2.objs.size))) q3 (Obj.isFreed_of_fields d3)
    have q5 : ((h2.push ob).update e (Obj.mapFields (·.setIfInBounds 1 (Value.ref h2.objs.size)))).get? h2.objs.size = some ob := (Heap.get?_update_other _ _ (Ne.symm nb)).trans (Heap.get?_push_size h2 (Obj.isFreed_of_fields d1))
    unfold setFlight
    refine wpAny_bind (wpAny_field q4 d3 (x := .ref h2.objs.size) (by simp [h1]) ?_)
    rw [if_pos (show (Value.ref h2.objs.size != Value.none) = true from by simp)]
    refine wpAny_setField q5 d1 d2 ?_
    generalize hh3 : (h2.push ob).update e (Obj.mapFields (·.setIfInBounds 1 (Value.ref h2.objs.size))) = h3 at q4 q5
    have d5 := Obj.data_mapFields d1 (·.setIfInBounds 3 Value.none)
    have q6 := Heap.get?_update_self (Obj.mapFields (·.setIfInBounds 3 Value.none)) q5 (Obj.isFreed_of_fields d5)
    have q7 : (h3.update h2.objs.size (Obj.mapFields (·.setIfInBounds 3 Value.none))).get? e = some (Obj.mapFields (·.setIfInBounds 1 (Value.ref h2.objs.size)) o) := (Heap.get?_update_other _ _ nb).trans q4
    have fb : H h2.objs.size = none := I2.hok.fresh (Nat.le_refl _)
    refine hq h2.objs.size _ fb nb ?_
    -- first the entry, as it stands at last; then the error
    have obf : (Obj.mapFields (·.setIfInBounds 3 Value.none) ob).isFreed = false := Obj.isFreed_of_fields d5
    have I3 := I2.laid (a := h2.objs.size) (o := TbO h2.objs.size) (h' := h2.push (Obj.mapFields (·.setIfInBounds 3 Value.none) ob)) (t' := s1.toks) (fun b u q => Heap.get?_push_of_some _ q) (Nat.le_refl _)
      (tbO_ok ⟨_, _, Heap.get?_push_size h2 obf, d5, by simp [d2]⟩)
    refine I3.write (x := e) (e := e) (t' := s1.toks) (by rw [upd_ne (Ne.symm nb), he]; trivial) (.inl rfl) (fun b u hb q => ?_) ⟨_, q7⟩ (exO_ok ⟨_, _, q7, (Obj.cls_mapFields ..).trans e2, ?_, d3, by simpa using e5, fun t z => ?_, by simp [h1, tbV]⟩)
    · by_cases hbd : b = h2.objs.size
      · subst hbd
        rw [Heap.get?_push_size h2 obf] at q
        cases q
        exact q6
      · rw [Heap.get?_update_other _ _ (Ne.symm hbd), ← hh3, Heap.get?_update_other _ _ (Ne.symm hb)]
        have hlt : b < h2.objs.size := by
          have z := Heap.lt_size q
          have z2 : (h2.push (Obj.mapFields (·.setIfInBounds 3 Value.none) ob)).objs.size = h2.objs.size + 1 := Heap.size_push _ _
          have z3 : b < h2.objs.size + 1 := by rw [← z2]; exact z
          exact Nat.lt_of_le_of_ne (Nat.le_of_lt_succ z3) hbd
        have q' : h2.get? b = some u := by
          obtain ⟨a1, a2⟩ := Heap.get?_some_iff.mp q
          refine Heap.get?_some_iff.mpr ⟨?_, a2⟩
          have : (h2.objs.push (Obj.mapFields (·.setIfInBounds 3 Value.none) ob))[b]? = some u := a1
          rw [Array.getElem?_push_lt hlt] at this
          simpa [hlt] using this
        exact Heap.get?_push_of_some _ q'
    · have : (Obj.mapFields (·.setIfInBounds 1 (Value.ref h2.objs.size)) o).dict = o.dict := by
        rcases o with ⟨oc, od, odt, osl⟩
        cases (show odt = _ from e4)
        rfl
      rw [this, e3]
    · rw [Array.getElem?_setIfInBounds_ne (by decide)]
      exact e6 t z
  unfold noteFrame
  simp only [hfr]
  refine wpAny_bind (wpAny_field e1 e4 eT ?_)
  cases tb with
  | none =>
    rw [if_neg (show ¬ ((tbV none != Value.none) = true) from by simp [tbV])]
    exact tail I e1
  | some b =>
    obtain ⟨hb, nb⟩ := ht b rfl
    obtain ⟨ob, ts, b1, b2, b3⟩ := (show TbAt b s.heap from (I.hok b _ hb).1)
    have b4 : 3 < ts.size := (Array.getElem?_eq_some_iff.mp b3).1
    rw [if_pos (show (tbV (some b) != Value.none) = true from by simp [tbV])]
    refine wpAny_bind (wpAny_field b1 b2 b3 ?_)
    rw [if_neg (show ¬ ((Value.none == rawInt X.env.locals) = true) from by simp [rawInt])]
    refine wpAny_bind (wpAny_setField b1 b2 b4 ?_)
    have d5 := Obj.data_mapFields b2 (·.setIfInBounds 3 Value.none)
    have q6 := Heap.get?_update_self (Obj.mapFields (·.setIfInBounds 3 Value.none)) b1 (Obj.isFreed_of_fields d5)
    have I1 := I.write (x := b) (e := b) (o := TbO b) (t' := s.toks) (h' := s.heap.update b (Obj.mapFields (·.setIfInBounds 3 Value.none))) (by rw [hb]; trivial) (.inl rfl) (fun c u hc q => (Heap.get?_update_other _ _ (Ne.symm hc)).trans q) ⟨_, q6⟩ (tbO_ok ⟨_, _, q6, d5, by simp [b4]⟩)
    have eH : upd H b (TbO b) = H := by
      funext c
      by_cases hc : c = b
      · rw [hc, upd_same, hb]
      · rw [upd_ne hc]
    rw [eH] at I1
    exact tail I1 ((Heap.get?_update_other _ _ nb).trans e1)
theorem leave_ok {dx ar tb : Option Addr} {Q : Unit → Shared → Prop} (hst : X.stack = X.env :: X.outer) (hfr : X.env.frame = some X.env.locals) (I : Inv X pins σ H s) (he : H e = some (ExO C e dx ar tb)) (ht : ∀ b, tb = some b → H b = some (TbO b) ∧ b ≠ e)
    (hA : A.frames = some X.stack) (hq : ∀ b' s', H b' = none → b' ≠ e → Inv X pins σ (upd (upd H b' (TbO b')) e (ExO C e dx ar (some b'))) s' → Q () s') : wpAny (model X.prog X.w) A (leaving X.env (.ref e)) Q E s := by
  unfold leaving
  exact wpAny_bind (note_ok hst hfr I he ht hA hq)
end
end L2

set_option Elab.async false
set_option linter.all false
set_option maxRecDepth 100000
namespace L2
open PySem PySem.Spec PyProof.Rows
def CXo (P : Program) (w : World) : CXT := fun outer H s E e s' => CE outer P w H s (fun v H' => (∃ a, v = .ref a) ∧ E e none H') e s'
def Fly (C e : Addr) (dx ar tb : Option Addr) (H : Hp) : Prop := H e = some (ExO C e dx ar tb) ∧ ∀ b, tb = some b → H b = some (TbO b) ∧ b ≠ e
def past (H : Hp) (C e : Addr) (dx ar : Option Addr) (b : Addr) : Hp := upd (upd H b (TbO b)) e (ExO C e dx ar (some b))
def Outs (X : Cx) (E : XK) : Prop := ∀ (pins : List (Addr × Obj)) (σ : St) (H : Hp) (s : Shared) (C e : Addr) (dx ar tb : Option Addr), Inv X pins σ H s → Fly C e dx ar tb H → (∀ b, H b = none → b ≠ e → E (.ref e) none (past H C e dx ar b)) → X.xe (.ref e) s
theorem outs_def {P : Program} {w : World} {K : PySem.W.Frag} {mg : Str → Option Value} {base : Heap} {N : List Str} {qual : Str} {scope : Scope} {f : Addr} {cd : Value} {A : Around} {outer : List Env} {s₀ : Shared} {H₀ : Hp} {E : XK} :
    Outs (cxOf (CXo P w) P w K mg base N qual scope f cd A outer s₀ H₀ E) E := fun pins σ H s C e dx ar tb I fl h => by
  refine leave_ok (X := cxOf (CXo P w) P w K mg base N qual scope f cd A outer s₀ H₀ E) rfl rfl I fl.1 fl.2 I.ok.frames fun b s' f1 f2 J => ?_
  exact ⟨.ref e, _, J.os, J.bare, J.base, J.hok, rfl, ⟨e, rfl⟩, h b f1 f2⟩
def goOn (E : XK) : XK := fun v _ H => ∃ C e dx ar tb, v = .ref e ∧ Fly C e dx ar tb H ∧ ∀ b, H b = none → b ≠ e → E (.ref e) none (past H C e dx ar b)
theorem Outs.pass {X : Cx} {E : XK} (o : Outs X E) : Passes (CXo X.prog X.w) X (goOn E) := fun pins σ H s e s' I h => by
  obtain ⟨v, H', I', rv, q⟩ := I.after h
  obtain ⟨⟨a, rfl⟩, C, e', dx, ar, tb, ee, fl, k⟩ := q
  cases (show e = Value.ref a from rv)
  cases ee
  exact o pins σ H' s' C _ dx ar tb I' fl k
structure ExR (K : PySem.W.Frag) (C : Addr) : Prop where
  be : PySem.W.mroIn K C (.type "BaseException") = some true
  ty : PySem.W.typeIn K (.ref C) = some (.type "type")
section
variable {X : Cx} {E : XK} {x : Expr} {tx : TE} {pos : Pos}
def tRaise (K : PySem.W.Frag) (E : XK) (tx : TE) : TS := fun D σ H => tx σ H fun v H1 => ∃ C e dx ar, v = .ref e ∧ ExR K C ∧ Fly C e dx ar none H1 ∧ ∀ b, H1 b = none → b ≠ e → E (.ref e) none (past H1 C e dx ar b)
theorem ps_raise (o : Outs X E) (hc : X.calm = true) (h : PE X x tx) : PS X (.Raise (some x) none pos) (tRaise X.K E tx) := by
  intro pins s σ H D I q
  rw [arm_exec_Raise]
  refine wpAny_bind (wpAny_standAt ?_)
  show wpAny _ _ (raiseStmt X.env (some (do let v ← eval x X.env; standAt pos; pure v)) none) _ _ _
  unfold raiseStmt
  refine wpAny_bind (wpAny_bind (thn (h pins s σ H _ I q) fun v s1 ⟨y, H1, I1, ry, C, e, dx, ar, ey, r, fl, k⟩ => wpAny_bind (wpAny_standAt (wpAny_pure ?_))))
  subst ey
  obtain rfl : v = Value.ref e := ry
  obtain ⟨ob, vs, e1, e2, e3, e4, e5, e6, eT⟩ := ex_get I1 fl.1
  have J : PySem.W.Looks (model X.prog X.w) s1.heap (typeOf (.ref e)) (.ref C) := e2 ▸ (PySem.W.Looks.ld e1).andThen .now
  have nt : ∀ {A : Around} {R : Bool → Shared → Prop} {E' : Value → Shared → Prop}, R false s1 → wpAny (model X.prog X.w) A (isType (.ref e)) R E' s1 := fun {A R E'} hr => by
    unfold isType loadHead
    refine wpAny_bind (wpAny_loadPart e1 ?_)
    rw [e4]
    exact wpAny_pure hr
  have inst : PySem.W.Looks (model X.prog X.w) s1.heap (isInstance (.ref e) (.type "BaseException")) true := J.andThen (PySem.W.looks_mroIn I1.kIn r.be)
  dsimp only
  refine wpAny_bind (wpAny_pure (wpAny_bind (wpAny_holding ?_)))
  unfold excFromValue isExcClass
  refine wpAny_bind (wpAny_bind (nt ?_))
  rw [if_neg Bool.false_ne_true]
  refine wpAny_pure ?_
  rw [if_neg Bool.false_ne_true]
  refine wpAny_bind (inst.here ?_)
  rw [if_pos rfl]
  refine wpAny_pure (wpAny_bind (nt ?_))
  rw [if_neg Bool.false_ne_true]
  refine wpAny_bind ?_
  unfold raisedInstance
  refine wpAny_bind (J.here (wpAny_bind ((PySem.W.looks_typeIn I1.kIn r.ty).here ?_)))
  rw [if_pos (by decide)]
  refine wpAny_pure (wpAny_bind ?_)
  unfold setFlight
  refine wpAny_bind (wpAny_field e1 e4 eT ?_)
  rw [if_neg (show ¬ ((tbV none != Value.none) = true) from by simp [tbV])]
  refine wpAny_pure ?_
  unfold raiseNew
  refine wpAny_bind (wpAny_handled ?_)
  rw [I1.ok.hd hc]
  have fin := o pins σ H1 s1 C e dx ar none I1 fl k
  first
    | exact wpAny_throw fin
    | exact wpAny_bind (wpAny_pure (wpAny_throw fin))
end
end L2

set_option Elab.async false
set_option linter.all false
set_option maxRecDepth 100000
namespace L2
open PySem PySem.Spec PyProof.Rows
def Cx.held (X : Cx) (e : Addr) : Cx := { X with A := X.A.mark (some (.ref e)), calm := false, xe := fun _ _ => False }
def Cx.tried (X : Cx) (pins : List (Addr × Obj)) (xe : Value → Shared → Prop) : Cx := { X with pn := X.pn ++ pins, xe := xe }
section
variable {X : Cx} {pins : List (Addr × Obj)} {σ : St} {H : Hp} {s : Shared} {h' : Heap} {e : Addr}
theorem Inv.held (I : Inv X pins σ H s) (e : Addr) : Inv (X.held e) pins σ H s :=
  ⟨{ I.ok with hd := fun z => nomatch (show false = true from z) }, I.os, I.bare, I.base, I.loc, I.cell, I.free, I.freeC, I.pin, I.hok, I.len⟩
theorem Inv.unheld (k : X.Ok) (I : Inv (X.held e) pins σ H s) : Inv X pins σ H s := ⟨k, I.os, I.bare, I.base, I.loc, I.cell, I.free, I.freeC, I.pin, I.hok, I.len⟩
theorem Inv.tried {xe : Value → Shared → Prop} (I : Inv X pins σ H s) : Inv (X.tried pins xe) [] σ H s :=
  ⟨{ I.ok with }, I.os, I.bare, I.base, I.loc, I.cell, I.free, I.freeC, fun p hp => I.pin p (by have : p ∈ (X.pn ++ pins) ++ [] := hp; rwa [List.append_nil] at this), I.hok, I.len⟩
theorem Inv.untried {xe : Value → Shared → Prop} {pins' : List (Addr × Obj)} (I : Inv (X.tried pins xe) pins' σ H s) : Inv X pins σ H s :=
  ⟨{ I.ok with }, I.os, I.bare, I.base, I.loc, I.cell, I.free, I.freeC, fun p hp => I.pin p (List.mem_append_left _ hp), I.hok, I.len⟩
theorem Inv.bare_frame {m' : Str → Option Value} {t' : Nat} (I : Inv X pins σ H s) (hn : h'.Ns X.env.locals m') (hs : Heap.SameBut X.env.locals s.heap h') : Inv X pins (List.replicate X.N.length none) H { s with heap := h', toks := t' } := by
  obtain ⟨m, ⟨oL, _, _, hoL, _⟩, _⟩ := id I.loc
  have lt : ∀ {b : Addr} {o : Obj}, X.s₀.heap.get? b = some o → b ≠ X.env.locals := fun e => Nat.ne_of_lt (Nat.lt_of_lt_of_le (Heap.lt_size e) I.ok.above)
  refine ⟨I.ok, I.os, I.bare, ⟨fun b o e n hb hx => (hs.2 b (lt e)).trans (I.base.keep b o e n hb hx), fun b o e n hb hx => ?_, I.base.free, fun b o e hx => ?_, I.base.tups, I.base.frzs, I.base.tbls⟩, ⟨m', hn, fun j y v e1 e2 _ => ?_⟩, fun y c q => ?_, I.free, I.freeC, fun p hp => ?_, fun b ob q => ?_, by simp⟩
  · obtain ⟨sl, e1⟩ := I.base.slot b o e n hb hx
    exact ⟨sl, (hs.2 b (lt e)).trans e1⟩
  · obtain ⟨o', e1⟩ := I.base.there b o e hx
    exact ⟨o', (hs.2 b (lt e)).trans e1⟩
  · simp [List.getElem?_replicate] at e2
  · obtain ⟨v, o, ho, hd⟩ := I.cell y c q
    exact ⟨v, o, (hs.2 c (I.cne y c q)).trans ho, hd⟩
  · obtain ⟨p1, p2, p3, p4, p5⟩ := I.pin p hp
    exact ⟨(hs.2 _ p3).trans p1, p2, p3, p4, p5⟩
  · refine (I.hok b ob q).stay (fun c w' hc z => (hs.2 c ?_).trans z) (fun _ z => z) fun _ _ z => z
    rintro rfl
    rcases hc with rfl | hc
    · rw [I.free] at q; cases q
    · rw [I.free] at hc; cases hc
structure ExM (K : PySem.W.Frag) (D : Addr) : Prop where
  be : PySem.W.mroIn K D (.type "BaseException") = some true
  ty : PySem.W.typeIn K (.ref D) = some (.type "type")
  cl : (PySem.W.clsIn K D).isSome = true
theorem matches_ok {A : Around} {E : Value → Shared → Prop} {C D : Addr} {dx ar tb : Option Addr} {b : Bool} {Q : Bool → Shared → Prop} (I : Inv X pins σ H s) (he : H e = some (ExO C e dx ar tb)) (m : ExM X.K D) (hb : PySem.W.mroIn X.K C (.ref D) = some b) (q : Q b s) :
    wpAny (model X.prog X.w) A (excMatches (.ref e) (.ref D)) Q E s := by
  obtain ⟨ob, vs, e1, e2, e3, e4, e5, e6, eT⟩ := ex_get I he
  have J : PySem.W.Looks (model X.prog X.w) s.heap (typeOf (.ref e)) (.ref C) := e2 ▸ (PySem.W.Looks.ld e1).andThen .now
  obtain ⟨cd, hc⟩ := Option.isSome_iff_exists.mp m.cl
  have isT : ∀ {A : Around} {R : Bool → Shared → Prop} {E' : Value → Shared → Prop}, R true s → wpAny (model X.prog X.w) A (isType (.ref D)) R E' s := fun {A R E'} hr => by
    unfold PySem.W.clsIn at hc
    split at hc
    · rename_i c' d' cd' sl' ho
      unfold isType loadHead
      exact wpAny_bind (wpAny_loadPart (I.kIn _ _ ho) (wpAny_pure hr))
    · cases hc
  have nt : PySem.W.Looks (model X.prog X.w) s.heap (isInstance (.ref D) (.type "tuple")) false := (PySem.W.looks_typeIn I.kIn m.ty).andThen (PySem.W.looks_subIn I.kIn (K := X.K) (t := .type "type") (base := .type "tuple") (by rfl))
  unfold excMatches
  refine wpAny_bind (nt.here ?_)
  dsimp only
  rw [if_neg Bool.false_ne_true]
  refine wpAny_bind (wpAny_pure ?_)
  refine wpAny_bind ?_
  rw [List.forIn_cons]
  refine wpAny_bind (wpAny_bind ?_)
  unfold isExcClass
  refine wpAny_bind (isT ?_)
  rw [if_pos rfl]
  refine (PySem.W.looks_mroIn I.kIn m.be).here ?_
  rw [if_neg (by decide)]
  refine wpAny_pure ?_
  dsimp only
  rw [List.forIn_nil]
  refine wpAny_pure (wpAny_bind (J.here (wpAny_bind ?_)))
  rw [List.forIn_cons]
  refine wpAny_bind (wpAny_bind ((PySem.W.looks_mroIn I.kIn hb).here ?_))
  cases b with
  | true =>
    rw [if_pos rfl]
    exact wpAny_pure (wpAny_pure (wpAny_pure q))
  | false =>
    rw [if_neg Bool.false_ne_true]
    refine wpAny_pure ?_
    dsimp only
    rw [List.forIn_nil]
    exact wpAny_pure (wpAny_pure q)
abbrev TH := Addr → Addr → Option Addr → Option Addr → Addr → Ends → St → Hp → Prop
def PHs (X : Cx) (hs : List ExceptHandler) (t : TH) : Prop := ∀ (pins : List (Addr × Obj)) (s : Shared) (σ : St) (H : Hp) (D : Ends) (C e : Addr) (dx ar : Option Addr) (b : Addr), Inv X pins σ H s → Fly C e dx ar (some b) H → t C e dx ar b D σ H → wpAny (model X.prog X.w) X.A (handleBy (.ref e) X.env hs) (SP X pins D) X.xe s
def thNil : TH := fun _ _ _ _ _ _ _ _ => False
theorem phs_nil : PHs X [] thNil := fun _ _ _ _ _ _ _ _ _ _ _ _ z => z.elim
def retOnly (D : Ends) : Ends := { nx := fun _ _ => False, rt := D.rt }
def thAs (K : PySem.W.Frag) (Dc : Addr) (i : Nat) (tb : TS) (rest : TH) : TH := fun C e dx ar b D σ H => ∃ hit, PySem.W.mroIn K C (.ref Dc) = some hit ∧ if hit = true then tb (retOnly D) (σ.set i (some (.ref e))) H else rest C e dx ar b D σ H
def thPlain (K : PySem.W.Frag) (Dc : Addr) (tb : TS) (rest : TH) : TH := fun C e dx ar b D σ H => ∃ hit, PySem.W.mroIn K C (.ref Dc) = some hit ∧ if hit = true then tb D σ H else rest C e dx ar b D σ H
theorem fly_none {A : Around} {E : Value → Shared → Prop} {C : Addr} {dx ar : Option Addr} {b : Addr} {Q : Unit → Shared → Prop} (I : Inv X pins σ H s) (f : Fly C e dx ar (some b) H) (q : ∀ s', Inv X pins σ H s' → Q () s') : wpAny (model X.prog X.w) A (setFlight (.ref e) none) Q E s := by
  obtain ⟨ob, vs, e1, e2, e3, e4, e5, e6, eT⟩ := ex_get I f.1
  obtain ⟨hb, nb⟩ := f.2 b rfl
  obtain ⟨oT, ts, b1, b2, b3⟩ := (show TbAt b s.heap from (I.hok b _ hb).1)
  have b4 : 3 < ts.size := (Array.getElem?_eq_some_iff.mp b3).1
  refine wpAny_setFlight_none e1 e4 eT b1 b2 b4 (q _ ?_)
  have d5 := Obj.data_mapFields b2 (·.setIfInBounds 3 Value.none)
  have q6 := Heap.get?_update_self (Obj.mapFields (·.setIfInBounds 3 Value.none)) b1 (Obj.isFreed_of_fields d5)
  have I1 := I.write (x := b) (e := b) (o := TbO b) (t' := s.toks) (h' := s.heap.update b (Obj.mapFields (·.setIfInBounds 3 Value.none))) (by rw [hb]; trivial) (.inl rfl) (fun c u hc q => (Heap.get?_update_other _ _ (Ne.symm hc)).trans q) ⟨_, q6⟩ (tbO_ok ⟨_, _, q6, d5, by simp [b4]⟩)
  have eH : upd H b (TbO b) = H := by
    funext c
    by_cases hc : c = b
    · rw [hc, upd_same, hb]
    · rw [upd_ne hc]
  rwa [eH] at I1
theorem phs_as {x n : Str} {xp pos : Pos} {b₀ : Stmt} {suite : List Stmt} {rest : List ExceptHandler} {Dc : Addr} {i : Nat} {tb : TS} {tr : TH} (m : ExM X.K Dc) (hg : Gl X x) (hm : X.mg x = some (.ref Dc)) (hN : X.N.Nodup) (hi : X.N[i]? = some n) (hl : X.env.scope.names.lookup n = some .local) (hk : X.env.kindOf n = some .local)
    (hb : ∀ e, PSs (X.held e) (b₀ :: suite) tb) (hr : PHs X rest tr) (hdb : (x == ("__debug__" : Str)) = false := by decide) : PHs X (.ExceptHandler (some (.Name x xp)) (some n) (b₀ :: suite) pos :: rest) (thAs X.K Dc i tb tr) := by
  intro pins s σ H D C e dx ar b I f h
  obtain ⟨hit, hc, h⟩ := h
  refine wpAny_handleBy_cons (codeAny_handlers_test (ld_glob (X := X.held e) (I.held e) hg hm ?_ hdb)) (by intro z; cases z)
  refine matches_ok I f.1 m hc ?_
  cases hit with
  | false =>
    rw [if_neg Bool.false_ne_true] at h ⊢
    exact hr pins s σ H D C e dx ar b I f h
  | true =>
    rw [if_pos rfl] at h ⊢
    refine codeAny_handlers_suite_as (fly_none I f fun s1 I1 => ?_)
    refine store_ok I1 hN hi (.inl hl) (v := .ref e) rfl (fun s2 I2 => ?_) (.inr hl)
    refine wpAny_mono (hb e pins s2 _ H (retOnly D) (I2.held e) h) (fun fl s3 q => ?_) fun _ _ z => z.elim
    have hp : (X.env.scope.kind == .class || (X.env.scope.kind == .module && X.env.locals != X.env.globals)) = false := by rw [I.ok.kind]; rfl
    cases fl with
    | ret u =>
      obtain ⟨v, σ', H', I3, rv, q⟩ := q
      obtain ⟨m', hn, _⟩ := I3.loc
      refine wpAny_nameGoes hk hn hp fun h4 m4 hn4 hs4 => ?_
      exact ⟨v, _, H', (I3.unheld I.ok).bare_frame hn4 hs4, rv, q⟩
    | next =>
      obtain ⟨_, _, _, q⟩ := q
      exact q.elim
    | brk =>
      obtain ⟨_, _, _, q⟩ := q
      exact q.elim
    | cont =>
      obtain ⟨_, _, _, q⟩ := q
      exact q.elim
theorem SP.unheld {D : Ends} {fl : Flow} (k : X.Ok) (q : SP (X.held e) pins D fl s) : SP X pins D fl s := by
  cases fl with
  | ret u =>
    obtain ⟨v, σ', H', I3, rv, q⟩ := q
    exact ⟨v, σ', H', I3.unheld k, rv, q⟩
  | next =>
    obtain ⟨σ', H', I3, q⟩ := q
    exact ⟨σ', H', I3.unheld k, q⟩
  | brk =>
    obtain ⟨σ', H', I3, q⟩ := q
    exact ⟨σ', H', I3.unheld k, q⟩
  | cont =>
    obtain ⟨σ', H', I3, q⟩ := q
    exact ⟨σ', H', I3.unheld k, q⟩
theorem SP.untried {xe : Value → Shared → Prop} {D : Ends} {fl : Flow} (q : SP (X.tried pins xe) [] D fl s) : SP X pins D fl s := by
  cases fl with
  | ret u =>
    obtain ⟨v, σ', H', I3, rv, q⟩ := q
    exact ⟨v, σ', H', I3.untried, rv, q⟩
  | next =>
    obtain ⟨σ', H', I3, q⟩ := q
    exact ⟨σ', H', I3.untried, q⟩
  | brk =>
    obtain ⟨σ', H', I3, q⟩ := q
    exact ⟨σ', H', I3.untried, q⟩
  | cont =>
    obtain ⟨σ', H', I3, q⟩ := q
    exact ⟨σ', H', I3.untried, q⟩
theorem phs_plain {x : Str} {xp pos : Pos} {b₀ : Stmt} {suite : List Stmt} {rest : List ExceptHandler} {Dc : Addr} {tb : TS} {tr : TH} (m : ExM X.K Dc) (hg : Gl X x) (hm : X.mg x = some (.ref Dc))
    (hb : ∀ e, PSs (X.held e) (b₀ :: suite) tb) (hr : PHs X rest tr) (hdb : (x == ("__debug__" : Str)) = false := by decide) : PHs X (.ExceptHandler (some (.Name x xp)) none (b₀ :: suite) pos :: rest) (thPlain X.K Dc tb tr) := by
  intro pins s σ H D C e dx ar b I f h
  obtain ⟨hit, hc, h⟩ := h
  refine wpAny_handleBy_cons (codeAny_handlers_test (ld_glob (X := X.held e) (I.held e) hg hm ?_ hdb)) (by intro z; cases z)
  refine matches_ok I f.1 m hc ?_
  cases hit with
  | false =>
    rw [if_neg Bool.false_ne_true] at h ⊢
    exact hr pins s σ H D C e dx ar b I f h
  | true =>
    rw [if_pos rfl] at h ⊢
    refine codeAny_handlers_suite (fly_none I f fun s1 I1 => ?_)
    exact wpAny_mono (hb e pins s1 _ H D (I1.held e) h) (fun fl s3 q => q.unheld I.ok) fun _ _ z => z.elim
def caught (n : Nat) (th : TH) (D : Ends) : XK := fun v _ H => ∃ C e dx ar tb, v = .ref e ∧ Fly C e dx ar tb H ∧ ∀ σ : St, σ.length = n → ∀ b, H b = none → b ≠ e → th C e dx ar b D σ (past H C e dx ar b)
def tTry (n : Nat) (tb : XK → TS) (th : TH) : TS := fun D σ H => tb (caught n th D) D σ H
theorem fly_past {C : Addr} {dx ar : Option Addr} {b : Addr} (h : b ≠ e) : Fly C e dx ar (some b) (past H C e dx ar b) := by
  refine ⟨upd_same, fun b' z => ?_⟩
  cases z
  exact ⟨by show upd _ _ _ _ = _; rw [upd_ne h, upd_same], h⟩
theorem ps_try {body : List Stmt} {h₀ : ExceptHandler} {hs : List ExceptHandler} {pos : Pos} {tb : XK → TS} {th : TH} (hst : X.stack = X.env :: X.outer) (hfr : X.env.frame = some X.env.locals)
    (hb : ∀ (E : XK) (ps : List (Addr × Obj)) (xe : Value → Shared → Prop), Passes (CXo X.prog X.w) (X.tried ps xe) E → PSs (X.tried ps xe) body (tb E)) (hh : PHs X (h₀ :: hs) th) : PS X (.Try body (h₀ :: hs) [] [] pos) (tTry X.N.length tb th) := by
  intro pins s σ H D I h
  refine wpAny_Try_except ?_
  have run := hb (caught X.N.length th D) pins (fun v s' => ∃ σ' H', Inv X pins σ' H' s' ∧ caught X.N.length th D v none H') (fun pins' σ' H' s' v s'' I' q => ?_) [] s σ H D I.tried h
  · refine wpAny_mono run (fun fl s1 q => ?_) fun v s1 q => ?_
    · have q' := q.untried
      cases fl with
      | next => exact wpAny_pure q'
      | ret u => exact q'
      | brk => exact q'
      | cont => exact q'
    · obtain ⟨σ', H', I', C, e, dx, ar, tb', rfl, fl, k⟩ := q
      exact note_ok hst hfr I' fl.1 fl.2 I'.ok.frames fun b s2 f1 f2 J => hh pins s2 σ' _ D C e dx ar b J (fly_past f2) (k σ' I'.len b f1 f2)
  · obtain ⟨u, H2, I2, rv, ⟨a, ea⟩, q⟩ := I'.after q
    exact ⟨_, H2, I2.untried, q⟩
end
end L2

set_option Elab.async false
set_option linter.all false
set_option maxRecDepth 100000
namespace L2
open PySem PySem.Spec PyProof.Rows
section
variable {prog : Program} {w : World} {A : Around} {E : Value → Shared → Prop} {s : Shared}
def TNext (it t : Addr) (i : Nat) (s : Shared) (Q : Value → Shared → Prop) (E : Value → Shared → Prop) : Option Value → Prop
  | some x => ∀ h', h'.IsTupleIter it t (i + 1) → Heap.SameBut it s.heap h' → Q x { s with heap := h' }
  | none => ∀ h' e, Heap.ExtBut it s.heap h' → (∃ o, h'.get? e = some o ∧ o.cls = .type "StopIteration") → E (.ref e) { s with heap := h' }
theorem tnext {it t : Addr} {i : Nat} {its : Array Value} {o : Option Value} {Q : Value → Shared → Prop} (hh : A.handled = none) (ti : s.heap.IsTupleIter it t i) (tt : s.heap.IsTuple t its) (hx : its[i]? = o) (hk : TNext it t i s Q E o) : wpAny (model prog w) A (Builtin.SmallTypes.nextOf (.ref it)) Q E s := by
  have h0 : A.in1.handled = none := hh
  have nn : ¬ (Value.ref t == Value.none) = true := fun z => Bool.false_ne_true z
  have me := PySem.F.entry_tuple_iterator_next
  rcases id ti with ⟨ob, e1, e2, e3⟩
  rcases tt with ⟨ol, f1, _, nl, f2⟩
  delta Builtin.SmallTypes.nextOf
  refine wpAny_bind (wpAny_callSpecial?_slot (name := Str.ofString "__next__") ti.typeIs PySem.F.slot_tuple_iterator_next (wpAny_call_entry PySem.F.slot_tuple_iterator_next ti.typeIs me ?_ (PySem.F.args_tuple_iterator_next_1 _)))
  refine wpAny_bind (m := field (.ref it) 0) (wpAny_field e1 e3 (x := .ref t) rfl ?_)
  rw [if_neg nn]
  refine wpAny_bind (m := field (.ref it) 1) (wpAny_field e1 e3 (x := .int i 0) rfl (wpAny_bind (m := seqItems? (.ref t)) (wpAny_seqItems f1 f2 ?_)))
  simp only [hx, Int.toNat_natCast]
  cases o with
  | some x =>
    refine wpAny_bind (wpAny_setField e1 e3 (by simp) (wpAny_pure ⟨x, rfl, wpAny_pure (hk _ ⟨_, Heap.get?_update_self _ e1 (Obj.isFreed_of_fields (Obj.data_mapFields e3 _)), (Obj.cls_mapFields ..).trans e2, ?_⟩ (Heap.SameBut.update ..))⟩))
    simp [rawInt, Obj.data_mapFields e3]
  | none =>
    refine wpAny_bind (wpAny_rule (wpAny_bind (wpAny_setField e1 e3 (by simp) (wpAny_bind (m := newExc (.type "StopIteration") []) ?_))))
    simp only [newExc, newTuple]
    refine wpAny_bind (wpAny_newObj_type (wpAny_bind (m := firstArgMember _ _) (wpAny_of_eq (a := Value.none) (by first | rfl | (simp only [firstArgMember]; rfl)) (wpAny_newObj_type ?_ (by size_fits)))) (by size_fits))
    simp only [raiseNew]
    have last : ∀ {h1 : Heap} (x : Heap.ExtBut it s.heap h1) {e : Addr} {o : Obj} (_ : h1.get? e = some o) (_ : o.cls = .type "StopIteration"), E (.ref e) { s with heap := h1 } := fun {_} x {_ _} q1 q2 => hk _ _ x ⟨_, q1, q2⟩
    refine wpAny_bind ?_
    refine wpAny_handled ?_
    rw [h0]
    refine wpAny_bind (wpAny_pure (wpAny_throw (last (((Heap.SameBut.update ..).extBut.push _).push _) (Heap.get?_push_size _ rfl) rfl)))
theorem drawsT (hh : A.handled = none) (it l : Addr) (hne : l ≠ it) (its : Array Value) : Draws prog w A it [it, l] its.size (fun i v => its[i]? = some v) (fun i h => h.IsTupleIter it l i ∧ h.IsTuple l its) where
  live := fun _ _ ⟨⟨o, ho, _⟩, _⟩ => ⟨o, ho⟩
  frame := fun _ _ _ ⟨p, q⟩ hk => ⟨p.at (hk it (by simp)), q.at (hk l (by simp))⟩
  item := fun i s Q E hi st hQ => tnext hh st.1 st.2 (o := some its[i]) (by simp [hi]) fun h' hit' hs' => hQ _ h' s.toks (by simp [hi]) ⟨hit', st.2.extBut hs'.extBut hne⟩ hs'
  done := fun s Q E st hE => tnext hh st.1 st.2 (o := none) (by simp) hE
theorem enum_newT (l : Addr) (its : Array Value) (n : Nat) (dct : Option Addr) (sl : Array (Option Value)) :
    Meets (Builtin.«enumerate.__new__» ⟨[.type "enumerate", .ref l], []⟩) (fun _ R s => s.heap.get? l = some { cls := .type "tuple", dict := dct, data := .seq its n, slots := sl } ∧
      R (.ok (.ret (.ref (s.heap.push { cls := .type "tuple_iterator", data := .fields #[.ref l, .int 0 0] }).objs.size)))
        { s with heap := (s.heap.push { cls := .type "tuple_iterator", data := .fields #[.ref l, .int 0 0] }).push { cls := .type "enumerate", data := .fields #[.none, .bool false, .ref s.heap.objs.size, rawInt 0, .none, .none] } }) :=
  .of_wp fun prog w A R s h => by
    rcases s with ⟨hp, g, d, tk, os⟩
    rcases h with ⟨hl, h⟩
    have sb := sub_enumerate
    have hL : Heap.IsTuple (Shared.heap ⟨hp, g, d, tk, os⟩) l its := ⟨_, hl, rfl, n, rfl⟩
    wp_walk using AutoSeq1.wpAny_loadPart' hl
    refine wpAny_stack_any ?_
    intro st
    refine wpAny_pure ?_
    split
    · rename_i c _ _ _ _ _
      cases (c == Value.type "enumerate") <;> (wp_walk using AutoSeq1.wpAny_loadPart' hl, wpAny_pyIter_tuple hL; exact ⟨_, rfl, h⟩)
    · wp_walk using AutoSeq1.wpAny_loadPart' hl, wpAny_pyIter_tuple hL
      exact ⟨_, rfl, h⟩
theorem call_enumT {l : Addr} {its : Array Value} {Q : Value → Shared → Prop} (hL : s.heap.IsTuple l its)
    (h : ∀ h', IsEnum h' (s.heap.objs.size + 1) s.heap.objs.size 0 .none → h'.IsTupleIter s.heap.objs.size l 0 → h'.objs.size = s.heap.objs.size + 2 → (∀ b o, s.heap.get? b = some o → h'.get? b = some o) → Q (.ref (s.heap.objs.size + 1)) { s with heap := h' }) : wpAny (model prog w) A (call (.type "enumerate") [.ref l]) Q E s := by
  rcases hL with ⟨⟨c, dct, dt, sl⟩, hl, hc, n, hd⟩
  replace hc : c = .type "tuple" := hc
  replace hd : dt = .seq its n := hd
  subst hc hd
  refine callType_new PySem.F.called_enumerate (by decide) (PySem.F.typeCall_enumerate_1 _) (PySem.F.newCall_enumerate_1 _) (fun obj => PySem.F.args_object_init_2 obj _) PySem.F.entry_enumerate_new (enum_newT l its n dct sl) ⟨hl, ?_⟩
  have hz : (s.heap.push { cls := .type "tuple_iterator", data := .fields #[.ref l, .int 0 0] }).objs.size = s.heap.objs.size + 1 := Heap.size_push ..
  show _ ∧ _
  rw [hz]
  have he : IsEnum ((s.heap.push { cls := .type "tuple_iterator", data := .fields #[.ref l, .int 0 0] }).push { cls := .type "enumerate", data := .fields #[.none, .bool false, .ref s.heap.objs.size, rawInt 0, .none, .none] }) (s.heap.objs.size + 1) s.heap.objs.size 0 .none := by
    have z := Heap.get?_push_size (s.heap.push { cls := .type "tuple_iterator", data := .fields #[.ref l, .int 0 0] }) (o := { cls := .type "enumerate", data := .fields #[.none, .bool false, .ref s.heap.objs.size, rawInt 0, .none, .none] }) rfl
    rw [hz] at z
    exact z
  exact ⟨⟨_, he, rfl⟩, h _ he ⟨_, Heap.get?_push_of_some _ (Heap.get?_push_size _ rfl), rfl, rfl⟩ (by rw [Heap.size_push, hz]) fun b o x => Heap.get?_push_of_some _ (Heap.get?_push_of_some _ x)⟩
end
def SqB (K : PySem.W.Frag) (tp : Bool) (H : Hp) (a : Addr) (xs : List V) : Prop := if tp then SqT K H a xs else SqL K H a xs
def Ite (K : PySem.W.Frag) (tp : Bool) (a : Addr) : It :=
  ⟨fun i H => ∃ xs x, SqB K tp H a xs ∧ xs[i]? = some x, fun i H v H' => ∃ t x, v = .ref t ∧ H t = none ∧ (∀ xs, SqB K tp H a xs → xs[i]? = some x) ∧ H' = upd H t (.tup [.int i, x]), fun i H => ∃ xs, SqB K tp H a xs ∧ xs.length = i⟩
def ItS (tp : Bool) (h : Heap) (it a : Addr) (i : Nat) : Prop := if tp then h.IsTupleIter it a i else h.IsListIter it a i
theorem seqB_lt {X : Cx} {pins : List (Addr × Obj)} {σ : St} {H : Hp} {s : Shared} {tp : Bool} {a : Addr} {xs : List V} (I : Inv X pins σ H s) (h : SqB X.K tp H a xs) :
    ∃ its : List Value, Vals xs its ∧ (if tp then s.heap.IsTuple a its.toArray else s.heap.IsList a its.toArray) ∧ xs.length ≤ sizeLine := by
  cases tp with
  | true => obtain ⟨its, r, p, z⟩ := I.tuple h; exact ⟨its, r, p, z⟩
  | false => obtain ⟨its, r, p, z⟩ := I.list h; exact ⟨its, r, p.isList, z⟩
end L2

set_option Elab.async false
set_option linter.all false
set_option maxRecDepth 100000
namespace L2
open PySem PySem.Spec PyProof.Rows
theorem Inv.turn2 {X : Cx} {pins : List (Addr × Obj)} {σ : St} {H : Hp} {s : Shared} {h' : Heap} {t' : Nat} {e it : Addr} {xs : List V} {us : List Value} (I : Inv X pins σ H s) (f1 : FpOk X pins H e) (f2 : FpOk X pins H it)
    (k : ∀ b o, b ≠ e → b ≠ it → s.heap.get? b = some o → h'.get? b = some o) (there : ∀ b o, s.heap.get? b = some o → ∃ o', h'.get? b = some o')
    (r : Vals xs us) (hz : xs.length ≤ sizeLine) (hT : h'.get? s.heap.objs.size = some { cls := .type "tuple", data := .seq us.toArray }) :
    Inv X pins σ (upd H s.heap.objs.size (.tup xs)) { s with heap := h', toks := t' } := by
  have fT : H s.heap.objs.size = none := I.hok.fresh (Nat.le_refl _)
  have nT : ∀ b o, s.heap.get? b = some o → b ≠ s.heap.objs.size := fun b o q => Nat.ne_of_lt (Heap.lt_size q)
  have nH : ∀ b u, H b = some u → b ≠ e ∧ b ≠ it := fun b u q => ⟨fun z => (by rw [z, f1.1] at q; cases q), fun z => (by rw [z, f2.1] at q; cases q)⟩
  have mem : ∀ b, b ∉ [e, it] → b ≠ e ∧ b ≠ it := fun b hb => ⟨fun z => hb (by simp [z]), fun z => hb (by simp [z])⟩
  refine I.step (g' := s.gens) (d' := s.drawn) (ch := [e, it]) (fun b hb => ?_) (fun b o _ _ hc q _ => k b o (mem b hc).1 (mem b hc).2 q) (fun b o _ _ hc q _ => ⟨o.slots, k b o (mem b hc).1 (mem b hc).2 q⟩)
    (fun b o _ q n => by rw [upd_ne (nT b o q)]; exact n) (fun b o _ q => there b o q) (fun b ys q => by rw [upd_ne (ne_of_none q fT)]; exact q) (fun b o u q => by rw [upd_ne (ne_of_none q fT)]; exact q)
    (fun b ps q => ⟨#[], by rw [upd_ne (ne_of_none q fT), q]; simp⟩) (fun m hm => ?_) (fun b u q => ?_) I.bare
  · have hb' : b = e ∨ b = it := by simpa using hb
    rcases hb' with rfl | rfl
    · exact ⟨f1.2.2.2.1, f1.2.1, f1.2.2.2.2.1, f1.2.2.2.2.2⟩
    · exact ⟨f2.2.2.2.1, f2.2.1, f2.2.2.2.2.1, f2.2.2.2.2.2⟩
  · obtain ⟨o, es, ep, ho, r⟩ := hm
    exact ⟨o, es, ep, k _ o (Ne.symm f1.2.1) (Ne.symm f2.2.1) ho, r⟩
  · by_cases hb : b = s.heap.objs.size
    · subst hb
      rw [upd_same] at q
      cases q
      exact ⟨hz, us, r, ⟨_, hT, rfl, _, rfl⟩, fun o z => by rw [hT] at z; cases z; rfl⟩
    · rw [upd_ne hb] at q
      refine (I.hok b u q).stay (fun c v hc z => ?_) (fun c z => by rw [upd_ne (ne_of_none z fT)]; exact z) fun c ys z => by rw [upd_ne (ne_of_none z fT)]; exact z
      rcases hc with rfl | hc
      · exact k _ v (nH _ _ q).1 (nH _ _ q).2 z
      · exact k _ v (nH _ _ hc).1 (nH _ _ hc).2 z

theorem turn_enum {P : Program} {w : World} {K : PySem.W.Frag} {elts : List Expr} {kk : Nat} {tpos : Pos} (tp : Bool) (a e it : Addr) (h1 : e ≠ it) (h2 : a ≠ e) (h3 : a ≠ it) :
    Turn P w K (.Tuple elts kk tpos) (Ite K tp a) [e, it] e (fun i h => (∃ old, IsEnum h e it i old) ∧ ItS tp h it a i) where
  mem := by simp
  obj := fun i h st b hb => by
    obtain ⟨⟨old, he⟩, hi⟩ := st
    have hb' : b = e ∨ b = it := by simpa using hb
    rcases hb' with rfl | rfl
    · exact ⟨_, he, fun v z => by have z' : Data.fields _ = Data.cell v := z; cases z'⟩
    · cases tp with
      | true => obtain ⟨o, q, c, d⟩ := (show h.IsTupleIter b a i from hi); exact ⟨o, q, fun v z => by rw [d] at z; cases z⟩
      | false => obtain ⟨o, q, c, d⟩ := (show h.IsListIter b a i from hi); exact ⟨o, q, fun v z => by rw [d] at z; cases z⟩
  keep := fun i h h' st k => by
    obtain ⟨⟨old, he⟩, hi⟩ := st
    refine ⟨⟨old, k e (by simp) _ he⟩, ?_⟩
    cases tp with
    | true => exact (show h.IsTupleIter it a i from hi).at fun o q => k it (by simp) o q
    | false => exact (show h.IsListIter it a i from hi).at fun o q => k it (by simp) o q
  item := by
    intro X hP hw hK hc i pins s σ H E I hf st hg
    subst hP hw hK
    obtain ⟨⟨old, he⟩, hi⟩ := st
    obtain ⟨xs, x, hq, hx⟩ := hg
    obtain ⟨its, rv, p, hz⟩ := seqB_lt I hq
    obtain ⟨u, hu, ru⟩ := rv.get hx
    have hlt : i < its.toArray.size := by
      have := (List.getElem?_eq_some_iff.mp hx).1
      rw [List.size_toArray, ← rv.length]
      exact this
    have hh : X.A.in1.handled = none := I.ok.hd hc
    have fin : ∀ (x' : Value) (h' : Heap) (tk : Nat), its.toArray[i]? = some x' → IsEnumOut h' e it ((i : Int) + 1) x' s.heap.objs.size → ItS tp h' it a (i + 1) → h'.get? s.heap.objs.size = some { cls := .type "tuple", data := .seq #[.int i tk, x'] } →
        (∀ b o, b ≠ e → b ≠ it → s.heap.get? b = some o → h'.get? b = some o) → ∃ u, some (Value.ref s.heap.objs.size) = some u ∧
          wpAny (model X.prog X.w) X.A (letOwnedTupleGo (.Tuple elts kk tpos) (.ref e) u) (fun _ s2 => ∃ x H', Inv X pins σ H' s2 ∧ RelV x u ∧ (Ite X.K tp a).yld i H x H' ∧ ((∃ old, IsEnum s2.heap e it ((i + 1 : Nat) : Int) old) ∧ ItS tp s2.heap it a (i + 1)) ∧ ∀ b ∈ [e, it], H' b = none) E { s with heap := h', toks := tk + 1 } := by
      intro x' h' tk hP hout hS hT hk
      have ex : x' = u := by
        have : its[i]? = some x' := by simpa using hP
        rw [hu] at this
        exact Eq.symm (Option.some.inj this)
      subst ex
      refine ⟨_, rfl, wpAny_letOwnedTupleGo_enum (s := { s with heap := h', toks := tk + 1 }) hout fun h2' he2 hs2 => ?_⟩
      have nTe : s.heap.objs.size ≠ e := Nat.ne_of_gt (Heap.lt_size he)
      have itlt : it < s.heap.objs.size := by
        cases tp with
        | true => obtain ⟨o, q, _⟩ := (show s.heap.IsTupleIter it a i from hi); exact Heap.lt_size q
        | false => obtain ⟨o, q, _⟩ := (show s.heap.IsListIter it a i from hi); exact Heap.lt_size q
      have S2 : ItS tp h2' it a (i + 1) := by
        cases tp with
        | true => exact (show h'.IsTupleIter it a (i + 1) from hS).extBut hs2.extBut (Ne.symm h1)
        | false => exact (show h'.IsListIter it a (i + 1) from hS).extBut hs2.extBut (Ne.symm h1)
      have J : Inv X pins σ (upd H s.heap.objs.size (.tup [.int i, x])) { s with heap := h2', toks := tk + 1 } := by
        refine I.turn2 (xs := [.int i, x]) (us := [.int i tk, x']) (hf e (by simp)) (hf it (by simp)) (fun b o q1 q2 q => hs2.extBut b o q1 (hk b o q1 q2 q)) (fun b o q => ?_) (.cons ⟨tk, rfl⟩ (.cons ru .nil)) (by show 2 ≤ sizeLine; decide) (hs2.extBut _ _ nTe hT)
        by_cases q1 : b = e
        · rw [q1]; exact ⟨_, he2⟩
        · by_cases q2 : b = it
          · rw [q2]
            cases tp with
            | true => obtain ⟨o', z, _⟩ := (show h2'.IsTupleIter it a (i + 1) from S2); exact ⟨o', z⟩
            | false => obtain ⟨o', z, _⟩ := (show h2'.IsListIter it a (i + 1) from S2); exact ⟨o', z⟩
          · exact ⟨o, hs2.extBut b o q1 (hk b o q1 q2 q)⟩
      refine ⟨.ref s.heap.objs.size, _, J, rfl, ⟨_, x, rfl, I.hok.fresh (Nat.le_refl _), fun ys hy => ?_, rfl⟩, ⟨⟨_, by simpa using he2⟩, S2⟩, fun b hb => ?_⟩
      · have e2 : ys = xs := by
          cases tp with
          | true => exact I.tuple_inj hy hq
          | false => exact I.list_inj hy hq
        rw [e2]
        exact hx
      have hb' : b = e ∨ b = it := by simpa using hb
      rcases hb' with rfl | rfl
      · rw [upd_ne (Ne.symm nTe)]; exact (hf b (by simp)).1
      · rw [upd_ne (Nat.ne_of_lt itlt)]; exact (hf b (by simp)).1
    have hef : e ∉ [it, a] := fun z => by
      have z' : e = it ∨ e = a := by simpa using z
      rcases z' with z | z
      · exact h1 z
      · exact h2 z.symm
    cases tp with
    | true => exact wpAny_pyNext_enum_itemD (drawsT hh it a h3 its.toArray) he ⟨hi, p⟩ hlt h1 hef fun x' h' tk hP hout hSt hT hsz hk => fin x' h' tk hP hout hSt.1 hT hk
    | false => exact wpAny_pyNext_enum_itemD (Draws.list hh it a h3 its.toArray) he ⟨hi, p⟩ hlt h1 hef fun x' h' tk hP hout hSt hT hsz hk => fin x' h' tk hP hout hSt.1 hT hk
  done := by
    intro X hP hw hK hc i pins s σ H E I hf st hg
    subst hP hw hK
    obtain ⟨⟨old, he⟩, hi⟩ := st
    obtain ⟨xs, hq, hx⟩ := hg
    obtain ⟨its, rv, p, hz⟩ := seqB_lt I hq
    have en : i = its.toArray.size := by rw [List.size_toArray, ← rv.length]; exact hx.symm
    subst en
    have hh : X.A.in1.handled = none := I.ok.hd hc
    obtain ⟨f0, f1, f2, f3, f4, f5⟩ := hf it (by simp)
    cases tp with
    | true => exact wpAny_pyNext_enum_endD (drawsT hh it a h3 its.toArray) he ⟨hi, p⟩ fun h' eb => ⟨rfl, I.turned (t' := s.toks) (fun b o hb q => eb b o hb q) f0 f1 f3 f4 f5⟩
    | false => exact wpAny_pyNext_enum_endD (Draws.list hh it a h3 its.toArray) he ⟨hi, p⟩ fun h' eb => ⟨rfl, I.turned (t' := s.toks) (fun b o hb q => eb b o hb q) f0 f1 f3 f4 f5⟩
  self := fun _ _ _ _ _ st h => by
    obtain ⟨⟨old, he⟩, _⟩ := st
    exact wpAny_pyIter_enum he h
section
variable {X : Cx}
def iEnum (K : PySem.W.Frag) (tp : Bool) (ta : TA) : TI := fun σ H R => ta σ H fun vs H1 => ∃ a, vs = [.ref a] ∧ (∃ xs, SqB K tp H1 a xs) ∧ R (Ite K tp a) H1
theorem pi_enum {elts : List Expr} {kk : Nat} {tpos p pos : Pos} {l : Expr} {ta : TA} (tp : Bool) (hg : Gl X "enumerate") (hm : X.mg "enumerate" = none) (hv : bootBuiltins "enumerate" = some (.type "enumerate")) (ha : PA X [l] ta) (hs : starEach [l] X.env = [(false, eval l X.env)] := by rfl) :
    PI X (.Tuple elts kk tpos) (.Call (.Name "enumerate" p) [l] [] pos) (iEnum X.K tp ta) := by
  intro pins s σ H R I h
  refine Call_ (ld_blt I hg hm hv (PyProof.Rows.callWith_type1 (thn (ha pos pins s σ H _ I h) fun us s1 ⟨vs, H1, I1, r1, q1⟩ => ?_) hs rfl))
  obtain ⟨a, rfl, ⟨xs, hq⟩, q⟩ := q1
  obtain ⟨u, rfl, ru⟩ := vals1 r1
  cases (show u = Value.ref a from ru)
  obtain ⟨its, rv, p, hz⟩ := seqB_lt I1 hq
  have alt : a < s1.heap.objs.size := by
    cases tp with
    | true => obtain ⟨o, z, _⟩ := (show s1.heap.IsTuple a its.toArray from p); exact Heap.lt_size z
    | false => obtain ⟨o, z, _⟩ := (show s1.heap.IsList a its.toArray from p); exact Heap.lt_size z
  have fin : ∀ h', IsEnum h' (s1.heap.objs.size + 1) s1.heap.objs.size 0 .none → ItS tp h' s1.heap.objs.size a 0 → (∀ b o, s1.heap.get? b = some o → h'.get? b = some o) →
      wpAny (model X.prog X.w) X.A (pyIter (.ref (s1.heap.objs.size + 1))) (PIE X pins σ (.Tuple elts kk tpos) R) X.xe { s1 with heap := h' } := fun h' he hS hk => by
    refine wpAny_pyIter_enum (s := { s1 with heap := h' }) he ?_
    refine ⟨s1.heap.objs.size + 1, [s1.heap.objs.size + 1, s1.heap.objs.size], _, _, H1, rfl, I1.kept (t' := s1.toks) hk, turn_enum tp a _ _ (Nat.ne_of_gt (Nat.lt_succ_self _)) (Nat.ne_of_lt (Nat.lt_succ_of_lt alt)) (Nat.ne_of_lt alt), ⟨⟨_, by simpa using he⟩, hS⟩, fun b hb => ?_, q⟩
    have hb' : b = s1.heap.objs.size + 1 ∨ b = s1.heap.objs.size := by simpa using hb
    rcases hb' with rfl | rfl
    · exact I1.fpOk (Nat.le_succ _) (I1.hok.fresh (Nat.le_succ _))
    · exact I1.fpOk (Nat.le_refl _) (I1.hok.fresh (Nat.le_refl _))
  cases tp with
  | true => exact call_enumT p fun h' he hS _ hk => fin h' he hS hk
  | false => exact call_enumerate_list p fun h' he hS _ hk => fin h' he hS hk
theorem for_enum {K : PySem.W.Frag} {tp : Bool} {a : Addr} {xs : List V} {g : TG} {tb : TS} {D : Ends} {σ : St} {H : Hp} (Pv : Nat → St → Hp → Prop) (h0 : Pv 0 σ H) (hl : ∀ i σ H, i ≤ xs.length → Pv i σ H → SqB K tp H a xs)
    (hs : ∀ i x t σ H, xs[i]? = some x → Pv i σ H → H t = none → g (.ref t) σ (upd H t (.tup [.int i, x])) fun σ2 H2 => tb { D with nx := Pv (i + 1), ct := Pv (i + 1), bk := D.nx } σ2 H2) (hd : ∀ σ H, Pv xs.length σ H → D.nx σ H) :
    ∃ W : Nat → Nat → St → Hp → Prop, (∃ m, W 0 m σ H) ∧ ∀ i m σ H, W i m σ H →
      ((Ite K tp a).stop i H ∧ D.nx σ H) ∨ ((Ite K tp a).go i H ∧ ∃ N : St → Hp → Prop, (∀ σ' H', N σ' H' → ∃ m', m' < m ∧ W (i + 1) m' σ' H') ∧ ∀ x H', (Ite K tp a).yld i H x H' → g x σ H' fun σ2 H2 => tb { D with nx := N, ct := N, bk := D.nx } σ2 H2) := by
  refine ⟨fun i m σ H => m = xs.length - i ∧ i ≤ xs.length ∧ Pv i σ H, ⟨xs.length, by simp, Nat.zero_le _, h0⟩, ?_⟩
  rintro i m σ H ⟨rfl, hi, p⟩
  have q := hl i σ H hi p
  by_cases hlt : i < xs.length
  · refine .inr ⟨⟨xs, xs[i], q, by simp [hlt]⟩, Pv (i + 1), fun σ' H' p' => ⟨xs.length - (i + 1), by omega, rfl, hlt, p'⟩, fun x H' y => ?_⟩
    obtain ⟨t, z, rfl, ht, hy, rfl⟩ := y
    exact hs i z t σ H (hy xs q) p ht
  · have e : i = xs.length := by omega
    subst e
    exact .inl ⟨⟨xs, q, rfl⟩, hd σ H p⟩
end
end L2

set_option Elab.async false
set_option linter.all false
set_option maxRecDepth 100000
namespace L2
open PySem PySem.Spec PyProof.Rows
section
variable {prog : Program} {w : World} {A : Around} {E : Value → Shared → Prop}
end
section
variable {X : Cx} {pos : Pos}
end
end L2

set_option Elab.async false
set_option linter.all false
set_option maxRecDepth 100000
namespace L2
open PySem PySem.Spec PyProof.Rows
theorem bt_len : bootBuiltins "len" = some (.builtin "len") := by decide +kernel
theorem bt_max : bootBuiltins "max" = some (.builtin "max") := by decide +kernel
theorem bt_min : bootBuiltins "min" = some (.builtin "min") := by decide +kernel
theorem bt_isinstance : bootBuiltins "isinstance" = some (.builtin "isinstance") := by decide +kernel
theorem bt_list : bootBuiltins "list" = some (.type "list") := by decide +kernel
theorem bt_tuple : bootBuiltins "tuple" = some (.type "tuple") := by decide +kernel
theorem bt_int : bootBuiltins "int" = some (.type "int") := by decide +kernel
theorem bt_bool : bootBuiltins "bool" = some (.type "bool") := by decide +kernel
theorem bt_enumerate : bootBuiltins "enumerate" = some (.type "enumerate") := by decide +kernel
structure Dn (K : PySem.W.Frag) (mg : Str → Option Value) (x qual : Str) (st : Stmt) (ps : List Str) (f : Addr) (fd : FuncData) : Prop where
  fn : Fun K x qual st f fd
  b : Binds K fd ps []
  m : mg x = some (.ref f)
theorem dn_mk {K : PySem.W.Frag} {h : Heap} {mg : Str → Option Value} (X : K.In h) (G : h.Ns mainGlobals mg) {x : Str} {st : Stmt} {ps : List Str} {f : Addr} {oc : Value} {od an : Option Addr} {osl : Array (Option Value)} {kV doc pm cdv ct : Value}
    (a : PySem.W.nsIn K mainGlobals x = some (some (.ref f))) (l : K.lookup f = some ⟨oc, od, .func (PySem.W.fnOf x x (defArgs st) (defBody st) (defScope st) .none kV doc pm an cdv ct), osl⟩)
    (c : PySem.W.codeIn K cdv x = true) (k : PySem.W.keepIn K (.ref f) = true)
    (b : ∀ (kV doc pm : Value) (an : Option Addr) (cdv ct : Value) (us : List Value), us.length = ps.length → bindArgs (PySem.W.fnOf x x (defArgs st) (defBody st) (defScope st) .none kV doc pm an cdv ct) ⟨us, []⟩ = pure (ps.zip us)) :
    ∃ f fd, Dn K mg x x st ps f fd := ⟨f, _, fun_mk (st := st) l c k, (fun_mk (st := st) l c k).binds b, PySem.W.mg_of X G a⟩
def isStar : Expr → Bool
  | .Starred _ _ => true
  | _ => false
theorem star_cons {e : Expr} {es : List Expr} {env : Env} (h : isStar e = false) : starEach (e :: es) env = (false, eval e env) :: starEach es env := by
  cases e with
  | Starred a b => exact Bool.noConfusion h
  | _ => kernel_rfl
theorem pa_c {X : Cx} {e : Expr} {es : List Expr} {te : TE} {t : TA} (ha : PE X e te) (hr : PA X es t) (h : isStar e = false := by rfl) : PA X (e :: es) (tCons te t) := pa_cons ha hr (star_cons h)
section
variable {X : Cx} {es : List Expr} {t : TA} {j : Nat} {p : Pos}
theorem pa_ofE {e : Expr} {te : TE} (ha : PE X e te) (hs : isStar e = false) (h : PA X es t) : PA X (e :: es) (tCons te t) := pa_c ha h hs
theorem pa_non (h : PA X es t) : PA X (.Constant .none j p :: es) (tCons (tC .non) t) := pa_ofE pe_non rfl h
theorem pa_bl {b : Bool} (h : PA X es t) : PA X (.Constant (.bool b) j p :: es) (tCons (tC (.bl b)) t) := pa_ofE pe_bl rfl h
theorem pa_str {x : Str} (h : PA X es t) : PA X (.Constant (.str x) j p :: es) (tCons (tC (.str x)) t) := pa_ofE pe_str rfl h
theorem pa_int {i : Int} (h : PA X es t) : PA X (.Constant (.int i) j p :: es) (tCons (tC (.int i)) t) := pa_ofE pe_int rfl h
theorem pa_lst {es' : List Expr} {t' : TA} (h' : PA X es' t') (h : PA X es t) : PA X (.List es' p :: es) (tCons (tLst t') t) := pa_ofE (pe_lst h') rfl h
theorem pa_tup {es' : List Expr} {t' : TA} {k : Nat} (h' : PA X es' t') (h : PA X es t) : PA X (.Tuple es' k p :: es) (tCons (tTup t') t) := pa_ofE (pe_tup h') rfl h
theorem pa_dnew (h : PA X es t) : PA X (.Dict [] [] p :: es) (tCons tDNewK t) := pa_ofE pe_dnewK rfl h
end
def blkOk (fs : Scope) (scope : Scope) (N : List Str) (x : Str) (Nf : List Str) (js : List Nat) : Bool :=
  (scope.kind == .function) && scope.names.all (fun y => y.2 != .cell) && scope.names.all (fun y => y.2 != .local || scope.names.lookup y.1 == some .local) && (scope.names.lookup x == some .local) &&
    decide (x :: Nf).Nodup && scope.names.all (fun y => y.2 != .free || fs.names.lookup y.1 == some .cell) && (Nf.length == js.length) &&
    (Nf.zip js).all (fun p => N[p.2]? == some p.1 && scope.names.lookup p.1 == some .free && fs.names.lookup p.1 == some .cell)
theorem blk_mk {X : Cx} {scope : Scope} {x : Str} (Nf : List Str) (js : List Nat) (h : blkOk X.env.scope scope X.N x Nf js = true := by kernel_rfl) : BlkScope X scope x Nf js := by
  unfold blkOk at h
  simp only [Bool.and_eq_true, beq_iff_eq, decide_eq_true_eq] at h
  obtain ⟨⟨⟨⟨⟨⟨⟨h1, h2⟩, h3⟩, h4⟩, h5⟩, h6⟩, h7⟩, h8⟩ := h
  refine ⟨h1, fun y hy => ?_, fun y hy hl => ?_, h4, h5, fun y hy hf => ?_, h7, fun i z hz => ?_⟩
  · have := List.all_eq_true.mp h2 y hy
    simpa using this
  · have := List.all_eq_true.mp h3 y hy
    rw [hl] at this
    simpa using this
  · have := List.all_eq_true.mp h6 y hy
    rw [hf] at this
    show X.env.scope.names.lookup y.1 = some .cell
    simpa using this
  · have hi : i < js.length := by rw [← h7]; exact (List.getElem?_eq_some_iff.mp hz).1
    have hm : (z, js[i]) ∈ Nf.zip js := by
      have e : (Nf.zip js)[i]? = some (z, js[i]) := by
        rw [List.getElem?_zip_eq_some]
        exact ⟨hz, by simp [hi]⟩
      exact List.mem_of_getElem? e
    have q := List.all_eq_true.mp h8 _ hm
    rw [Bool.and_eq_true, Bool.and_eq_true, beq_iff_eq, beq_iff_eq, beq_iff_eq] at q
    exact ⟨js[i], by simp [hi], q.1.1, q.1.2, q.2⟩
def ItB (K : PySem.W.Frag) (tp : Bool) (a : Addr) : It := if tp then Itt K a else Itl K a
def iSeq (K : PySem.W.Frag) (tp : Bool) (tl : TE) : TI := fun σ H R => tl σ H fun x H1 => ∃ a, x = .ref a ∧ (∃ xs, SqB K tp H1 a xs) ∧ R (ItB K tp a) H1
theorem pi_seq {X : Cx} {tg l : Expr} {tl : TE} (tp : Bool) (hl : PE X l tl) : PI X tg l (iSeq X.K tp tl) := by
  cases tp with
  | true => exact pi_tup hl
  | false => exact pi_list hl
def KB (p : Addr) (H H' : Hp) : Prop := ∀ b o, H b = some o → b ≠ p → H' b = some o
theorem KB.refl {p : Addr} {H : Hp} : KB p H H := fun _ _ h _ => h
theorem KB.trans {p : Addr} {H H1 H2 : Hp} (a : KB p H H1) (b : KB p H1 H2) : KB p H H2 := fun c o h n => b c o (a c o h n) n
theorem Same.kb {p : Addr} {H H' : Hp} (a : Same H H') : KB p H H' := fun b o h _ => a b o h
theorem Same.upd {H : Hp} {p : Addr} {o : HO} (h : H p = none) : Same H (upd H p o) := fun b u q => by rw [upd_ne (ne_of_none q h)]; exact q
theorem KB.updN {H H1 : Hp} {p q : Addr} {o : HO} (k : KB p H H1) (h : H1 q = none) : KB p H (upd H1 q o) := fun b u z n => by rw [upd_ne (ne_of_none (k b u z n) h)]; exact k b u z n
theorem KB.updP {H H1 : Hp} {p : Addr} {o : HO} (k : KB p H H1) : KB p H (upd H1 p o) := fun b u z n => by rw [upd_ne n]; exact k b u z n
end L2

set_option Elab.async false
set_option linter.all false
set_option maxRecDepth 100000
namespace L2
open PySem PySem.Spec PyProof.Rows
def kD : Key → PyData
  | .inl i => .int i
  | .inr x => .str x
mutual
inductive DV (N : Addr → Prop) (H : Hp) : V → PyData → Prop
  | non : DV N H .non .none
  | bl (b : Bool) : DV N H (.bl b) (.bool b)
  | int (i : Int) : DV N H (.int i) (.int i)
  | str (x : Str) : DV N H (.str x) (.str x)
  | lst {a : Addr} {xs : List V} {ds : List PyData} : ¬ N a → H a = some (.lst xs) → DVs N H xs ds → DV N H (.ref a) (.list ds)
  | tup {a : Addr} {xs : List V} {ds : List PyData} : ¬ N a → H a = some (.tup xs) → DVs N H xs ds → DV N H (.ref a) (.tuple ds)
  | dct {a : Addr} {kvs : List (Key × V)} {ds : List (PyData × PyData)} : ¬ N a → H a = some (.dK kvs) → DKs N H kvs ds → DV N H (.ref a) (.dict ds)
inductive DVs (N : Addr → Prop) (H : Hp) : List V → List PyData → Prop
  | nil : DVs N H [] []
  | cons {v : V} {d : PyData} {vs : List V} {ds : List PyData} : DV N H v d → DVs N H vs ds → DVs N H (v :: vs) (d :: ds)
inductive DKs (N : Addr → Prop) (H : Hp) : List (Key × V) → List (PyData × PyData) → Prop
  | nil : DKs N H [] []
  | cons {k : Key} {v : V} {d : PyData} {vs : List (Key × V)} {ds : List (PyData × PyData)} : DV N H v d → DKs N H vs ds → DKs N H ((k, v) :: vs) ((kD k, d) :: ds)
end
mutual
theorem DV.keep {N N' : Addr → Prop} {H H' : Hp} (k : ∀ a o, ¬ N a → H a = some o → H' a = some o) (n : ∀ a, N' a → N a) : ∀ {v : V} {d : PyData}, DV N H v d → DV N' H' v d
  | _, _, .non => .non
  | _, _, .bl b => .bl b
  | _, _, .int i => .int i
  | _, _, .str x => .str x
  | _, _, .lst na e r => .lst (fun z => na (n _ z)) (k _ _ na e) (DVs.keep k n r)
  | _, _, .tup na e r => .tup (fun z => na (n _ z)) (k _ _ na e) (DVs.keep k n r)
  | _, _, .dct na e r => .dct (fun z => na (n _ z)) (k _ _ na e) (DKs.keep k n r)
theorem DVs.keep {N N' : Addr → Prop} {H H' : Hp} (k : ∀ a o, ¬ N a → H a = some o → H' a = some o) (n : ∀ a, N' a → N a) : ∀ {vs : List V} {ds : List PyData}, DVs N H vs ds → DVs N' H' vs ds
  | _, _, .nil => .nil
  | _, _, .cons r t => .cons (DV.keep k n r) (DVs.keep k n t)
theorem DKs.keep {N N' : Addr → Prop} {H H' : Hp} (k : ∀ a o, ¬ N a → H a = some o → H' a = some o) (n : ∀ a, N' a → N a) : ∀ {vs : List (Key × V)} {ds : List (PyData × PyData)}, DKs N H vs ds → DKs N' H' vs ds
  | _, _, .nil => .nil
  | _, _, .cons r t => .cons (DV.keep k n r) (DKs.keep k n t)
end
mutual
theorem DV.one {N N' : Addr → Prop} {H : Hp} : ∀ {v : V} {d d' : PyData}, DV N H v d → DV N' H v d' → d = d'
  | _, _, _, .non, .non => rfl
  | _, _, _, .bl _, .bl _ => rfl
  | _, _, _, .int _, .int _ => rfl
  | _, _, _, .str _, .str _ => rfl
  | _, _, _, .lst _ e r, .lst _ e' r' => by rw [e] at e'; cases e'; rw [DVs.one r r']
  | _, _, _, .tup _ e r, .tup _ e' r' => by rw [e] at e'; cases e'; rw [DVs.one r r']
  | _, _, _, .dct _ e r, .dct _ e' r' => by rw [e] at e'; cases e'; rw [DKs.one r r']
  | _, _, _, .lst _ e _, .tup _ e' _ => by rw [e] at e'; cases e'
  | _, _, _, .lst _ e _, .dct _ e' _ => by rw [e] at e'; cases e'
  | _, _, _, .tup _ e _, .lst _ e' _ => by rw [e] at e'; cases e'
  | _, _, _, .tup _ e _, .dct _ e' _ => by rw [e] at e'; cases e'
  | _, _, _, .dct _ e _, .lst _ e' _ => by rw [e] at e'; cases e'
  | _, _, _, .dct _ e _, .tup _ e' _ => by rw [e] at e'; cases e'
theorem DVs.one {N N' : Addr → Prop} {H : Hp} : ∀ {vs : List V} {ds ds' : List PyData}, DVs N H vs ds → DVs N' H vs ds' → ds = ds'
  | _, _, _, .nil, .nil => rfl
  | _, _, _, .cons r t, .cons r' t' => by rw [DV.one r r', DVs.one t t']
theorem DKs.one {N N' : Addr → Prop} {H : Hp} : ∀ {vs : List (Key × V)} {ds ds' : List (PyData × PyData)}, DKs N H vs ds → DKs N' H vs ds' → ds = ds'
  | _, _, _, .nil, .nil => rfl
  | _, _, _, .cons r t, .cons r' t' => by rw [DV.one r r', DKs.one t t']
end
mutual
theorem DV.avoid {N N' : Addr → Prop} {H : Hp} {a : Addr} {D : PyData} (x : DV N' H (.ref a) D) : ∀ {v : V} {d : PyData}, DV N H v d → d.depth < D.depth → DV (fun b => N b ∨ b = a) H v d
  | _, _, .non, _ => .non
  | _, _, .bl b, _ => .bl b
  | _, _, .int i, _ => .int i
  | _, _, .str y, _ => .str y
  | _, _, .lst na e r, h => .lst (fun z => z.elim na fun q => by subst q; rw [DV.one x (DV.lst na e r)] at h; exact Nat.lt_irrefl _ h) e (DVs.avoid x r (by simp only [PyData.depth] at h; omega))
  | _, _, .tup na e r, h => .tup (fun z => z.elim na fun q => by subst q; rw [DV.one x (DV.tup na e r)] at h; exact Nat.lt_irrefl _ h) e (DVs.avoid x r (by simp only [PyData.depth] at h; omega))
  | _, _, .dct na e r, h => .dct (fun z => z.elim na fun q => by subst q; rw [DV.one x (DV.dct na e r)] at h; exact Nat.lt_irrefl _ h) e (DKs.avoid x r (by simp only [PyData.depth] at h; omega))
theorem DVs.avoid {N N' : Addr → Prop} {H : Hp} {a : Addr} {D : PyData} (x : DV N' H (.ref a) D) : ∀ {vs : List V} {ds : List PyData}, DVs N H vs ds → PyData.depthAll ds < D.depth → DVs (fun b => N b ∨ b = a) H vs ds
  | _, _, .nil, _ => .nil
  | _, _, .cons r t, h => .cons (DV.avoid x r (by simp only [PyData.depthAll] at h; omega)) (DVs.avoid x t (by simp only [PyData.depthAll] at h; omega))
theorem DKs.avoid {N N' : Addr → Prop} {H : Hp} {a : Addr} {D : PyData} (x : DV N' H (.ref a) D) : ∀ {vs : List (Key × V)} {ds : List (PyData × PyData)}, DKs N H vs ds → PyData.depthKv ds < D.depth → DKs (fun b => N b ∨ b = a) H vs ds
  | _, _, .nil, _ => .nil
  | _, _, .cons r t, h => .cons (DV.avoid x r (by simp only [PyData.depthKv] at h; omega)) (DKs.avoid x t (by simp only [PyData.depthKv] at h; omega))
end
def tyD : PyData → Value
  | .none => .type "NoneType" | .bool _ => .type "bool" | .int _ => .type "int" | .str _ => .type "str" | .list _ => .type "list" | .tuple _ => .type "tuple" | .dict _ => .type "dict"
theorem DV.thg {K : PySem.W.Frag} {N : Addr → Prop} {H : Hp} {v : V} {d : PyData} (x : DV N H v d) : Thg K H v (tyD d) := by
  cases x with
  | non => exact .non
  | bl b => exact .bl b
  | int i => exact .int i
  | str x => exact .str x
  | lst _ e _ => exact .lst e
  | tup _ e _ => exact .tup e
  | dct _ e _ => exact .dK e
theorem DVs.things {K : PySem.W.Frag} {N : Addr → Prop} {H : Hp} {vs : List V} {ds : List PyData} (x : DVs N H vs ds) : ∀ v ∈ vs, ∃ t, Thg K H v t := by
  induction vs generalizing ds with
  | nil => intro v hv; cases hv
  | cons v vs ih =>
    cases x with
    | cons r t =>
      intro u hu
      rcases List.mem_cons.mp hu with rfl | hu
      · exact ⟨_, r.thg⟩
      · exact ih t u hu
theorem DVs.length {N : Addr → Prop} {H : Hp} : ∀ {vs : List V} {ds : List PyData}, DVs N H vs ds → vs.length = ds.length
  | _, _, .nil => rfl
  | _, _, .cons _ t => by rw [List.length_cons, List.length_cons, DVs.length t]
theorem DVs.append {N : Addr → Prop} {H : Hp} : ∀ {vs us : List V} {ds es : List PyData}, DVs N H vs ds → DVs N H us es → DVs N H (vs ++ us) (ds ++ es)
  | _, _, _, _, .nil, q => q
  | _, _, _, _, .cons r t, q => .cons r (t.append q)
theorem DVs.mem {N : Addr → Prop} {H : Hp} : ∀ {vs : List V} {ds : List PyData}, DVs N H vs ds → ∀ v ∈ vs, ∃ d ∈ ds, DV N H v d
  | _, _, .nil, v, hv => by cases hv
  | _, _, .cons r t, v, hv => by
    rcases List.mem_cons.mp hv with rfl | hv
    · exact ⟨_, List.mem_cons_self .., r⟩
    · obtain ⟨d, h1, h2⟩ := DVs.mem t v hv
      exact ⟨d, List.mem_cons_of_mem _ h1, h2⟩
theorem entries_more {prog : Program} {w : World} {h₀ : Heap} {as as' : List Addr} {d d' : Nat} (hsub : ∀ b ∈ as, b ∈ as') (hd : d ≤ d') : ∀ {l : List DictEntry} {ts : List Str}, ReprEntriesK prog w as h₀ d l ts → ReprEntriesK prog w as' h₀ d' l ts
  | _, _, .nil => .nil
  | _, _, .cons a b t => .cons ((a.more hsub).level_le hd) ((b.more hsub).level_le hd) (entries_more hsub hd t)
section
variable {X : Cx} {pins : List (Addr × Obj)} {σ : St} {H : Hp} {s : Shared} {N : Addr → Prop}
def Low (N : Addr → Prop) (H : Hp) (n : Nat) (bs : List Addr) : Prop := ∀ b ∈ bs, ∃ d, DV N H (.ref b) d ∧ d.depth ≤ n
theorem Low.mono {n m : Nat} {bs : List Addr} (h : Low N H n bs) (k : n ≤ m) : Low N H m bs := fun b hb => let ⟨d, r, q⟩ := h b hb; ⟨d, r, Nat.le_trans q k⟩
theorem Low.append {n : Nat} {bs cs : List Addr} (h : Low N H n bs) (k : Low N H n cs) : Low N H n (bs ++ cs) := fun b hb => (List.mem_append.mp hb).elim (h b) (k b)
theorem Low.cons {n : Nat} {a : Addr} {d : PyData} {bs : List Addr} (r : DV N H (.ref a) d) (k : n ≤ d.depth) (h : Low N H n bs) : Low N H d.depth (a :: bs) := fun b hb => by
  rcases List.mem_cons.mp hb with rfl | hb
  · exact ⟨d, r, Nat.le_refl _⟩
  · exact h.mono k b hb
theorem Low.out {n : Nat} {a : Addr} {d : PyData} {bs : List Addr} (r : DV N H (.ref a) d) (k : n < d.depth) (h : Low N H n bs) : a ∉ bs := fun hb => by
  obtain ⟨d', r', q⟩ := h a hb
  rw [DV.one r' r] at q
  omega
mutual
theorem DV.shows (I : Inv X pins σ H s) : ∀ {v : V} {d : PyData} {u : Value}, DV N H v d → RelV v u → d.showable = true → d.shown.length ≤ sizeLine → ∃ bs, Low N H d.depth bs ∧ ReprK X.prog X.w bs s.heap d.depth u d.shown
  | _, _, u, .non, r, _, _ => by cases (show u = Value.none from r); exact ⟨[], (fun _ h => nomatch h), by simp only [PyData.shown]; exact .of_is ReprIs.none _ _ _⟩
  | _, _, u, .bl b, r, _, _ => by cases (show u = Value.bool b from r); exact ⟨[], (fun _ h => nomatch h), by simp only [PyData.shown]; exact .of_is (ReprIs.bool b) _ _ _⟩
  | _, _, u, .int i, r, hs, _ => by obtain ⟨t, rfl⟩ := (show ∃ t, u = Value.int i t from r); exact ⟨[], (fun _ h => nomatch h), by simp only [PyData.shown]; exact .of_is (ReprIs.int t (by simpa [PyData.showable] using hs)) _ _ _⟩
  | _, _, u, .str x, r, _, hz => by obtain ⟨t, rfl⟩ := (show ∃ t, u = Value.str x t from r); exact ⟨[], (fun _ h => nomatch h), by simp only [PyData.shown]; exact .of_is (ReprIs.str x t (by simpa only [PyData.shown] using hz)) _ _ _⟩
  | _, _, u, .lst (a := a) (xs := xs) (ds := ds) na e q, r, hs, hz => by
    cases (show u = Value.ref a from r)
    obtain ⟨_, its, n, rv, g⟩ := (show ObjOk X.prog X.w H s.heap a (.lst xs) from I.hok a _ e)
    have hz' : (listText (PyData.shownAll ds)).length ≤ sizeLine := by simpa only [PyData.shown] using hz
    obtain ⟨bs, hb, hk⟩ := DVs.shows I q rv (by simpa [PyData.showable] using hs) (fun t ht => Nat.le_trans (listText_mem_le ht) hz')
    have R : DV N H (.ref a) (.list ds) := .lst na e q
    have hna : a ∉ bs := Low.out R (by simp only [PyData.depth]; omega) hb
    refine ⟨a :: bs, Low.cons R (by simp only [PyData.depth]; omega) hb, ?_⟩
    simp only [PyData.depth, PyData.shown]
    cases rv with
    | nil =>
      cases q
      simp only [PyData.shownAll, listText_nil]
      exact ReprK.listEmpty g rfl rfl
    | cons r1 r2 => exact ReprK.list g rfl rfl hna (by simpa using hk.length_eq) (fun i y e => hk.item i y (by simpa using e))
  | _, _, u, .tup (a := a) (xs := xs) (ds := ds) na e q, r, hs, hz => by
    cases (show u = Value.ref a from r)
    obtain ⟨_, its, rv, ⟨o, h1, h2, n, h3⟩, _⟩ := (show ObjOk X.prog X.w H s.heap a (.tup xs) from I.hok a _ e)
    have hz' : (tupleText (PyData.shownAll ds)).length ≤ sizeLine := by simpa only [PyData.shown] using hz
    obtain ⟨bs, hb, hk⟩ := DVs.shows I q rv (by simpa [PyData.showable] using hs) (fun t ht => Nat.le_trans (tupleText_mem_le ht) hz')
    have R : DV N H (.ref a) (.tuple ds) := .tup na e q
    have hna : a ∉ bs := Low.out R (by simp only [PyData.depth]; omega) hb
    refine ⟨a :: bs, Low.cons R (by simp only [PyData.depth]; omega) hb, ?_⟩
    simp only [PyData.depth, PyData.shown]
    exact ReprK.tuple h1 h2 h3 hna (by simpa using hk)
  | _, _, u, .dct (a := a) (kvs := kvs) (ds := ds) na e q, r, hs, hz => by
    cases (show u = Value.ref a from r)
    obtain ⟨_, hsys, vs, kv, o, es, ep, h1, h2, h3, h4, h5, h6⟩ := (show ObjOk X.prog X.w H s.heap a (.dK kvs) from I.hok a _ e)
    have hz' : (dictText (PyData.shownKv ds)).length ≤ sizeLine := by simpa only [PyData.shown] using hz
    obtain ⟨bs, hb, hk⟩ := DKs.shows I q kv h5 (by simpa [PyData.showable] using hs) (fun t ht => Nat.le_trans (dictText_mem_le ht) hz')
    have R : DV N H (.ref a) (.dict ds) := .dct na e q
    have hna : a ∉ bs := Low.out R (by simp only [PyData.depth]; omega) hb
    refine ⟨a :: bs, Low.cons R (by simp only [PyData.depth]; omega) hb, ?_⟩
    simp only [PyData.depth, PyData.shown]
    exact ReprK.dict h1 h2.1 h3 hsys hna hk
theorem DVs.shows (I : Inv X pins σ H s) : ∀ {vs : List V} {ds : List PyData} {us : List Value}, DVs N H vs ds → Vals vs us → PyData.showableAll ds = true → (∀ t ∈ PyData.shownAll ds, t.length ≤ sizeLine) →
    ∃ bs, Low N H (PyData.depthAll ds) bs ∧ ReprAllK X.prog X.w bs s.heap (PyData.depthAll ds) us (PyData.shownAll ds)
  | _, _, _, .nil, .nil, _, _ => ⟨[], (fun _ h => nomatch h), by simp only [PyData.shownAll]; exact .nil⟩
  | _, _, _, .cons (d := d) (ds := ds) r t, .cons r1 r2, hs, hz => by
    obtain ⟨sd, sds⟩ : d.showable = true ∧ PyData.showableAll ds = true := by rwa [PyData.showableAll, Bool.and_eq_true] at hs
    obtain ⟨b1, hb1, k1⟩ := DV.shows I r r1 sd (hz _ (by simp only [PyData.shownAll]; exact List.mem_cons_self ..))
    obtain ⟨b2, hb2, k2⟩ := DVs.shows I t r2 sds (fun t ht => hz t (by simp only [PyData.shownAll]; exact List.mem_cons_of_mem _ ht))
    refine ⟨b1 ++ b2, (hb1.mono (by simp only [PyData.depthAll]; exact Nat.le_max_left _ _)).append (hb2.mono (by simp only [PyData.depthAll]; exact Nat.le_max_right _ _)), ?_⟩
    simp only [PyData.depthAll, PyData.shownAll]
    have m1 := (k1.more fun b hb => List.mem_append_left b2 hb).level_le (Nat.le_max_left d.depth (PyData.depthAll ds))
    have m2 := k2.more_le (fun b hb => List.mem_append_right b1 hb) (Nat.le_max_right d.depth (PyData.depthAll ds))
    exact .cons m1 m2
theorem DKs.shows (I : Inv X pins σ H s) : ∀ {vs : List (Key × V)} {ds : List (PyData × PyData)} {us : List (Key × Value)} {es : List DictEntry}, DKs N H vs ds → KV vs us → Pairs (mixKind X.prog X.w) es us → PyData.showableKv ds = true →
    (∀ t ∈ PyData.shownKv ds, t.length ≤ sizeLine) → ∃ bs, Low N H (PyData.depthKv ds) bs ∧ ReprEntriesK X.prog X.w bs s.heap (PyData.depthKv ds) es (PyData.shownKv ds)
  | _, _, _, _, .nil, .nil, .nil, _, _ => ⟨[], (fun _ h => nomatch h), by simp only [PyData.shownKv]; exact .nil⟩
  | _, _, _, [], .cons _ _, .cons _ _, w, _, _ => nomatch w
  | _, _, kv :: _, e :: _, .cons (k := k) (d := d) (ds := ds) r t, .cons q1 q2, w, hs, hz => by
    cases w with
    | cons w1 w2 w3 =>
    have hs' : ((kD k).showable = true ∧ d.showable = true) ∧ PyData.showableKv ds = true := by simpa [PyData.showableKv] using hs
    have hz1 : ((kD k).shown ++ ": " ++ d.shown).length ≤ sizeLine := hz _ (by simp only [PyData.shownKv]; exact List.mem_cons_self ..)
    rw [strLen_append, strLen_append] at hz1
    obtain ⟨z1, z2⟩ := q1
    obtain ⟨b1, hb1, k1⟩ := DV.shows I r z2 hs'.1.2 (by omega)
    obtain ⟨b2, hb2, k2⟩ := DKs.shows I t q2 w3 hs'.2 (fun t ht => hz t (by simp only [PyData.shownKv]; exact List.mem_cons_of_mem _ ht))
    have hk : ∀ n, ReprK X.prog X.w (b1 ++ b2) s.heap n e.key (kD k).shown := fun n => by
      have z1' : k = kv.1 := z1
      rcases keyIs_shape (show keyIs kv.1 e.key = true from w1) with ⟨i, tk, z, w4⟩ | ⟨x, tk, z, w4⟩
      · rw [w4, z1', z]
        have hsi := hs'.1.1
        rw [z1', z] at hsi
        simp only [kD, PyData.shown]
        exact .of_is (ReprIs.int tk (by simpa [kD, PyData.showable] using hsi)) _ _ _
      · rw [w4, z1', z]
        have hzi : (kD k).shown.length ≤ sizeLine := by omega
        rw [z1', z] at hzi
        simp only [kD, PyData.shown] at hzi ⊢
        exact .of_is (ReprIs.str x tk hzi) _ _ _
    refine ⟨b1 ++ b2, (hb1.mono (by simp only [PyData.depthKv]; omega)).append (hb2.mono (by simp only [PyData.depthKv]; omega)), ?_⟩
    simp only [PyData.depthKv, PyData.shownKv]
    exact .cons (hk _) (by rw [w2]; exact (k1.more fun b hb => List.mem_append_left _ hb).level_le (by omega)) (entries_more (fun b hb => List.mem_append_right _ hb) (by omega) k2)
end
structure Okd (n : Nat) (d : PyData) : Prop where
  sh : d.showable = true
  lv : d.leavesShort 40 = true
  dp : d.depth ≤ 20
  wt : d.weight ≤ n
theorem Okd.len {n : Nat} {d : PyData} (h : Okd n d) (hn : n ≤ 100000) : d.shown.length ≤ sizeLine := by
  have := PyData.shown_le 40 (by decide) d h.lv
  have e : (40 + 2) * d.weight ≤ 42 * 100000 := Nat.mul_le_mul (by omega) (Nat.le_trans h.wt hn)
  have : sizeLine = 16777216 := by decide
  omega
theorem call_reprD {X : Cx} (hg : X.A.guards = some []) (hu : X.A.units + 64 < cLine) : CallR X (.builtin "repr") (fun xs H Q => ∃ (v : V) (N : Addr → Prop) (d : PyData), xs = [v] ∧ DV N H v d ∧ Okd 100000 d ∧ Q (.str d.shown) H) := by
  intro pins s σ H xs us Q I r h
  obtain ⟨v, N, d, rfl, x, ok, q⟩ := h
  obtain ⟨u, rfl, rx⟩ := vals1 r
  have hz := ok.len (Nat.le_refl _)
  have hs := ok.sh
  have hd := ok.dp
  cases x with
  | non => cases (show u = Value.none from rx); exact P.repr_of_none ⟨.str PyData.none.shown, H, I.tok _, ⟨_, by simp only [PyData.shown]; rfl⟩, q⟩
  | bl b => cases (show u = Value.bool b from rx); exact P.repr_of_bool ⟨.str (PyData.bool b).shown, H, I.tok _, ⟨_, by simp only [PyData.shown]; rfl⟩, q⟩
  | int i =>
    obtain ⟨t, rfl⟩ := (show ∃ t, u = Value.int i t from rx)
    exact P.repr_of_int (by simpa [PyData.showable] using hs) ⟨.str (PyData.int i).shown, H, I.tok _, ⟨_, by simp only [PyData.shown]; rfl⟩, q⟩
  | str y =>
    obtain ⟨t, rfl⟩ := (show ∃ t, u = Value.str y t from rx)
    exact P.repr_of_str ⟨.str (PyData.str y).shown, H, I.tok _, ⟨_, by simp only [PyData.shown]; rfl⟩, q⟩ (by simpa only [PyData.shown] using hz)
  | @lst a xs ds na e p =>
    cases (show u = Value.ref a from rx)
    obtain ⟨_, its, n, rv, g⟩ := (show ObjOk X.prog X.w H s.heap a (.lst xs) from I.hok a _ e)
    have hz' : (listText (PyData.shownAll ds)).length ≤ sizeLine := by simpa only [PyData.shown] using hz
    obtain ⟨bs, hb, hk⟩ := DVs.shows I p rv (by simpa [PyData.showable] using hs) (fun t ht => Nat.le_trans (listText_mem_le ht) hz')
    have hna : a ∉ bs := Low.out (DV.lst na e p) (by simp only [PyData.depth]; omega) hb
    simp only [PyData.depth] at hd
    cases rv with
    | nil =>
      cases p
      refine call_repr_slot (by omega) ⟨_, g, rfl⟩ PySem.F.slot_list_repr.toG (call_list_repr_empty ⟨_, g, rfl⟩ g rfl ?_)
      exact ⟨_, _, rfl, .str (PyData.list []).shown, H, I.kept (fun _ _ e => e), ⟨_, by simp only [PyData.shown, PyData.shownAll, listText_nil]; rfl⟩, q⟩
    | cons r1 r2 =>
      refine call_repr_slot (by omega) ⟨_, g, rfl⟩ PySem.F.slot_list_repr.toG (call_list_reprK (g := []) g rfl rfl hna (by simpa using hk.length_eq) (fun i y z => hk.item i y (by simpa using z)) hg (fun b _ => Clear.nil b) (by show X.A.units + 1 + (_ + 1) < cLine; omega) (fun _ _ e => e) (fun h' u tk hkk => ⟨_, _, rfl, ?_⟩) hz')
      exact ⟨.str (PyData.list ds).shown, H, I.kept hkk, ⟨_, by simp only [PyData.shown]; rfl⟩, q⟩
  | @tup a xs ds na e p =>
    cases (show u = Value.ref a from rx)
    obtain ⟨_, its, rv, ⟨o, h1, h2, n, h3⟩, _⟩ := (show ObjOk X.prog X.w H s.heap a (.tup xs) from I.hok a _ e)
    have hz' : (tupleText (PyData.shownAll ds)).length ≤ sizeLine := by simpa only [PyData.shown] using hz
    obtain ⟨bs, hb, hk⟩ := DVs.shows I p rv (by simpa [PyData.showable] using hs) (fun t ht => Nat.le_trans (tupleText_mem_le ht) hz')
    have hna : a ∉ bs := Low.out (DV.tup na e p) (by simp only [PyData.depth]; omega) hb
    simp only [PyData.depth] at hd
    refine call_repr_slot (by omega) ⟨_, h1, h2⟩ PySem.F.slot_tuple_repr (call_tuple_reprK (g := []) h1 h2 h3 hna (by simpa using hk) hg (fun b _ => Clear.nil b) (by show X.A.units + 1 + (_ + 1) < cLine; omega) (fun _ _ e => e) (fun h' u tk hkk => ⟨_, _, rfl, ?_⟩) hz')
    exact ⟨.str (PyData.tuple ds).shown, H, I.kept hkk, ⟨_, by simp only [PyData.shown]; rfl⟩, q⟩
  | @dct a kvs ds na e p =>
    cases (show u = Value.ref a from rx)
    obtain ⟨_, hsys, vs, kv, o, es, ep, h1, h2, h3, h4, h5, h6⟩ := (show ObjOk X.prog X.w H s.heap a (.dK kvs) from I.hok a _ e)
    have hz' : (dictText (PyData.shownKv ds)).length ≤ sizeLine := by simpa only [PyData.shown] using hz
    obtain ⟨bs, hb, hk⟩ := DKs.shows I p kv h5 (by simpa [PyData.showable] using hs) (fun t ht => Nat.le_trans (dictText_mem_le ht) hz')
    have hna : a ∉ bs := Low.out (DV.dct na e p) (by simp only [PyData.depth]; omega) hb
    simp only [PyData.depth] at hd
    refine call_repr_slot (by omega) ⟨_, h1, h2.1⟩ PySem.F.slot_dict_repr (call_dict_reprK (g := []) h1 h2.1 h3 hsys hna hk hg (fun b _ => Clear.nil b) (by show X.A.units + 1 + (_ + 1) < cLine; omega) (fun _ _ e => e) (fun h' u tk hkk => ⟨_, _, rfl, ?_⟩) hz')
    exact ⟨.str (PyData.dict ds).shown, H, I.kept hkk, ⟨_, by simp only [PyData.shown]; rfl⟩, q⟩
end
theorem bt_repr : bootBuiltins "repr" = some (.builtin "repr") := by decide +kernel
theorem bt_all : bootBuiltins "all" = some (.builtin "all") := by decide +kernel
end L2

set_option Elab.async false
set_option linter.all false
set_option maxRecDepth 100000
namespace L2
open PySem PySem.Spec PyProof.Rows
section
variable {X : Cx}
theorem call_allB (hh : X.A.handled = none) : CallR X (.builtin "all") (fun xs H Q => ∃ (a : Addr) (bs : List Bool), xs = [.ref a] ∧ H a = some (.lst (bs.map V.bl)) ∧ Q (.bl (bs.all id)) H) := by
  intro pins s σ H xs us Q I r h
  obtain ⟨a, bs, rfl, hl, q⟩ := h
  obtain ⟨u, rfl, rx⟩ := vals1 r
  cases rx
  obtain ⟨hz, its, n, rv, g⟩ := (show ObjOk X.prog X.w H s.heap a (.lst (bs.map V.bl)) from I.hok a _ hl)
  have isl : s.heap.IsList a its.toArray := ⟨_, g, rfl, n, rfl⟩
  have lt := Heap.lt_size g
  refine call_all_walk (wpAny_pyIter_list isl ?_)
  have at_ : ∀ (i : Nat) (v : Value), its.toArray[i]? = some v → v = .bool (bs.getD i false) := fun i v e => by
    have e' : its[i]? = some v := by simpa using e
    obtain ⟨j1, j2⟩ := List.getElem?_eq_some_iff.mp e'
    have hi : i < bs.length := by have := rv.length; rw [List.length_map] at this; omega
    obtain ⟨u, u1, u2⟩ := rv.get (i := i) (x := .bl bs[i]) (by simp [hi])
    rw [e'] at u1
    cases u1
    rw [show v = Value.bool bs[i] from u2]
    simp [hi]
  refine ⟨_, _, _, _, _, _, fun i => bs.getD i false, rfl, Walks.list (by simp [hh]) _ a (Nat.ne_of_lt lt) its.toArray, ⟨⟨_, Heap.get?_push_size _ rfl, rfl, rfl⟩, isl.push _⟩, ?_, fun h' tk k => ?_⟩
  · intro i v s' R E' e hr
    rw [at_ i v e]
    exact wpAny_pure hr
  · have kk : ∀ b o, s.heap.get? b = some o → h'.get? b = some o := fun b o e => k b o (by
      intro z
      rw [List.mem_singleton.mp z] at e
      exact absurd (Heap.lt_size e) (Nat.lt_irrefl _)) (Heap.get?_push_of_some _ e)
    refine ⟨.bl (bs.all id), H, I.kept kk, ?_, q⟩
    show Value.bool _ = Value.bool _
    congr 1
    have e1 : its.toArray.size = bs.length := by have := rv.length; rw [List.length_map] at this; simp [← this]
    rw [e1]
    clear q rv hl isl g at_ e1
    rw [Bool.eq_iff_iff, List.all_eq_true, List.all_eq_true]
    constructor
    · intro f b hb
      obtain ⟨i, hi, e⟩ := List.getElem_of_mem hb
      have := f i (List.mem_range.mpr hi)
      simpa [hi, e] using this
    · intro f i hi
      have hi' := List.mem_range.mp hi
      have := f bs[i] (List.getElem_mem hi')
      simpa [hi'] using this
end
end L2

set_option Elab.async false
set_option linter.all false
set_option maxRecDepth 100000
namespace L2
open PySem PySem.Spec PyProof.Rows
section
variable {prog : Program} {w : World} {A : Around} {E : Value → Shared → Prop} {s : Shared}
end
section
variable {X : Cx}
structure BaseFn (K : PySem.W.Frag) (T : Addr) (m : Str) (f : Addr) : Prop where
  ga : PySem.W.specialIn K (.ref T) "__getattribute__" = some (some (.builtin "type.__getattribute__"))
  rd : PySem.W.readsIn K T (.type "type") = true
  at_ : PySem.W.findCls K (.ref T) (.type "type") m = some (.val (.ref f))
  kp : PySem.W.keepIn K (.ref f) = true
theorem pe_base {CX : CXT} {k : Nat} {T f : Addr} {fd : FuncData} {ps : List Str} {sp : Sp} {E : XK} {pl : Sem Bool} {x m : Str} {p apos pos : Pos} {e : Expr} {es : List Expr} {t : TA} (B : BaseFn X.K T m f) (F : FnOk X.prog X.w X.K X.mg X.base CX k f fd ps sp) (hr : Room k X.A)
    (hg : Gl X x) (hm : X.mg x = some (.ref T)) (hb : Binds X.K fd ps []) (hx : Passes CX X E) (ha : PA X (e :: es) t)
    (hdb : (x == ("__debug__" : Str)) = false := by decide) (he : starEach (e :: es) X.env = (false, eval e X.env) :: starEach es X.env := by rfl) (hpl : (backTo pos (starEach es X.env)).any (·.1) = false := by rfl)
    (ht : eval (.Call (.Attribute (.Name x p) m apos) (e :: es) [] pos) X.env = (do
      let ov ← eval (.Name x p) X.env
      standAt apos.atName
      let (f, first) ← holding [ov] (getMethod ov m pl)
      callWith pos f first (backTo pos (starEach (e :: es) X.env)) (backToKw pos (keywordEach [] X.env))) := by rfl) :
    PE X (.Call (.Attribute (.Name x p) m apos) (e :: es) [] pos) (tCall sp [] E t) := by
  intro pins s σ H Q I h
  refine PySem.W.methodCall_KW (pl := pl) (ld_glob I hg hm ?_ hdb) ht
  refine PySem.W.method_cls I.kIn B.ga (PySem.W.cls_value I.kIn B.rd B.at_ rfl ?_)
  refine PySem.W.callWith_K (h₀ := X.base) I.ok.mod.kin B.kp (thn (ha pos pins { s with toks := s.toks + 1 } σ H _ (I.tok _) h) fun us s1 ⟨vs, H1, I1, r, q⟩ => ⟨I1.kIn, ?_⟩) he hpl
  exact run_fn F hr hb .nil hx I1 r (by simpa using q)
structure InsC (K : PySem.W.Frag) (C : Addr) : Prop where
  cl : Cls K C
  ha : PySem.W.findIn K (.ref C) "__class__" = some (some (.builtin "object.__class__"))
  hn : PySem.W.specialIn K (.builtin "object.__class__") "__get__" = some (some (.builtin "getset_descriptor.__get__"))
  tk : PySem.W.takesIn K (.builtin "object.__class__") = some true
  hm : PySem.W.mroIn K C (.type "object") = some true
theorem call_instO : CallR X (.builtin "isinstance") (fun xs H Q => ∃ (a C D dx : Addr) (fs : List (Str × V)) (b : Bool), xs = [.ref a, .ref D] ∧ H a = some (.ins C dx fs) ∧ InsC X.K C ∧ PySem.W.kitOne X.K (.ref C) (.ref D) = some b ∧ Q (.bl b) H) := by
  intro pins s σ H xs us Q I r h
  obtain ⟨a, C, D, dx, fs, b, rfl, hi, c, e, q⟩ := h
  obtain ⟨u, u', rfl, ru, ru'⟩ := vals2 r
  cases (show u' = Value.ref D from ru')
  exact isinst_ok I ru (.ins hi c.cl c.ha c.hn c.tk c.hm) e fun tk => ⟨.bl b, H, I.tok tk, rfl, q⟩
end
end L2

set_option Elab.async false
set_option linter.all false
set_option maxRecDepth 100000
set_option maxHeartbeats 1000000
namespace L2
open PySem PyProof PyProof.Rows
theorem dict_len_at : typeLookup (.type "dict") "__len__" = pure (some (.builtin "dict.__len__")) := by rw [typeLookup_type, builtinLookup_eq_fast]; kernel_rfl
section
variable {prog : Program} {w : World} {A : Around} {E : Value → Shared → Prop} {s : Shared} {KK : Type} [DecidableEq KK] {knd : KeyKind prog w KK}
theorem go_in {R : Result → Shared → Prop} {id : String} {args : Args} {b : Builtin} (ent : entryFor table id = some b) (pl : plainId id = true) (k : wpAny (model prog w) A.in1 (b args) (fun fin t => match fin with | .done f => R (.ok f) t | .again c => c.quiet = true ∧ codeAny (model prog w) A c R t) (fun e t => R (.error e) t) s) : codeAny (model prog w) A (.builtin id args) R s :=
  codeAny_builtin ent (by rw [Around.under_plainId pl]; exact k)
theorem keys_of_dict {d : Addr} {kvs : List (KK × Value)} {ep : Nat} {Q : List Value → Shared → Prop} (hh : A.handled = none) (hS : (d == sysModules) = false) (hm : s.heap.DictAt knd d kvs ep) (hn : kvs.length ≤ sizeLine)
    (q : ∀ h' tk acc, s.heap.objs.size ≤ h'.objs.size → (∀ b o, s.heap.get? b = some o → h'.get? b = some o) → ItemsOf (fun i v => ∃ k x, kvs[i]? = some (k, x) ∧ knd.is k v = true) acc kvs.length → Q acc.toList { s with heap := h', toks := tk }) : wpAny (model prog w) A (collect (.ref d)) Q E s := by
  have dlt := hm.lt_size
  have T0 : s.TypeIs (.ref d) "dict" := hm.dictOf.typeIs
  refine show wpAny _ _ (runValue (.builtin "proto.collect" ⟨[.ref d], []⟩) >>= _) _ _ s from wpAny_bind (wpAny_runValue (go_in F.entry_proto_collect F.plain_proto_collect ?c0))
  refine wpAny_bind (m := newList []) (wpAny_newList (wpAny_pure ⟨plainId_quiet F.plain_list_iadd _, go_in F.entry_list_iadd F.plain_list_iadd (show wpAny _ A.in1 (typeOf (.ref d) >>= _) _ _ _ from ?c2)⟩))
  have m1 := hm.push { cls := .type "list", data := .seq ([] : List Value).toArray }
  have g1 : (s.heap.push { cls := .type "list", data := .seq ([] : List Value).toArray }).get? s.heap.objs.size = some { cls := .type "list", data := .seq ([] : List Value).toArray } := Heap.get?_push_size _ rfl
  have z1 : (s.heap.push { cls := .type "list", data := .seq ([] : List Value).toArray }).objs.size = s.heap.objs.size + 1 := by rw [Heap.size_push]
  have k1 : ∀ b o, s.heap.get? b = some o → (s.heap.push { cls := .type "list", data := .seq ([] : List Value).toArray }).get? b = some o := fun b o e => Heap.get?_push_of_some _ e
  generalize s.heap.push { cls := .type "list", data := .seq ([] : List Value).toArray } = h1 at *
  refine wpAny_bind (wpAny_typeOf (T := "dict") (s := { s with heap := h1 }) m1.dictOf.typeIs ?c3)
  have nd : s.heap.objs.size ≠ d := fun e => Nat.lt_irrefl _ (e ▸ dlt)
  have e1 : Builtin.List.listSameRef (.ref s.heap.objs.size) (.ref d) = false := by simp [Builtin.List.listSameRef, nd]
  rw [if_neg (by rw [e1]; decide)]
  refine wpAny_bind (wpAny_pyIter_dict (s := { s with heap := h1 }) hS m1 ?c4)
  dsimp only
  have m2 := m1.push { cls := .type "dict_keyiterator", data := .fields #[.ref d, .int 0 0, .int kvs.length 0, .int ep 0] }
  have i2 : (h1.push { cls := .type "dict_keyiterator", data := .fields #[.ref d, .int 0 0, .int kvs.length 0, .int ep 0] }).IsKeyIter h1.objs.size d 0 kvs.length ep := ⟨_, Heap.get?_push_size _ rfl, rfl, rfl⟩
  have g2 := Heap.get?_push_of_some { cls := .type "dict_keyiterator", data := .fields #[.ref d, .int 0 0, .int kvs.length 0, .int ep 0] } g1
  have k2 : ∀ b o, s.heap.get? b = some o → (h1.push { cls := .type "dict_keyiterator", data := .fields #[.ref d, .int 0 0, .int kvs.length 0, .int ep 0] }).get? b = some o := fun b o e => Heap.get?_push_of_some _ (k1 b o e)
  have n2 : s.heap.objs.size ≠ h1.objs.size := by rw [z1]; exact Nat.ne_of_lt (Nat.lt_succ_self _)
  have dI : d ≠ h1.objs.size := by rw [z1]; exact Nat.ne_of_lt (Nat.lt_succ_of_lt dlt)
  generalize hI : h1.objs.size = It at *
  generalize h1.push { cls := .type "dict_keyiterator", data := .fields #[.ref d, .int 0 0, .int kvs.length 0, .int ep 0] } = h2 at *
  refine wpAny_bind (wpAny_holding ?c5); unfold Builtin.List.listLengthHint
  refine wpAny_bind (wpAny_specialOf (T := "dict") (s := { s with heap := h2 }) m2.dictOf.typeIs dict_len_at ?c6)
  wp_delta
  refine wpAny_bind (wpAny_isInstance (T := "dict") (s := { s with heap := h2 }) (b := true) m2.dictOf.typeIs (by rw [isSubtype_type]; kernel_rfl) ?c7)
  show wpAny _ A.in1 (typeOf (Value.ref d) >>= _) _ _ _
  refine wpAny_bind (wpAny_typeOf (T := "dict") (s := { s with heap := h2 }) m2.dictOf.typeIs ?c8)
  refine wpAny_pure ?c9
  rw [if_pos (by decide +kernel)]
  refine wpAny_bind (wpAny_rule ?c10)
  refine wpAny_bind ?c11
  show wpAny _ _ (updateSeq s.heap.objs.size (·.push .none) >>= fun _ => updateSeq s.heap.objs.size (·.pop)) _ _ _
  refine wpAny_bind (wpAny_updateSeq (s := { s with heap := h2 }) g2 rfl ?c12)
  have g3 := Heap.get?_update_self (Obj.mapSeq (·.push Value.none)) g2 rfl
  refine wpAny_updateSeq (hz := by seq_fits) g3 rfl ?c13
  have g4 := Heap.get?_update_self (Obj.mapSeq (·.pop)) g3 rfl
  have o4 : ∀ b o, b ≠ s.heap.objs.size → h2.get? b = some o → ((h2.update s.heap.objs.size (Obj.mapSeq (·.push Value.none))).update s.heap.objs.size (Obj.mapSeq (·.pop))).get? b = some o := fun b o n e =>
    (Heap.get?_update_other _ _ (Ne.symm n)).trans ((Heap.get?_update_other _ _ (Ne.symm n)).trans e)
  generalize (h2.update s.heap.objs.size (Obj.mapSeq (·.push Value.none))).update s.heap.objs.size (Obj.mapSeq (·.pop)) = h4 at *
  have W := (Walks.dictKeys (prog := prog) (w := w) (A := A.in1) (knd := knd) hh It d dI kvs ep).toS
  have out : s.heap.objs.size ∉ [It, d] := fun z => by
    rcases List.mem_cons.mp z with z | z
    · exact n2 z
    · exact nd (List.mem_singleton.mp z)
  refine wpAny_pure ⟨plainId_quiet F.plain_extend_loop _, codeAny_extend_loopS W hn s.heap.objs.size out _ kvs.length 0 _ _ _ rfl (Nat.zero_le _) ⟨i2.at fun o e => o4 _ _ (Ne.symm n2) e, m2.at' fun o e => o4 _ _ (Ne.symm nd) e⟩ g4 (ItemsOf.nil _) fun s' acc' c' mv gS it => ?c14⟩
  refine show wpAny _ A (load s.heap.objs.size >>= _) _ _ s' from wpAny_bind (wpAny_load gS ?c15)
  have eq := Moved.eq_with mv
  have kp : ∀ b o, s.heap.get? b = some o → s'.heap.get? b = some o := fun b o e => by
    have lt := Heap.lt_size e
    have b1 : b ≠ s.heap.objs.size := Nat.ne_of_lt lt
    refine mv.heap b o (fun z => ?_) (o4 b o b1 (k2 b o e))
    rcases List.mem_cons.mp z with z | z
    · exact b1 z
    · rw [List.mem_singleton.mp z, z1] at lt
      exact absurd lt (Nat.not_lt.mpr (Nat.le_succ _))
  have sz := Nat.le_of_lt (Heap.lt_size gS)
  rw [eq]
  exact wpAny_pure (q s'.heap s'.toks acc' sz kp it)
theorem sorted_of_dict {d : Addr} {kvs : List (KK × Value)} {ep : Nat} {ns : List Int} {Q : Value → Shared → Prop} (hh : A.handled = none) (hS : (d == sysModules) = false) (hm : s.heap.DictAt knd d kvs ep) (h64 : kvs.length < 64)
    (hi : ∀ acc : Array Value, ItemsOf (fun i v => ∃ k x, kvs[i]? = some (k, x) ∧ knd.is k v = true) acc kvs.length → IntsAre acc.toList ns)
    (q : ∀ h' tk l (out : Array Value) e ns', (∀ b o, s.heap.get? b = some o → h'.get? b = some o) → s.heap.objs.size ≤ l → h'.get? l = some (seqObj "list" out e) → IntsAre out.toList ns' → ns'.Perm ns → ns'.Pairwise (· ≤ ·) → Q (.ref l) { s with heap := h', toks := tk }) : wpAny (model prog w) A (call (.builtin "sorted") [.ref d]) Q E s := by
  refine Calls.call_function_entry kind_sorted plain_sorted entry_sorted (args_sorted1 _) (show wpAny _ _ (checkCount "sorted" 1 1 1 >>= fun _ => collect (.ref d) >>= _) _ _ s from wpAny_bind (wpAny_pure (wpAny_bind ?c1)))
  refine keys_of_dict hh hS hm (by rw [show sizeLine = 16777216 by decide]; omega) fun h1 tk acc sz k1 it => ?c2
  have hI := hi acc it
  have len : acc.toList.length < 64 := by rw [Array.length_toList, it.1]; exact h64
  refine wpAny_bind (wpAny_newList ?c3)
  have g1 : (h1.push (seqObj "list" acc.toList.toArray 0)).get? h1.objs.size = some (seqObj "list" acc.toList.toArray 0) := Heap.get?_push_size _ rfl
  show wpAny _ _ _ _ _ { heap := h1.push (seqObj "list" acc.toList.toArray 0), gens := s.gens, drawn := s.drawn, toks := tk, os := s.os }
  refine wpAny_bind (wpAny_holding (wpAny_call_entry slot_list_sort ⟨_, g1, rfl⟩ entry_list_sort (list_sort_tree g1 hI len fun out ns' p1 p2 p3 => ⟨_, rfl, ?c4⟩) (args_list_sort _)))
  obtain ⟨e, ge⟩ := sortedHeap_at (out := out) g1
  refine wpAny_pure ⟨_, rfl, q _ tk h1.objs.size out e ns' (fun b o z => ?c5) ?c6 ge p1 p2 p3⟩
  case c5 =>
    have lt := Heap.lt_size (k1 b o z)
    rw [sortedHeap_old (Nat.ne_of_lt lt) (by rw [size_push']; exact Nat.lt_succ_of_lt lt)]
    exact Heap.get?_push_of_some _ (k1 b o z)
  case c6 => exact sz
end
theorem ints_by {us : List Value} {ns : List Int} (l : us.length = ns.length) (f : ∀ (i : Nat) (u : Value) (n : Int), us[i]? = some u → ns[i]? = some n → ∃ t, u = .int n t) : IntsAre us ns := by
  induction us generalizing ns with
  | nil =>
    have e : ns = [] := List.length_eq_zero_iff.mp l.symm
    rw [e]
    exact .nil
  | cons u us ih =>
    obtain ⟨n, ns, rfl⟩ := List.exists_cons_of_length_eq_add_one (n := us.length) l.symm
    obtain ⟨t, rfl⟩ := f 0 u n rfl rfl
    exact .cons n t (ih (Nat.succ.inj l) fun i u' n' a b => f (i + 1) u' n' a b)
section
variable {X : Cx}
theorem call_sortD (hh : X.A.handled = none) : CallR X (.builtin "sorted") (fun xs H Q => ∃ (a : Addr) (kvs : List (Key × V)) (ns : List Int), xs = [.ref a] ∧ Rd H a (.dK kvs) ∧ kvs.map (·.1) = ns.map Sum.inl ∧ ns.length < 64 ∧
    ∀ ns' : List Int, ns'.Perm ns → ns'.Pairwise (· ≤ ·) → ∀ l, H l = none → Q (.ref l) (upd H l (.lst (ns'.map V.int)))) := by
  intro pins s σ H xs us Q I r h
  obtain ⟨a, kvs, ns, rfl, hk, ek, hl, q⟩ := h
  obtain ⟨u, rfl, ru⟩ := vals1 r
  cases ru
  obtain ⟨hz, hS, vs, rk, m⟩ := dk_rd I.hok hk
  obtain ⟨ep, hm0⟩ := m.dictAt
  have e1 : vs.map (·.1) = kvs.map (·.1) := by
    clear hz m hm0 q hk ek
    induction rk with
    | nil => rfl
    | cons a b ih => rw [List.map_cons, List.map_cons, ih, a.1]
  have lv : vs.length = ns.length := by
    have := congrArg List.length (e1.trans ek)
    simpa using this
  refine sorted_of_dict (ns := ns) hh hS hm0 (by omega) (fun acc it => ?_) fun h' tk l out e ns' kp le g i1 i2 i3 => ?_
  · refine ints_by (by rw [Array.length_toList, it.1, lv]) fun i u n a b => ?_
    obtain ⟨k, x, e2, e3⟩ := it.2 i u (by simpa using a)
    have e4 : (vs.map (·.1))[i]? = some k := by rw [List.getElem?_map, e2]; rfl
    rw [e1, ek, List.getElem?_map, b] at e4
    cases e4
    rw [mixKind_is] at e3
    exact Value.isInt_shape (show Value.isInt n u = true from e3)
  · have rel : Vals (ns'.map V.int) out.toList := vals_ints i1
    refine ⟨.ref l, _, I.laid (a := l) (o := .lst (ns'.map V.int)) (t' := tk) kp le ⟨?_, out.toList, e, rel, by simpa using g⟩, rfl, q ns' i2 i3 l (I.hok.fresh le)⟩
    have := i2.length_eq
    rw [List.length_map, show sizeLine = 16777216 by decide]
    omega
end
end L2

set_option Elab.async false
set_option linter.all false
set_option maxRecDepth 100000
set_option maxHeartbeats 1000000
namespace L2
open PySem PyProof PyProof.Rows
section
variable {s : Shared} {E : Value → Shared → Prop} {A : Around} {prog : Program} {w : World}
theorem cat_none {t b : Addr} {ws : List Value} {Q : Value → Shared → Prop} (ht : IsTup s.heap t #[]) (hb : IsTup s.heap b ws.toArray) (q : Q (.ref b) s) : wpAny (model prog w) A (binaryOp .Add (.ref t) (.ref b)) Q E s := by
  obtain ⟨⟨c1, d1, x1, l1⟩, o1, e1, n1, f1⟩ := id ht
  obtain ⟨⟨c2, d2, x2, l2⟩, o2, e2, n2, f2⟩ := id hb
  simp only at e1 f1 e2 f2
  subst e1 f1 e2 f2
  exact concat_meets ⟨_, o1, rfl⟩ ⟨_, o2, rfl⟩ noFill_tuple_add seq_tuple_add PySem.F.slot_tuple_add PySem.F.entry_tuple_add (PySem.F.args_tuple_add_2 _ _) (tuple_addW0 t b #[] ws.toArray n1 n2 d1 d2 l1 l2 rfl) ⟨o1, o2, q⟩
end
section
variable {X : Cx}
theorem op_catTT : OpR X (binaryOp .Add) (fun x y H Q => ∃ a b xs ys, x = .ref a ∧ y = .ref b ∧ H a = some (.tup xs) ∧ H b = some (.tup ys) ∧ xs.length + ys.length ≤ sizeLine ∧ ∀ p H', Same H H' → H' p = some (.tup (xs ++ ys)) → Q (.ref p) H') := by
  intro pins s σ H x y v u Q I rx ry h
  obtain ⟨a, b, xs, ys, rfl, rfl, ha, hb, hz, q⟩ := h
  by_cases e : xs = []
  · subst e
    cases rx
    cases ry
    obtain ⟨i1, r1, p1, _⟩ := I.tuple (SqT.of ha)
    obtain ⟨i2, r2, p2, _⟩ := I.tuple (SqT.of hb)
    cases r1
    exact cat_none p1 p2 ⟨.ref b, H, I, rfl, q b H (Same.refl _) hb⟩
  · refine op_catT pins s σ H _ _ v u Q I rx ry ⟨a, b, xs, ys, rfl, rfl, SqT.of ha, SqT.of hb, e, hz, fun z => ?_, fun _ p hp => q p _ (Same.upd hp) upd_same⟩
    subst z
    exact q a H (Same.refl _) (by rw [List.append_nil]; exact ha)
end
end L2

set_option Elab.async false
set_option linter.all false
set_option maxRecDepth 100000
set_option maxHeartbeats 1000000
namespace L2
open PySem PyProof PyProof.Rows
section
variable {s : Shared} {E : Value → Shared → Prop} {A : Around} {prog : Program} {w : World}
theorem tup_index {t : Addr} {items : Array Value} {x : Value} {e : Nat → Bool} {j : Nat} {Q : Value → Shared → Prop} (ht : IsTup s.heap t items) (hj : j < items.size) (hit : e j = true) (hno : ∀ m, m < j → e m = false)
    (he : ∀ m (hm : m < items.size), SeqAt.EqAt A.in1 s items[m] x (e m)) (q : ∀ k s', s' = { s with toks := s.toks + 1 } → Q (.int j k) s') : wpAny (model prog w) A.in1 (Builtin.«tuple.index» ⟨[.ref t, x], []⟩) (fun fin s' => ∃ v, fin = .done (.ret v) ∧ Q v s') E s := by
  obtain ⟨o, h1, h2, n, h3⟩ := id ht
  unfold Builtin.«tuple.index»
  refine wpAny_bind (m := selfAndSome _ _ _ _ _) (wpAny_pure ?c0)
  dsimp only
  refine wpAny_bind (show wpAny _ _ (seqItems? _ >>= _) _ _ _ from wpAny_bind (wpAny_seqItems h1 h3 (wpAny_pure ?c2)))
  refine wpAny_bind (wpAny_pure ?c3)
  refine wpAny_bind (wpAny_pure ?c4)
  refine wpAny_bind ?c5
  rewrite [Std.Legacy.Range.forIn_eq_forIn_range' (m := Sem)]
  have sz : ([:min items.size items.size] : Std.Legacy.Range).size = items.size := by simp [Std.Legacy.Range.size]
  show wpAny _ _ (forIn (List.range' 0 ([:min items.size items.size] : Std.Legacy.Range).size 1) _ _) _ _ _
  rw [sz]
  refine wpAny_forIn_list _ (fun l b s' => ∃ i, i ≤ j ∧ l = List.range' i (items.size - i) 1 ∧ b = (none, ()) ∧ s' = s) _ ?turn ?fin _ _ ⟨0, Nat.zero_le _, rfl, rfl, rfl⟩
  case fin =>
    rintro b s' ⟨i, hi, hl, _⟩
    have := congrArg List.length hl
    rw [List.length_range'] at this
    simp at this
    omega
  case turn =>
    rintro k rest b s' ⟨i, hi, hl, rfl, rfl⟩
    obtain ⟨m, hm⟩ : ∃ m, items.size - i = m + 1 := ⟨items.size - i - 1, by omega⟩
    rw [hm, List.range'_succ] at hl
    injection hl with ek er
    subst ek er
    have lt : k < items.size := by omega
    rw [Array.getElem?_eq_getElem lt]
    dsimp only
    refine wpAny_bind (he k lt prog w _ _ ?_)
    by_cases c : k = j
    · subst c
      rw [hit, if_pos rfl]
      refine wpAny_bind ?r0
      unfold retInt
      refine wpAny_bind (wpAny_mkInt ?r1)
      refine wpAny_pure ?r2
      exact wpAny_pure (wpAny_pure ⟨_, rfl, q _ _ rfl⟩)
    · rw [hno k (by omega), if_neg Bool.false_ne_true]
      exact wpAny_pure ⟨k + 1, by omega, by congr 1; omega, rfl, rfl⟩
end
section
variable {X : Cx} {o e : Expr} {es : List Expr} {to : TE} {t : TA} {name : Str} {apos cpos : Pos} {id : String} {r : V → List V → Hp → VK → Prop}
def tBMT (r : V → List V → Hp → VK → Prop) (to : TE) (t : TA) : TE := fun σ H Q => to σ H fun x H1 => (∃ a ys, x = .ref a ∧ H1 a = some (.tup ys)) ∧ t σ H1 fun xs H2 => r x xs H2 Q
theorem pe_bmT (slot : Slot "tuple" name id) (hty : typeOf (.builtin id) = pure (.type "method_descriptor")) (hm : MtR X id r) (ho : PE X o to) (ha : PA X (e :: es) t)
    (hbase : attributeBase o name X.env (eval o X.env) = eval o X.env := by rfl)
    (hfew : ((backTo cpos (starEach (e :: es) X.env)).all (fun x => !x.1) && (backToKw cpos (keywordEach [] X.env)).all (fun x => x.1.isSome) && decide ((e :: es).length + ([] : List Keyword).length + (if ([] : List Keyword).isEmpty then 0 else 1) < 30)) = true := by rfl)
    (hline : (apos.endLine == cpos.line) = true := by rfl) (hs : starEach (e :: es) X.env = (false, eval e X.env) :: starEach es X.env := by rfl) (hpl : (backTo cpos (starEach es X.env)).any (·.1) = false := by rfl) :
    PE X (.Call (.Attribute o name apos) (e :: es) [] cpos) (tBMT r to t) := by
  intro pins s σ H Q I h
  refine wpAny_Call_method_late hbase hfew hline rfl (thn (ho pins s σ H _ I h) fun v s1 ⟨x, H1, I1, r1, ⟨a, ys, ex, ea⟩, q1⟩ => ?_)
  subst ex
  cases r1
  obtain ⟨_, its, _, ⟨ob, g, c, _⟩, dn⟩ := (show ObjOk X.prog X.w H1 s1.heap a (.tup ys) from I1.hok a _ ea)
  refine ⟨"tuple", id, PySem.F.plainAttrs_tuple, slot, hty, ⟨ob, g, c⟩, fun b z => ?_, ?_⟩
  · cases z
    exact ⟨ob, g, dn ob g⟩
  have hA := ha cpos pins s1 σ H1 _ I1 q1
  rw [hs] at hA ⊢
  refine Calls.callWith_builtin (by show (false || (backTo cpos (starEach es X.env)).any (·.1)) = false; rw [hpl] <;> rfl) (Calls.evalArgs_plain ?_)
  exact thn hA fun us s2 ⟨vs, H2, I2, r2, q2⟩ => hm pins s2 σ H2 (.ref a) vs (.ref a) us Q I2 (show RelV (.ref a) (.ref a) from rfl) r2 q2
theorem mt_indexT : MtR X "tuple.index" (fun x vs H Q => ∃ a ys y j, x = .ref a ∧ vs = [y] ∧ H a = some (.tup ys) ∧ flatV y = true ∧ ys.all flatV = true ∧ (∃ z, ys[j]? = some z ∧ eqV z y = true) ∧ (∀ m z, m < j → ys[m]? = some z → eqV z y = false) ∧ Q (.int (j : Nat)) H) := by
  intro pins s σ H x vs v us Q I rx rv h
  obtain ⟨a, ys, y, j, rfl, rfl, ha, fy, fa, hj, hn, q⟩ := h
  cases rx
  obtain ⟨u, rfl, ru⟩ := rv.one
  obtain ⟨_, its, r, p, _⟩ := (show ObjOk X.prog X.w H s.heap a (.tup ys) from I.hok a _ ha)
  have len := r.length
  obtain ⟨z, hz, ez⟩ := hj
  have jl : j < its.toArray.size := by
    rw [List.size_toArray, ← len]
    exact (List.getElem?_eq_some_iff.mp hz).1
  have at_ : ∀ m (hm : m < its.toArray.size), ∃ w', ys[m]? = some w' ∧ RelV w' its.toArray[m] ∧ flatV w' = true := fun m hm => by
    have hm' : m < its.length := by simpa using hm
    have hy : m < ys.length := by omega
    have g := List.getElem?_eq_getElem hy
    obtain ⟨u', hu, ru'⟩ := Vals.get r g
    have e1 : its.toArray[m] = u' := by
      rw [List.getElem?_eq_getElem hm'] at hu
      simpa using hu
    exact ⟨ys[m], g, by rw [e1]; exact ru', List.all_eq_true.mp fa _ (List.getElem_mem hy)⟩
  refine wpAny_call_entry PySem.F.slot_tuple_index (by obtain ⟨ob, g, c, _⟩ := p; exact ⟨ob, g, c⟩) PySem.F.entry_tuple_index (tup_index (e := fun m => match ys[m]? with | some w' => eqV w' y | none => false) (j := j) p jl (by rw [hz]; exact ez) (fun m hm => ?_) (fun m hm => ?_) fun k s' e => ?_) (PySem.F.args_tuple_index_2 _ _)
  · cases c : ys[m]? with
    | none => rfl
    | some w' => exact hn m w' hm c
  · obtain ⟨w', g, rr, ff⟩ := at_ m hm
    rw [g]
    exact eqAt_V rr ru ff fy
  · subst e
    exact ⟨.int (j : Nat), H, I.tok _, ⟨k, rfl⟩, q⟩
end
end L2

set_option Elab.async false
set_option linter.all false
set_option maxRecDepth 100000
set_option maxHeartbeats 1000000
namespace L2
open PySem PyProof PyProof.Rows
section
variable {X : Cx}
end
end L2

set_option Elab.async false
set_option linter.all false
set_option maxRecDepth 100000
set_option maxHeartbeats 1000000
namespace L2
open PySem PyProof PyProof.Rows
section
variable {X : Cx}
theorem op_inD (hu : X.A.units + 1 < cLine) : OpR X (compareOp .In) (fun x y H Q => ∃ a o, y = .ref a ∧ DGet H a x o ∧ Q (.bl o.isSome) H) := by
  intro pins s σ H x y v u Q I rx ry h
  obtain ⟨a, o, rfl, g, q⟩ := h
  cases ry
  exact d_in hu I g rx fun s' I' => ⟨.bl _, H, I', rfl, q⟩
theorem op_notInD (hu : X.A.units + 1 < cLine) : OpR X (compareOp .NotIn) (fun x y H Q => ∃ a o, y = .ref a ∧ DGet H a x o ∧ Q (.bl (!o.isSome)) H) := by
  intro pins s σ H x y v u Q I rx ry h
  obtain ⟨a, o, rfl, g, q⟩ := h
  cases ry
  exact d_notIn hu I g rx fun s' I' => ⟨.bl _, H, I', rfl, q⟩
end
end L2

set_option Elab.async false
set_option linter.all false
set_option maxRecDepth 100000
set_option maxHeartbeats 400000
namespace L2
open PySem
def ZipO (h : Heap) (z TI TO : Addr) (f0 f1 : Value) : Prop :=
  h.get? z = some { cls := .type "zip", dict := none, data := .fields #[f0, f1, .bool false, .ref TI, .ref TO], slots := #[] }
def ZFree (h : Heap) (f0 : Value) : Prop := f0 = .none ∨ ∃ (T : Nat) (o : Obj), f0 = rawInt T ∧ h.get? T = some o
structure ZipS (h : Heap) (z TI TO i1 i2 : Addr) : Prop where
  z : ∃ f0 f1, ZipO h z TI TO f0 f1 ∧ ZFree h f0
  ti : IsPair h TI (.ref i1) (.ref i2)
  to : ∃ a b, IsPair h TO a b
def Ag (B : List Addr) (h h' : Heap) : Prop := h'.objs.size = h.objs.size ∧ ∀ c, c ∉ B → h'.get? c = h.get? c
theorem Ag.refl {B : List Addr} {h : Heap} : Ag B h h := ⟨rfl, fun _ _ => rfl⟩
theorem Ag.trans {B : List Addr} {h h' h2 : Heap} (a : Ag B h h') (b : Ag B h' h2) : Ag B h h2 := ⟨b.1.trans a.1, fun c n => (b.2 c n).trans (a.2 c n)⟩
theorem Ag.one {B : List Addr} {h h' : Heap} {i : Addr} (m : i ∈ B) (a : Heap.SameBut i h h') : Ag B h h' := ⟨a.1, fun c n => a.2 c fun e => n (e ▸ m)⟩
theorem Ag.upd {B : List Addr} {h : Heap} {i : Addr} {f : Obj → Obj} (m : i ∈ B) : Ag B h (h.update i f) := ⟨Heap.size_update h i f, fun c n => Heap.get?_update_ne h c i f fun e => n (e ▸ m)⟩
theorem ZipO.set0 {h : Heap} {z TI TO : Addr} {f0 f1 v : Value} (o : ZipO h z TI TO f0 f1) : ZipO (h.update z (Obj.mapFields (·.setIfInBounds 0 v))) z TI TO v f1 := Heap.get?_update_self _ o rfl
theorem ZipO.set1 {h : Heap} {z TI TO : Addr} {f0 f1 v : Value} (o : ZipO h z TI TO f0 f1) : ZipO (h.update z (Obj.mapFields (·.setIfInBounds 1 v))) z TI TO f0 v := Heap.get?_update_self _ o rfl
theorem pair_set0 {h : Heap} {T : Addr} {a b v : Value} (o : IsPair h T a b) : IsPair (h.update T (Obj.mapSeq (·.setIfInBounds 0 v))) T v b := Heap.get?_update_self _ o rfl
theorem pair_set1 {h : Heap} {T : Addr} {a b v : Value} (o : IsPair h T a b) : IsPair (h.update T (Obj.mapSeq (·.setIfInBounds 1 v))) T a v := Heap.get?_update_self _ o rfl
section
variable {prog : Program} {w : World} {A : Around} {E : Value → Shared → Prop} {s : Shared} {z TI TO i1 i2 l1 l2 : Addr} {n1 n2 i : Nat} {P1 P2 : Nat → Value → Prop} {St1 St2 : Nat → Heap → Prop}
theorem seen_if {a : Addr} {Q : Option Obj → Shared → Prop} (h : Q (s.heap.get? a) s) : wpAny (model prog w) A (loadIfAlive a) Q E s := fun _ _ _ => h
theorem own_free {f0 f1 : Value} {Q : Bool → Shared → Prop} (o : ZipO s.heap z TI TO f0 f1) (fr : ZFree s.heap f0) (q1 : f0 = .none → Q true s)
    (q2 : f0 ≠ .none → ∀ f1', ZipO (s.heap.update z (Obj.mapFields (·.setIfInBounds 1 f1'))) z TI TO f0 f1' → Q false { s with heap := s.heap.update z (Obj.mapFields (·.setIfInBounds 1 f1')) }) (q3 : f0 ≠ .none → f1 = .bool true → Q false s) : wpAny (model prog w) A (Builtin.SmallTypes.ownedTupleIsFree (.ref z)) Q E s := by
  refine show wpAny _ _ (field (.ref z) 0 >>= _) _ _ s from wpAny_bind (wpAny_field o rfl (i := 0) rfl ?_)
  rcases fr with rfl | ⟨T, oT, rfl, hT⟩
  · exact wpAny_pure (q1 rfl)
  · refine wpAny_bind (seen_if ?_)
    have e : s.heap.get? ((T : Int).toNat) = some oT := hT
    rw [e]
    by_cases c : f1 = .bool true
    · subst c
      refine wpAny_bind (wpAny_field o rfl (i := 1) rfl ?_)
      exact wpAny_pure (q3 (fun z => nomatch z) rfl)
    · refine wpAny_bind (wpAny_field o rfl (i := 1) rfl ?_)
      have nb : (f1 != Value.bool true) = true := bne_iff_ne.mpr c
      show wpAny _ _ (if (f1 != Value.bool true) = true then _ else _) _ _ s
      rw [if_pos nb]
      exact wpAny_bind (wpAny_setField o rfl (by show 1 < 5; decide) (wpAny_pure (q2 (fun z => nomatch z) _ o.set1)))
end
end L2

set_option Elab.async false
set_option linter.all false
set_option maxRecDepth 100000
set_option maxHeartbeats 400000
namespace L2
open PySem
section
variable {prog : Program} {w : World} {A : Around} {E : Value → Shared → Prop} {s : Shared} {z TI TO i1 i2 l1 l2 : Addr} {n1 n2 i : Nat} {P1 P2 : Nat → Value → Prop} {St1 St2 : Nat → Heap → Prop}
def Far (P1 P2 : Nat → Value → Prop) (St1 St2 : Nat → Heap → Prop) (i : Nat) (k : Nat) (x y : Value) (h : Heap) : Prop :=
  (k = 0 ∧ St1 i h ∧ St2 i h) ∨ (k = 1 ∧ P1 i x ∧ St1 (i + 1) h ∧ St2 i h) ∨ (k = 2 ∧ P1 i x ∧ P2 i y ∧ St1 (i + 1) h ∧ St2 (i + 1) h)
theorem st_other {it jt l : Addr} {n k : Nat} {P : Nat → Value → Prop} {St : Nat → Heap → Prop} {h h' : Heap} (D : Draws prog w A jt [jt, l] n P St) (a : jt ≠ it) (b : l ≠ it) (q : ∀ c, c ≠ it → h'.get? c = h.get? c) (x : St k h) : St k h' :=
  D.frame k h h' x fun c hc o ho => by
    have : c ≠ it := by
      intro e
      rw [e] at hc
      rcases List.mem_cons.mp hc with q | q
      · exact a q.symm
      · exact b (List.mem_singleton.mp q).symm
    rw [q c this]
    exact ho
theorem zp_item {Q : Value → Shared → Prop} (Z : ZipApart z TI TO i1 i2 l1 l2) (D1 : Draws prog w A i1 [i1, l1] n1 P1 St1) (D2 : Draws prog w A i2 [i2, l2] n2 P2 St2) (S : ZipS s.heap z TI TO i1 i2)
    (s1 : St1 i s.heap) (s2 : St2 i s.heap) (h1 : i < n1) (h2 : i < n2)
    (onQ : ∀ x y h' tk (T : Nat), P1 i x → P2 i y → ZipS h' z TI TO i1 i2 → (∀ f, ZipO s.heap z TI TO .none f → ZipO h' z TI TO (rawInt T) (.bool false)) → St1 (i + 1) h' → St2 (i + 1) h' → IsPair h' T x y → s.heap.objs.size ≤ T → (∀ c o, c ≠ z → c ≠ TO → c ≠ i1 → c ≠ i2 → s.heap.get? c = some o → h'.get? c = some o) → Q (.ref T) { s with heap := h', toks := tk }) :
    wpAny (model prog w) A (Builtin.«zip.__next__» ⟨[.ref z], []⟩) (fun fl s' => ∃ u, fl = .done (.ret u) ∧ Q u s') E s := by
  obtain ⟨f0, f1, o, fr⟩ := S.z
  obtain ⟨a, b, to⟩ := S.to
  have nz1 := Z.i1z.symm
  have nz2 := Z.i2z.symm
  -- the road that collects, from a heap that differs at z only
  have road : ∀ (hh : Heap) (g0 g1 : Value) (f : Value → Option PySem.Fin × Array Value → Sem (ForInStep (Option PySem.Fin × Array Value))) (g : Value → Option PySem.Fin × Array Value → Sem (ForInStep (Option PySem.Fin × Array Value))),
      (∀ it r, f it r = holding r.2.toList (Builtin.SmallTypes.nextOf it >>= fun x => pure (some x)) >>= fun d => match d with | some x => pure (.yield (none, r.2.push x)) | none => g it r) →
      (∀ c, c ≠ z → hh.get? c = s.heap.get? c) → hh.objs.size = s.heap.objs.size → ZipO hh z TI TO g0 g1 → ZFree s.heap g0 → g0 ≠ .none → (∀ f, ¬ ZipO s.heap z TI TO .none f) →
      wpAny (model prog w) A (forIn (#[Value.ref i1, Value.ref i2] : Array Value) ((none, #[]) : Option PySem.Fin × Array Value) f) (fun r s' => r.1 = none ∧ wpAny (model prog w) A (newTuple r.2.toList >>= fun t => ret t) (fun fl s' => ∃ u, fl = .done (.ret u) ∧ Q u s') E s') E { s with heap := hh } := by
    intro hh g0 g1 f g hf off sz oz fz ng no
    have t1 : St1 i hh := st_other D1 Z.i1z Z.l1z off s1
    have t2 : St2 i hh := st_other D2 Z.i2z Z.l2z off s2
    refine PySem.MeetsSeq2.wpAny_forIn_array _ (fun rest r s' => r.1 = none ∧ ∃ h' tk x y k, s' = { s with heap := h', toks := tk } ∧ Ag [i1, i2] hh h' ∧ r.2 = (#[x, y] : Array Value).take k ∧ rest = [Value.ref i1, Value.ref i2].drop k ∧ Far P1 P2 St1 St2 i k x y h') _ ?turn ?fin _ _ ⟨rfl, hh, s.toks, .none, .none, 0, rfl, .refl, rfl, rfl, .inl ⟨rfl, t1, t2⟩⟩
    case turn =>
      rintro it rest ⟨r, its⟩ s' ⟨hr, h', tk, x, y, k, rfl, ag, ei, er, far⟩
      rw [hf]
      rcases far with ⟨rfl, c1, c2⟩ | ⟨rfl, p1, c1, c2⟩ | ⟨rfl, _⟩
      · injection er with e1 e2
        subst e1 e2
        refine wpAny_bind (wpAny_holding (wpAny_bind (D1.item i _ _ _ h1 c1 fun x' h3 tk' px d1 sb => wpAny_pure (wpAny_pure ⟨rfl, h3, tk', x', y, 1, rfl, ag.trans (Ag.one (by simp) sb), ?_, rfl, .inr (.inl ⟨rfl, px, d1, st_other D2 Z.i12.symm Z.l2i1 (fun c n => sb.2 c n) c2⟩)⟩))))
        have : its = #[] := ei
        subst this
        rfl
      · injection er with e1 e2
        subst e1 e2
        refine wpAny_bind (wpAny_holding (wpAny_bind (D2.item i _ _ _ h2 c2 fun y' h3 tk' py d2 sb => wpAny_pure (wpAny_pure ⟨rfl, h3, tk', x, y', 2, rfl, ag.trans (Ag.one (by simp) sb), ?_, rfl, .inr (.inr ⟨rfl, p1, py, st_other D1 Z.i12 Z.l1i2 (fun c n => sb.2 c n) c1, d2⟩)⟩))))
        have : its = #[x] := ei
        subst this
        rfl
      · cases er
    case fin =>
      rintro ⟨r, its⟩ s' ⟨hr, h', tk, x, y, k, rfl, ag, ei, er, far⟩
      rcases far with ⟨rfl, _⟩ | ⟨rfl, _⟩ | ⟨rfl, p1, p2, c1, c2⟩
      · cases er
      · cases er
      · have : its = #[x, y] := ei
        subst this
        refine ⟨hr, wpAny_bind (wpAny_newTuple (wpAny_pure ⟨_, rfl, ?_⟩))⟩
        have keep : ∀ {c : Addr} {oc : Obj}, h'.get? c = some oc → (h'.push { cls := .type "tuple", data := .seq #[x, y] }).get? c = some oc := fun e => Heap.get?_push_of_some _ e
        have at' : ∀ {c : Addr}, c ≠ i1 → c ≠ i2 → h'.get? c = hh.get? c := fun a b => ag.2 _ (by simp [a, b])
        have st : ∀ {it jt l : Addr} {n k : Nat} {P : Nat → Value → Prop} {St : Nat → Heap → Prop}, Draws prog w A jt [jt, l] n P St → St k h' → St k (h'.push { cls := .type "tuple", data := .seq #[x, y] }) := fun D q => D.frame _ _ _ q fun c _ oc ho => keep ho
        refine onQ x y _ tk _ p1 p2 ⟨⟨g0, g1, keep ((at' nz1 nz2).trans oz), ?_⟩, keep ((at' Z.TIi1 Z.TIi2).trans ((off _ Z.TIz).trans S.ti)), a, b, keep ((at' Z.TOi1 Z.TOi2).trans ((off _ Z.TOz).trans to))⟩ (fun f q => absurd q (no f)) (st (it := i1) D1 c1) (st (it := i1) D2 c2) (Heap.get?_push_size h' rfl) (by rw [ag.1, sz]; exact Nat.le_refl _) (fun c oc n0 n3 n4 n5 e => keep ((at' n4 n5).trans ((off c n0).trans e)))
        rcases fz with e | ⟨T, oT, e, hT⟩
        · exact absurd e ng
        · by_cases cz : T = z
          · exact .inr ⟨T, _, e, by rw [cz]; exact keep ((at' nz1 nz2).trans oz)⟩
          · by_cases ca : T = i1
            · obtain ⟨o1, q1⟩ := D1.live _ _ c1
              exact .inr ⟨T, _, e, by rw [ca]; exact keep q1⟩
            · by_cases cb : T = i2
              · obtain ⟨o1, q1⟩ := D2.live _ _ c2
                exact .inr ⟨T, _, e, by rw [cb]; exact keep q1⟩
              · exact .inr ⟨T, oT, e, keep ((at' ca cb).trans ((off T cz).trans hT))⟩
  unfold Builtin.«zip.__next__»
  refine wpAny_bind (wpAny_pure (wpAny_bind (wpAny_field o rfl (i := 2) (x := .bool false) rfl ?_)))
  refine wpAny_bind (wpAny_field o rfl (i := 3) (x := .ref TI) rfl ?_)
  refine wpAny_bind (wpAny_seqItems S.ti rfl ?_)
  dsimp only
  rw [if_neg (by simp)]
  refine wpAny_bind (own_free o fr ?_ ?_ ?_)
  · rintro rfl
    rw [if_pos rfl]
    refine wpAny_bind (wpAny_rule (wpAny_bind (wpAny_field o rfl (i := 4) (x := .ref TO) rfl ?_)))
    refine wpAny_bind (wpAny_setField o rfl (by show 0 < 5; decide) ?_)
    have oe := o.set0 (v := .ellipsis)
    have off : ∀ c, c ≠ z → (s.heap.update z (Obj.mapFields (·.setIfInBounds 0 Value.ellipsis))).get? c = s.heap.get? c := fun c n => Heap.get?_update_ne _ c z _ n
    have sz : (s.heap.update z (Obj.mapFields (·.setIfInBounds 0 Value.ellipsis))).objs.size = s.heap.objs.size := Heap.size_update ..
    have t1 := st_other D1 Z.i1z Z.l1z off s1
    have t2 := st_other D2 Z.i2z Z.l2z off s2
    generalize s.heap.update z (Obj.mapFields (·.setIfInBounds 0 Value.ellipsis)) = hh at *
    refine wpAny_bind (wpAny_forIn_list _ (fun rest r s' => r.1 = none ∧ ∃ h' tk x y k, s' = { s with heap := h', toks := tk } ∧ Ag [i1, i2, TO] hh h' ∧ (∃ a b, IsPair h' TO a b ∧ (0 < k → a = x) ∧ (1 < k → b = y)) ∧ rest = [(Value.ref i1, 0), (Value.ref i2, 1)].drop k ∧ Far P1 P2 St1 St2 i k x y h') _ ?turn ?fin _ _ ⟨rfl, hh, s.toks, .none, .none, 0, rfl, .refl, ⟨a, b, (off _ Z.TOz).trans to, fun z => absurd z (by decide), fun z => absurd z (by decide)⟩, rfl, .inl ⟨rfl, t1, t2⟩⟩)
    case turn =>
      rintro ⟨it, k0⟩ rest ⟨r, _⟩ s' ⟨hr, h', tk, x, y, k, rfl, ag, ⟨a', b', t, ea, eb⟩, er, far⟩
      rcases far with ⟨rfl, c1, c2⟩ | ⟨rfl, p1, c1, c2⟩ | ⟨rfl, _⟩
      · injection er with e1 e2
        injection e1 with e1 e3
        subst e1 e2 e3
        refine wpAny_bind (wpAny_onRaise ?_)
        show wpAny _ _ (Builtin.SmallTypes.nextOf (.ref i1) >>= fun y => pure (some y)) _ _ _
        refine wpAny_bind (D1.item i _ _ _ h1 c1 fun x' h3 tk' px d1 sb => wpAny_pure ?_)
        have u : IsPair h3 TO a' b' := (sb.2 TO Z.TOi1).trans t
        refine wpAny_bind (wpAny_seqItems u rfl (wpAny_bind (wpAny_updateSeq u rfl (wpAny_bind (wpAny_letGo (wpAny_pure ⟨rfl, _, tk', x', .none, 1, rfl, ?_, ⟨x', b', pair_set0 u, fun _ => rfl, fun z => absurd z (by decide)⟩, rfl, .inr (.inl ⟨rfl, px, ?_, ?_⟩)⟩))))))
        · exact ag.trans ((Ag.one (by simp) sb).trans (Ag.upd (by simp)))
        · exact st_other D1 Z.TOi1.symm Z.l1TO (fun c n => Heap.get?_update_ne _ c TO _ n) d1
        · exact st_other D2 Z.TOi2.symm Z.l2TO (fun c n => Heap.get?_update_ne _ c TO _ n) (st_other D2 Z.i12.symm Z.l2i1 (fun c n => sb.2 c n) c2)
      · injection er with e1 e2
        injection e1 with e1 e3
        subst e1 e2 e3
        refine wpAny_bind (wpAny_onRaise ?_)
        show wpAny _ _ (Builtin.SmallTypes.nextOf (.ref i2) >>= fun y => pure (some y)) _ _ _
        refine wpAny_bind (D2.item i _ _ _ h2 c2 fun y' h3 tk' py d2 sb => wpAny_pure ?_)
        have u : IsPair h3 TO a' b' := (sb.2 TO Z.TOi2).trans t
        refine wpAny_bind (wpAny_seqItems u rfl (wpAny_bind (wpAny_updateSeq u rfl (wpAny_bind (wpAny_letGo (wpAny_pure ⟨rfl, _, tk', x, y', 2, rfl, ?_, ⟨a', y', pair_set1 u, fun _ => ea (by decide), fun _ => rfl⟩, rfl, .inr (.inr ⟨rfl, p1, py, ?_, ?_⟩)⟩))))))
        · exact ag.trans ((Ag.one (by simp) sb).trans (Ag.upd (by simp)))
        · exact st_other D1 Z.TOi1.symm Z.l1TO (fun c n => Heap.get?_update_ne _ c TO _ n) (st_other D1 Z.i12 Z.l1i2 (fun c n => sb.2 c n) c1)
        · exact st_other D2 Z.TOi2.symm Z.l2TO (fun c n => Heap.get?_update_ne _ c TO _ n) d2
      · cases er
    case fin =>
      rintro ⟨r, _⟩ s' ⟨hr, h', tk, x, y, k, rfl, ag, ⟨a', b', t, ea, eb⟩, er, far⟩
      rcases far with ⟨rfl, _⟩ | ⟨rfl, _⟩ | ⟨rfl, p1, p2, c1, c2⟩
      · cases er
      · cases er
      cases (show r = none from hr)
      rw [ea (by decide), eb (by decide)] at t
      refine wpAny_bind (wpAny_seqItems t rfl (wpAny_bind (wpAny_newTuple ?_)))
      have oz : ZipO h' z TI TO .ellipsis f1 := (ag.2 z (by simp [nz1, nz2, Z.TOz.symm])).trans oe
      have zT : z ≠ h'.objs.size := fun e => by
        have l := Heap.lt_size oz
        rw [← e] at l
        exact Nat.lt_irrefl z l
      have keep : ∀ {c : Addr} {oc : Obj}, h'.get? c = some oc → (h'.push { cls := .type "tuple", data := .seq #[x, y] }).get? c = some oc := fun e => Heap.get?_push_of_some _ e
      have o3 : ZipO (h'.push { cls := .type "tuple", data := .seq #[x, y] }) z TI TO .ellipsis f1 := keep oz
      have o4 := o3.set0 (v := rawInt h'.objs.size)
      have o5 := o4.set1 (v := .bool false)
      refine wpAny_bind (show wpAny _ _ (setField (.ref z) 0 (rawInt h'.objs.size) >>= fun _ => setField (.ref z) 1 (.bool false)) _ _ _ from wpAny_bind (wpAny_setField o3 rfl (by show 0 < 5; decide) (wpAny_setField o4 rfl (by show 1 < 5; decide) (wpAny_pure ⟨_, rfl, ?_⟩))))
      have lift : ∀ {c : Addr} {oc : Obj}, c ≠ z → h'.get? c = some oc → (((h'.push { cls := .type "tuple", data := .seq #[x, y] }).update z (Obj.mapFields (·.setIfInBounds 0 (rawInt h'.objs.size)))).update z (Obj.mapFields (·.setIfInBounds 1 (.bool false)))).get? c = some oc := fun n e => by
        rw [Heap.get?_update_ne _ _ _ _ n, Heap.get?_update_ne _ _ _ _ n]
        exact keep e
      have new : (((h'.push { cls := .type "tuple", data := .seq #[x, y] }).update z (Obj.mapFields (·.setIfInBounds 0 (rawInt h'.objs.size)))).update z (Obj.mapFields (·.setIfInBounds 1 (.bool false)))).get? h'.objs.size = some { cls := .type "tuple", data := .seq #[x, y] } := by
        rw [Heap.get?_update_ne _ _ _ _ zT.symm, Heap.get?_update_ne _ _ _ _ zT.symm]
        exact Heap.get?_push_size h' rfl
      have at' : ∀ {c : Addr}, c ≠ i1 → c ≠ i2 → c ≠ TO → h'.get? c = hh.get? c := fun a b d => ag.2 _ (by simp [a, b, d])
      refine onQ x y _ tk _ p1 p2 ⟨⟨_, _, o5, .inr ⟨_, _, rfl, new⟩⟩, lift Z.TIz ((at' Z.TIi1 Z.TIi2 Z.TITO).trans ((off _ Z.TIz).trans S.ti)), x, y, lift Z.TOz t⟩ (fun _ _ => o5) ?_ ?_ new (by rw [ag.1, sz]; exact Nat.le_refl _) (fun c oc m0 m3 m4 m5 e => lift m0 ((at' m4 m5 m3).trans ((off c m0).trans e)))
      · exact D1.frame _ _ _ c1 fun c hc oc ho => lift (by rcases List.mem_cons.mp hc with rfl | hc; exact Z.i1z; rw [List.mem_singleton.mp hc]; exact Z.l1z) ho
      · exact D2.frame _ _ _ c2 fun c hc oc ho => lift (by rcases List.mem_cons.mp hc with rfl | hc; exact Z.i2z; rw [List.mem_singleton.mp hc]; exact Z.l2z) ho
  · intro ng f1' o'
    rw [if_neg (by decide)]
    refine wpAny_bind (wpAny_mono (road _ f0 f1' _ _ (fun it r => rfl) (fun c n => Heap.get?_update_ne _ c z _ n) (Heap.size_update ..) o' fr ng fun f q => ng ?_) ?_ fun _ _ z => z)
    · have e := (show s.heap.get? z = _ from o).symm.trans (show s.heap.get? z = _ from q)
      injection e with e
      injection e with _ _ e
      injection e with e
      exact congrArg (fun v : Array Value => v.getD 0 .none) e
    · rintro ⟨r, its⟩ s' ⟨hr, q⟩
      cases (show r = none from hr)
      exact q
  · rintro ng rfl
    rw [if_neg (by decide)]
    refine wpAny_bind (wpAny_mono (road s.heap f0 _ _ _ (fun it r => rfl) (fun c n => rfl) rfl o fr ng fun f q => ng ?_) ?_ fun _ _ z => z)
    · have e := (show s.heap.get? z = _ from o).symm.trans (show s.heap.get? z = _ from q)
      injection e with e
      injection e with _ _ e
      injection e with e
      exact congrArg (fun v : Array Value => v.getD 0 .none) e
    · rintro ⟨r, its⟩ s' ⟨hr, q⟩
      cases (show r = none from hr)
      exact q
end
end L2

set_option Elab.async false
set_option linter.all false
set_option maxRecDepth 100000
set_option maxHeartbeats 400000
namespace L2
open PySem
section
variable {prog : Program} {w : World} {A : Around} {E : Value → Shared → Prop} {s : Shared} {z TI TO i1 i2 l1 l2 : Addr} {n1 n2 i : Nat} {P1 P2 : Nat → Value → Prop} {St1 St2 : Nat → Heap → Prop}
theorem zp_end {Q : Fin → Shared → Prop} (Z : ZipApart z TI TO i1 i2 l1 l2) (D1 : Draws prog w A i1 [i1, l1] n1 P1 St1) (S : ZipS s.heap z TI TO i1 i2) (s1 : St1 n1 s.heap)
    (onE : ∀ h' e, (∀ c o, c ≠ z → c ≠ TO → c ≠ i1 → c ≠ i2 → s.heap.get? c = some o → h'.get? c = some o) → (∃ o, h'.get? e = some o ∧ o.cls = .type "StopIteration") → E (.ref e) { s with heap := h' }) :
    wpAny (model prog w) A (Builtin.«zip.__next__» { pos := [.ref z], kw := [] }) Q E s := by
  obtain ⟨f0, f1, o, fr⟩ := S.z
  obtain ⟨a, b, to⟩ := S.to
  -- the draw that ends, out of a heap that differs at z only
  have stop : ∀ (hh : Heap) (R : Option Value → Shared → Prop) (E' : Value → Shared → Prop), (∀ c, c ≠ z → hh.get? c = s.heap.get? c) →
      (∀ h' e, (∀ c oc, c ≠ i1 → hh.get? c = some oc → h'.get? c = some oc) → (∃ oc, h'.get? e = some oc ∧ oc.cls = .type "StopIteration") → E' (.ref e) { s with heap := h' }) →
      wpAny (model prog w) A (Builtin.SmallTypes.nextOf (.ref i1) >>= fun y => pure (some y)) R E' { s with heap := hh } := fun hh R E' off k =>
    wpAny_bind (D1.done _ _ _ (st_other D1 Z.i1z Z.l1z off s1) fun h' e x t => k h' e (fun c oc n q => x c oc n q) t)
  have road : ∀ (hh : Heap) (f : Value → Option PySem.Fin × Array Value → Sem (ForInStep (Option PySem.Fin × Array Value))) (g : Value → Option PySem.Fin × Array Value → Sem (ForInStep (Option PySem.Fin × Array Value))) (R : Option PySem.Fin × Array Value → Shared → Prop),
      (∀ it r, f it r = holding r.2.toList (Builtin.SmallTypes.nextOf it >>= fun x => pure (some x)) >>= fun d => match d with | some x => pure (.yield (none, r.2.push x)) | none => g it r) → (∀ c, c ≠ z → hh.get? c = s.heap.get? c) →
      wpAny (model prog w) A (forIn (#[Value.ref i1, Value.ref i2] : Array Value) ((none, #[]) : Option PySem.Fin × Array Value) f) R E { s with heap := hh } := by
    intro hh f g R hf off
    refine PySem.MeetsSeq2.wpAny_forIn_array _ (fun rest r s' => rest = [Value.ref i1, Value.ref i2] ∧ s' = { s with heap := hh }) _ ?_ ?_ _ _ ⟨rfl, rfl⟩
    · rintro it rest r s' ⟨er, rfl⟩
      injection er with e1 e2
      subst e1
      rw [hf]
      exact wpAny_bind (wpAny_holding (stop hh _ _ off fun h' e keep t => onE h' e (fun c oc m0 m3 m4 m5 q => keep c oc m4 ((off c m0).trans q)) t))
    · rintro r s' ⟨er, _⟩
      cases er
  unfold Builtin.«zip.__next__»
  refine wpAny_bind (wpAny_pure (wpAny_bind (wpAny_field o rfl (i := 2) (x := .bool false) rfl ?_)))
  refine wpAny_bind (wpAny_field o rfl (i := 3) (x := .ref TI) rfl ?_)
  refine wpAny_bind (wpAny_seqItems S.ti rfl ?_)
  dsimp only
  rw [if_neg (by simp)]
  refine wpAny_bind (own_free o fr ?_ ?_ ?_)
  · rintro rfl
    rw [if_pos rfl]
    refine wpAny_bind (wpAny_rule (wpAny_bind (wpAny_field o rfl (i := 4) (x := .ref TO) rfl ?_)))
    refine wpAny_bind (wpAny_setField o rfl (by show 0 < 5; decide) ?_)
    have oe := o.set0 (v := .ellipsis)
    have off : ∀ c, c ≠ z → (s.heap.update z (Obj.mapFields (·.setIfInBounds 0 Value.ellipsis))).get? c = s.heap.get? c := fun c n => Heap.get?_update_ne _ c z _ n
    generalize s.heap.update z (Obj.mapFields (·.setIfInBounds 0 Value.ellipsis)) = hh at *
    refine wpAny_bind (wpAny_forIn_list _ (fun rest r s' => rest = [(Value.ref i1, 0), (Value.ref i2, 1)] ∧ s' = { s with heap := hh }) _ ?_ ?_ _ _ ⟨rfl, rfl⟩)
    · rintro ⟨it, k⟩ rest r s' ⟨er, rfl⟩
      injection er with e1 e2
      injection e1 with e1 e3
      subst e1
      refine wpAny_bind (wpAny_onRaise ?_)
      show wpAny _ _ (Builtin.SmallTypes.nextOf (.ref i1) >>= fun y => pure (some y)) _ _ _
      refine stop hh _ _ off fun h' e keep ⟨oc, q1, q2⟩ => ?_
      have oz : ZipO h' z TI TO .ellipsis f1 := keep z _ Z.i1z.symm oe
      refine wpAny_setField oz rfl (by show 0 < 5; decide) (onE _ e (fun c o' m0 m3 m4 m5 q => ?_) ?_)
      · rw [Heap.get?_update_ne _ _ _ _ m0]
        exact keep c o' m4 ((off c m0).trans q)
      · have ne : e ≠ z := fun c => by
          rw [c, show h'.get? z = _ from oz] at q1
          cases q1
          injection q2 with q2
          exact absurd q2 (by decide)
        exact ⟨oc, by rw [Heap.get?_update_ne _ _ _ _ ne]; exact q1, q2⟩
    · rintro r s' ⟨er, _⟩
      cases er
  · intro ng f1' o'
    rw [if_neg (by decide)]
    exact wpAny_bind (road _ _ _ _ (fun it r => rfl) fun c n => Heap.get?_update_ne _ c z _ n)
  · rintro ng rfl
    rw [if_neg (by decide)]
    exact wpAny_bind (road s.heap _ _ _ (fun it r => rfl) fun c n => rfl)
end
end L2

set_option Elab.async false
set_option linter.all false
set_option maxRecDepth 100000
set_option maxHeartbeats 1000000
namespace L2
open PySem
theorem zip_lacks {n : Str} (h : (match fastLookup "zip" n with | some none => true | _ => false) = true) : typeLookup (.type "zip") n = pure none := am_miss_of_fast h
section
variable {prog : Program} {w : World} {A : Around} {E : Value → Shared → Prop} {s : Shared} {z TI TO : Addr} {f0 f1 : Value}
theorem zk_miss {Q : PySem.Fin → Shared → Prop} {u : Tok} (o : ZipO s.heap z TI TO f0 f1) (hA : A.handled = none) (h : ∀ h' tk e, s.heap.NewAttrErr h' e (.ref z) "keys" → E (.ref e) { s with heap := h', toks := tk }) :
    wpAny (model prog w) A (Builtin.«object.__getattribute__» ⟨[.ref z, .str "keys" u], []⟩) Q E s := by
  have lacks := zip_lacks (n := "keys") (by kernel_rfl)
  have ty : s.TypeIs (.ref z) "zip" := ⟨_, o, rfl⟩
  have plain : (["__module__", "__name__", "__qualname__", "__doc__", "__annotations__"] : List Str).contains "keys" = false := by decide +kernel
  have oz : s.heap.get? z = some { cls := .type "zip", dict := none, data := .fields #[f0, f1, .bool false, .ref TI, .ref TO], slots := #[] } := o
  wp_walk
  exact wpAny_raiseAttrError hA h (attrMsg_fits (by decide +kernel) (by size_fits))
theorem own_entry : entryFor table "zip.__getattribute__" = some Builtin.«object.__getattribute__» := entryFor_alias (id' := "object.__getattribute__") (by kernel_rfl) (by decide +kernel) (by decide +kernel) (by kernel_rfl)
theorem zk_none {Q : Option Value → Shared → Prop} (o : ZipO s.heap z TI TO f0 f1) (hA : A.handled = none) (h : ∀ h' tk, (∀ c oc, s.heap.get? c = some oc → h'.get? c = some oc) → Q none { s with heap := h', toks := tk }) : wpAny (model prog w) A (getAttr? (.ref z) "keys") Q E s := by
  have ty : ∀ tk, Shared.TypeIs { s with toks := tk } (.ref z) "zip" := fun tk => ⟨_, o, rfl⟩
  have ty0 : s.TypeIs (.ref z) "zip" := ⟨_, o, rfl⟩
  have b1 := F.slot_zip_getattribute.lookup
  have b2 := F.slot_zip_getattribute.bind (.ref z)
  have b3 := zip_lacks (n := "__getattr__") (by kernel_rfl)
  have go : ∀ {Q' : Value → Shared → Prop} {E' : Value → Shared → Prop} {tk : Nat}, (∀ h' tk' e, s.heap.NewAttrErr h' e (.ref z) "keys" → E' (.ref e) { s with heap := h', toks := tk' }) → wpAny (model prog w) A (call (.builtin "zip.__getattribute__") ([.ref z] ++ [.str "keys" s.toks])) Q' E' { s with toks := tk } := fun {Q' E' tk} q =>
    wpAny_call_entry F.slot_zip_getattribute (ty tk) own_entry (zk_miss (s := { s with toks := tk }) o hA q) (F.args_zip_getattribute_2 _ _)
  show wpAny _ _ (mkText "keys" >>= fun n => getAttrBy? (.ref z) n) _ _ _
  wp_walk using go
  intro h' tk' e ne
  obtain ⟨ta, tb, there⟩ := ne.there
  have sub := sub_AttributeError
  show wpAny _ _ (getattributeRaised (.ref z) (.str "keys" s.toks) (.type "zip") (.ref e) none false false) _ _ _
  wp_walk
  exact h h' tk' ne.keeps
end
end L2

set_option Elab.async false
set_option linter.all false
set_option maxRecDepth 100000
set_option maxHeartbeats 1000000
namespace L2
open PySem
def SeqAt (tp : Bool) (h : Heap) (l : Addr) (xs : Array Value) : Prop := if tp then h.IsTuple l xs else h.IsList l xs
def IterAt (tp : Bool) (h : Heap) (it l : Addr) (k : Nat) : Prop := if tp then h.IsTupleIter it l k else h.IsListIter it l k
theorem push5 {h : Heap} {a b c d e : Obj} (fa : a.isFreed = false) (fb : b.isFreed = false) (fc : c.isFreed = false) (fd : d.isFreed = false) (fe : e.isFreed = false) :
    ∃ h', h' = ((((h.push a).push b).push c).push d).push e ∧ h'.objs.size = h.objs.size + 5 ∧ h'.get? h.objs.size = some a ∧ h'.get? (h.objs.size + 1) = some b ∧ h'.get? (h.objs.size + 2) = some c ∧ h'.get? (h.objs.size + 3) = some d ∧ h'.get? (h.objs.size + 4) = some e ∧ ∀ x o, h.get? x = some o → h'.get? x = some o := by
  have up : ∀ {g : Heap} {x : Addr} {o p : Obj}, g.get? x = some o → (g.push p).get? x = some o := fun q => Heap.get?_push_of_some _ q
  have sz : ∀ {g : Heap} {p : Obj}, (g.push p).objs.size = g.objs.size + 1 := fun {g p} => Heap.size_push ..
  refine ⟨_, rfl, by rw [sz, sz, sz, sz, sz], up (up (up (up (Heap.get?_push_at rfl fa)))), up (up (up (Heap.get?_push_at (by rw [sz]) fb))), up (up (Heap.get?_push_at (by rw [sz, sz]) fc)), up (Heap.get?_push_at (by rw [sz, sz, sz]) fd), Heap.get?_push_at (by rw [sz, sz, sz, sz]) fe, fun x o q => up (up (up (up (up q))))⟩
section
variable {s : Shared} {E : Value → Shared → Prop} {A : Around} {prog : Program} {w : World}
theorem new_tup (l1 l2 : Addr) (xs ys : Array Value) : Meets (Builtin.«zip.__new__» ⟨[.type "zip", .ref l1, .ref l2], []⟩) (fun _ R s => s.heap.IsTuple l1 xs ∧ s.heap.IsTuple l2 ys ∧
    ∀ h', h'.objs.size = s.heap.objs.size + 5 → h'.get? s.heap.objs.size = some { cls := .type "tuple_iterator", data := .fields #[.ref l1, .int 0 0] } → h'.get? (s.heap.objs.size + 1) = some { cls := .type "tuple_iterator", data := .fields #[.ref l2, .int 0 0] } → IsPair h' (s.heap.objs.size + 2) (.ref s.heap.objs.size) (.ref (s.heap.objs.size + 1)) → IsPair h' (s.heap.objs.size + 3) .none .none →
      ZipO h' (s.heap.objs.size + 4) (s.heap.objs.size + 2) (s.heap.objs.size + 3) .none (.bool false) → (∀ x o, s.heap.get? x = some o → h'.get? x = some o) → R (.ok (.ret (.ref (s.heap.objs.size + 4)))) { s with heap := h' }) :=
  Meets.of_wp fun prog w A R s ⟨p1, p2, k⟩ => by
    have sb := sub_zip
    have it1 : ∀ {A' : Around} {Q : Value → Shared → Prop} {E : Value → Shared → Prop}, Q (.ref s.heap.objs.size) { s with heap := s.heap.push { cls := .type "tuple_iterator", data := .fields #[.ref l1, .int 0 0] } } → wpAny (model prog w) A' (pyIter (.ref l1)) Q E s := fun q => wpAny_pyIter_tuple p1 q
    have it2 : ∀ {A' : Around} {Q : Value → Shared → Prop} {E : Value → Shared → Prop}, Q (.ref (s.heap.push { cls := .type "tuple_iterator", data := .fields #[.ref l1, .int 0 0] }).objs.size) { s with heap := (s.heap.push { cls := .type "tuple_iterator", data := .fields #[.ref l1, .int 0 0] }).push { cls := .type "tuple_iterator", data := .fields #[.ref l2, .int 0 0] } } → wpAny (model prog w) A' (pyIter (.ref l2)) Q E { s with heap := s.heap.push { cls := .type "tuple_iterator", data := .fields #[.ref l1, .int 0 0] } } := fun q => wpAny_pyIter_tuple (Heap.IsTuple.push p2 _) q
    wp_walk using it1, it2
    obtain ⟨h', e, sz, g1, g2, g3, g4, g5, kp⟩ := push5 (h := s.heap) (a := { cls := .type "tuple_iterator", data := .fields #[.ref l1, .int 0 0] }) (b := { cls := .type "tuple_iterator", data := .fields #[.ref l2, .int 0 0] }) (c := { cls := .type "tuple", data := .seq #[.ref s.heap.objs.size, .ref (s.heap.objs.size + 1)] }) (d := { cls := .type "tuple", data := .seq #[.none, .none] }) (e := { cls := .type "zip", data := .fields #[.none, .bool false, .bool false, .ref (s.heap.objs.size + 2), .ref (s.heap.objs.size + 3)] }) rfl rfl rfl rfl rfl
    have r := k h' sz g1 g2 g3 g4 g5 kp
    rw [e] at r
    simp only [Heap.size_push] at r ⊢
    exact ⟨_, rfl, r⟩
theorem zp_call {tp : Bool} {l1 l2 : Addr} {xs ys : Array Value} {Q : Value → Shared → Prop} (p1 : SeqAt tp s.heap l1 xs) (p2 : SeqAt tp s.heap l2 ys)
    (h : ∀ h', ZipS h' (s.heap.objs.size + 4) (s.heap.objs.size + 2) (s.heap.objs.size + 3) s.heap.objs.size (s.heap.objs.size + 1) → ZipO h' (s.heap.objs.size + 4) (s.heap.objs.size + 2) (s.heap.objs.size + 3) .none (.bool false) → IterAt tp h' s.heap.objs.size l1 0 → IterAt tp h' (s.heap.objs.size + 1) l2 0 → h'.objs.size = s.heap.objs.size + 5 →
      (∀ b u, s.heap.get? b = some u → h'.get? b = some u) → Q (.ref (s.heap.objs.size + 4)) { s with heap := h' }) :
    wpAny (model prog w) A (call (Value.type "zip") [Value.ref l1, Value.ref l2]) Q E s := by
  cases tp with
  | false => exact call_zip_2 p1 p2 fun h' a b c d e f g => h h' ⟨⟨_, _, a, .inl rfl⟩, b, _, _, c⟩ a d e f g
  | true =>
    refine callType_new F.called_zip (by decide) (F.typeCall_zip_2 _ _) (F.newCall_zip_2 _ _) (fun obj => F.args_object_init_3 obj _ _) F.entry_zip_new (new_tup l1 l2 xs ys) ⟨p1, p2, fun h' sz g1 g2 g3 g4 g5 kp => ?_⟩
    exact ⟨⟨_, g5, rfl⟩, h h' ⟨⟨_, _, g5, .inl rfl⟩, g3, _, _, g4⟩ g5 ⟨_, g1, rfl, rfl⟩ ⟨_, g2, rfl, rfl⟩ sz kp⟩
variable {z TI TO i1 i2 l1 l2 : Addr} {n1 n2 i : Nat} {P1 P2 : Nat → Value → Prop} {St1 St2 : Nat → Heap → Prop}
theorem zip_ty (S : ZipS s.heap z TI TO i1 i2) : s.TypeIs (.ref z) "zip" := by
  obtain ⟨_, _, o, _⟩ := S.z
  exact ⟨_, o, rfl⟩
theorem zp_next {Q : Option Value → Shared → Prop} (Z : ZipApart z TI TO i1 i2 l1 l2) (D1 : Draws prog w A.in1 i1 [i1, l1] n1 P1 St1) (D2 : Draws prog w A.in1 i2 [i2, l2] n2 P2 St2) (S : ZipS s.heap z TI TO i1 i2)
    (s1 : St1 i s.heap) (s2 : St2 i s.heap) (h1 : i < n1) (h2 : i < n2)
    (onQ : ∀ x y h' tk (T : Nat), P1 i x → P2 i y → ZipS h' z TI TO i1 i2 → (∀ f, ZipO s.heap z TI TO .none f → ZipO h' z TI TO (rawInt T) (.bool false)) → St1 (i + 1) h' → St2 (i + 1) h' → IsPair h' T x y → s.heap.objs.size ≤ T → (∀ c o, c ≠ z → c ≠ TO → c ≠ i1 → c ≠ i2 → s.heap.get? c = some o → h'.get? c = some o) → Q (some (.ref T)) { s with heap := h', toks := tk }) :
    wpAny (model prog w) A (pyNext (Value.ref z)) Q E s := by
  have step : ∀ {Q' : Option Value → Shared → Prop} {E' : Value → Shared → Prop}, (∀ v s', (∃ (x y : Value) (h' : Heap) (tk : Nat) (T : Nat), v = .ref T ∧ s' = { s with heap := h', toks := tk } ∧ P1 i x ∧ P2 i y ∧ ZipS h' z TI TO i1 i2 ∧ (∀ f, ZipO s.heap z TI TO .none f → ZipO h' z TI TO (rawInt T) (.bool false)) ∧ St1 (i + 1) h' ∧ St2 (i + 1) h' ∧ IsPair h' T x y ∧ s.heap.objs.size ≤ T ∧ (∀ c o, c ≠ z → c ≠ TO → c ≠ i1 → c ≠ i2 → s.heap.get? c = some o → h'.get? c = some o)) → Q' (some v) s') →
      wpAny (model prog w) A (callSpecial? (.ref z) "__next__") Q' E' s := fun {Q' E'} k =>
    wpAny_callSpecial?_slot (zip_ty S) F.slot_zip_next (wpAny_call_entry F.slot_zip_next (zip_ty S) F.entry_zip_next (zp_item Z D1 D2 S s1 s2 h1 h2 fun x y h' tk T a1 a2 a3 a4 a5 a6 a7 a8 a9 => k _ _ ⟨x, y, h', tk, T, rfl, rfl, a1, a2, a3, a4, a5, a6, a7, a8, a9⟩) (F.args_zip_next_1 _))
  refine show wpAny _ _ ((callSpecial? (.ref z) "__next__").attempt >>= _) _ _ s from wpAny_bind (wpAny_attempt (step ?_))
  rintro v s' ⟨x, y, h', tk, T, rfl, rfl, a1, a2, a3, a4, a5, a6, a7, a8, a9⟩
  exact wpAny_pure (onQ x y h' tk T a1 a2 a3 a4 a5 a6 a7 a8 a9)
theorem zp_nextEnd {Q : Option Value → Shared → Prop} (Z : ZipApart z TI TO i1 i2 l1 l2) (D1 : Draws prog w A.in1 i1 [i1, l1] n1 P1 St1) (S : ZipS s.heap z TI TO i1 i2) (s1 : St1 n1 s.heap)
    (onQ : ∀ h', (∀ c o, c ≠ z → c ≠ TO → c ≠ i1 → c ≠ i2 → s.heap.get? c = some o → h'.get? c = some o) → Q none { s with heap := h' }) : wpAny (model prog w) A (pyNext (.ref z)) Q E s := by
  have step : ∀ {Q' : Option Value → Shared → Prop} {E' : Value → Shared → Prop}, (∀ h' e, (∀ c o, c ≠ z → c ≠ TO → c ≠ i1 → c ≠ i2 → s.heap.get? c = some o → h'.get? c = some o) → (∃ o, h'.get? e = some o ∧ o.cls = .type "StopIteration") → E' (.ref e) { s with heap := h' }) → wpAny (model prog w) A (callSpecial? (.ref z) "__next__") Q' E' s := fun {Q' E'} k =>
    wpAny_callSpecial?_slot (zip_ty S) F.slot_zip_next (wpAny_call_entry F.slot_zip_next (zip_ty S) F.entry_zip_next (zp_end Z D1 S s1 k) (F.args_zip_next_1 _))
  refine show wpAny _ _ ((callSpecial? (.ref z) "__next__").attempt >>= _) _ _ s from wpAny_bind (wpAny_attempt (step fun h' e keep there => ?_))
  exact wpAny_bind (wpAny_isInstance (T := "StopIteration") (b := true) there isSubtype_stop (wpAny_pure (onQ h' keep)))
end
end L2

set_option Elab.async false
set_option linter.all false
set_option maxRecDepth 100000
set_option maxHeartbeats 1000000
namespace L2
open PySem PyProof PyProof.Rows
theorem entry_upd_loop : entryFor table "dict.update.loop" = some Builtin.«dict.update.loop» := entryFor_of_tree (by kernel_rfl)
theorem plain_upd_loop : plainId "dict.update.loop" = true := by decide +kernel
section
variable {prog : Program} {w : World} {A : Around} {KK : Type} [DecidableEq KK] {knd : KeyKind prog w KK} {R : Result → Shared → Prop}
variable {z TI TO i1 i2 l1 l2 : Addr} {n : Nat} {P1 P2 : Nat → Value → Prop} {St1 St2 : Nat → Heap → Prop}
theorem upd_loop (Z : ZipApart z TI TO i1 i2 l1 l2) (D1 : Draws prog w A.in1.in1 i1 [i1, l1] n P1 St1) (D2 : Draws prog w A.in1.in1 i2 [i2, l2] n P2 St2) (d : Addr) (dz : d ∉ [z, TI, TO, i1, i2, l1, l2]) (res : Value) (hn : n ≤ sizeLine) (rs : List (KK × Value)) (hl : rs.length = n) (nd : (rs.map (·.1)).Nodup)
    (hp : ∀ i x y, P1 i x → P2 i y → ∃ k, rs[i]? = some (k, y) ∧ knd.is k x = true) :
    ∀ (k i : Nat) (s : Shared), n - i = k → i ≤ n → ZipS s.heap z TI TO i1 i2 → St1 i s.heap → St2 i s.heap → s.heap.DictOf knd d (rs.take i) →
    (∀ s' h' tk, s' = { s with heap := h', toks := tk } → h'.DictOf knd d rs → (∀ c o, c ≠ z → c ≠ TO → c ≠ i1 → c ≠ i2 → c ≠ d → s.heap.get? c = some o → h'.get? c = some o) → R (.ok (.ret res)) s') →
    codeAny (model prog w) A (.builtin "dict.update.loop" ⟨[.ref d, .ref z, rawInt i, res], []⟩) R s := by
  have dn : d ≠ z ∧ d ≠ TI ∧ d ≠ TO ∧ d ≠ i1 ∧ d ≠ i2 ∧ d ≠ l1 ∧ d ≠ l2 := by simpa using dz
  obtain ⟨d1, d2, d3, d4, d5, d6, d7⟩ := dn
  intro k
  induction k with
  | zero =>
    intro i s hk hi S s1 s2 hd hR
    have hin : i = n := by omega
    subst hin
    refine codeAny_builtin entry_upd_loop ?_
    rw [Around.under_plainId plain_upd_loop _]
    show wpAny _ A.in1 (pyNext (.ref z) >>= _) _ _ s
    refine wpAny_bind (zp_nextEnd Z D1 S s1 fun h' kp => ?_)
    show wpAny _ _ (Builtin.Dict.addKeywords d [] >>= _) _ _ _; refine wpAny_bind (wpAny_pure (wpAny_pure ?_))
    refine hR _ h' s.toks rfl ?_ fun c o c1 c2 c3 c4 _ e => kp c o c1 c2 c3 c4 e
    rw [List.take_of_length_le (by omega)] at hd
    obtain ⟨o, es, ep, ho, r⟩ := hd
    exact ⟨o, es, ep, kp _ _ d1 d3 d4 d5 ho, r⟩
  | succ k ih =>
    intro i s hk hi S s1 s2 hd hR
    have hlt : i < n := by omega
    refine codeAny_builtin entry_upd_loop ?_
    rw [Around.under_plainId plain_upd_loop _]
    show wpAny _ A.in1 (pyNext (.ref z) >>= _) _ _ s
    refine wpAny_bind (zp_next Z D1 D2 S s1 s2 hlt hlt fun x y h' tk T p1 p2 S' _ t1 t2 gT lT kp => ?_)
    obtain ⟨kk, er, ek⟩ := hp i x y p1 p2
    have hd' : h'.DictOf knd d (rs.take i) := by
      obtain ⟨o, es, ep, ho, r⟩ := hd
      exact ⟨o, es, ep, kp _ _ d1 d3 d4 d5 ho, r⟩
    refine wpAny_bind (wpAny_holding (wpAny_bind (wpAny_tryCatch ?_)))
    unfold Builtin.Dict.pairItems
    refine wpAny_bind (wpAny_typeOf (T := "tuple") ⟨_, gT, rfl⟩ ?_)
    rw [if_pos (by decide)]
    refine wpAny_bind (wpAny_seqItems gT rfl ?_)
    refine wpAny_pure ?_
    show wpAny _ _ (holding [x, y] (dictSet d x y)) _ _ _
    refine wpAny_holding (wpAny_dictSet_pairs (hsz := by rw [List.length_take]; omega) ek hd' fun h2 hd2 sb => ?_)
    replace sb : Heap.SameBut d h' h2 := sb
    have est : stored (rs.take i) kk y = rs.take (i + 1) := by
      rw [stored, if_neg, List.take_succ, er]
      · rfl
      · intro q
        obtain ⟨kv, m1, m2⟩ := List.any_eq_true.mp q
        obtain ⟨j, hj⟩ := List.getElem?_of_mem m1
        have jl : j < i := by
          have := (List.getElem?_eq_some_iff.mp hj).1
          rw [List.length_take] at this
          omega
        rw [List.getElem?_take_of_lt jl] at hj
        have e1 : (rs.map (·.1))[j]? = some kk := by rw [List.getElem?_map, hj]; exact congrArg some (of_decide_eq_true m2)
        have e2 : (rs.map (·.1))[i]? = some kk := by rw [List.getElem?_map, er]; rfl
        exact absurd ((List.getElem?_inj (by rw [List.length_map]; omega) nd).mp (e1.trans e2.symm)) (by omega)
    rw [est] at hd2
    have S2 : ZipS h2 z TI TO i1 i2 := by
      obtain ⟨⟨f0, f1, q1, q2⟩, q3, a, b, q4⟩ := S'
      refine ⟨⟨f0, f1, sb.extBut _ _ (Ne.symm d1) q1, ?_⟩, sb.extBut _ _ (Ne.symm d2) q3, a, b, sb.extBut _ _ (Ne.symm d3) q4⟩
      rcases q2 with e | ⟨T', o', e, g⟩
      · exact .inl e
      · by_cases ed : T' = d
        · subst ed
          obtain ⟨o2, _, _, g2, _⟩ := hd2
          exact .inr ⟨_, _, e, g2⟩
        · exact .inr ⟨_, _, e, sb.extBut _ _ ed g⟩
    refine wpAny_pure ⟨plainId_quiet plain_upd_loop _, ?_⟩
    refine ih (i + 1) _ (by omega) (by omega) S2 (D1.frame _ _ _ t1 fun c hc o e => sb.extBut _ _ (by simp at hc; rcases hc with rfl | rfl; exact Ne.symm d4; exact Ne.symm d6) e) (D2.frame _ _ _ t2 fun c hc o e => sb.extBut _ _ (by simp at hc; rcases hc with rfl | rfl; exact Ne.symm d5; exact Ne.symm d7) e) hd2 fun s' h3 tk3 es hd3 kp3 => ?_
    exact hR s' h3 tk3 es hd3 fun c o c1 c2 c3 c4 c5 e => kp3 c o c1 c2 c3 c4 c5 (sb.extBut _ _ c5 (kp c o c1 c2 c3 c4 e))
end
section
variable {prog : Program} {w : World} {A : Around} {E : Value → Shared → Prop} {s : Shared} {KK : Type} [DecidableEq KK] {knd : KeyKind prog w KK}
theorem draws_at (tp : Bool) (hh : A.handled = none) (it l : Addr) (hne : l ≠ it) (xs : Array Value) : Draws prog w A it [it, l] xs.size (fun i v => xs[i]? = some v) (fun i h => IterAt tp h it l i ∧ SeqAt tp h l xs) := by
  cases tp with
  | false => exact Draws.list hh it l hne xs
  | true => exact drawsT hh it l hne xs
theorem init_zip {z TI TO d : Addr} {more : List (KK × Value)} {R : PySem.Fin → Shared → Prop} (o : ZipO s.heap z TI TO .none (.bool false)) (hd : s.heap.DictOf knd d more) (hA : A.handled = none)
    (q : ∀ h' tk, (∀ c oc, s.heap.get? c = some oc → h'.get? c = some oc) → R (.again (.builtin "dict.update.loop" ⟨[.ref d, .ref z, rawInt 0, .none], []⟩)) { s with heap := h', toks := tk }) :
    wpAny (model prog w) A (Builtin.«dict.__init__» ⟨[.ref d, .ref z], []⟩) R E s := by
  have ty : s.TypeIs (.ref z) "zip" := ⟨_, o, rfl⟩
  have td := hd.typeIs
  have from' : wpAny (model prog w) A (Builtin.Dict.updateFrom "dict.__init__" d (.ref z) [] .none) R E s := by
    have seek : ∀ {Q' : Option Value → Shared → Prop}, (∀ h' tk, (∀ c oc, s.heap.get? c = some oc → h'.get? c = some oc) → Q' none { s with heap := h', toks := tk }) → wpAny (model prog w) A (getAttr? (.ref z) "keys") Q' E s := fun k => zk_none o hA k
    refine show wpAny _ _ (typeOf (.ref z) >>= _) _ _ s from wpAny_bind (wpAny_typeOf ty (wpAny_bind (seek fun h' tk keep => ?_)))
    exact wpAny_bind (wpAny_rule (wpAny_bind (wpAny_pyIter_zip (keep _ _ o) (wpAny_pure (q h' tk keep)))))
  have head : ∀ {Q' : Unit → Shared → Prop}, Q' () s → wpAny (model prog w) A (Builtin.Dict.notOrdered "__init__" ⟨[.ref d, .ref z], []⟩) Q' E s := fun k => wpAny_notOrdered_dict td k
  wp_walk using head, from'
theorem dict_of_zip {tp : Bool} {z TI TO i1 i2 l1 l2 : Addr} {xs ys : Array Value} {rs : List (KK × Value)} {Q : Value → Shared → Prop} (hh : A.handled = none) (Z : ZipApart z TI TO i1 i2 l1 l2) (S : ZipS s.heap z TI TO i1 i2) (oz : ZipO s.heap z TI TO .none (.bool false))
    (p1 : IterAt tp s.heap i1 l1 0) (p2 : IterAt tp s.heap i2 l2 0) (q1 : SeqAt tp s.heap l1 xs) (q2 : SeqAt tp s.heap l2 ys) (dz : ∀ a ∈ [z, TI, TO, i1, i2, l1, l2], a < s.heap.objs.size) (gx : xs.size = rs.length) (hy : ys.size = rs.length) (hn : rs.length ≤ sizeLine) (nd : (rs.map (·.1)).Nodup)
    (hp : ∀ (i : Nat) x y, xs[i]? = some x → ys[i]? = some y → ∃ k, rs[i]? = some (k, y) ∧ knd.is k x = true)
    (h : ∀ h' tk, h'.DictOf knd s.heap.objs.size rs → (∀ c o, c ≠ z → c ≠ TO → c ≠ i1 → c ≠ i2 → s.heap.get? c = some o → h'.get? c = some o) → Q (.ref s.heap.objs.size) { s with heap := h', toks := tk }) :
    wpAny (model prog w) A (call (.type "dict") [.ref z]) Q E s := by
  -- the made dict, then its __init__, then the loop
  refine callType_codes (Q₁ := fun obj t => obj = .ref s.heap.objs.size ∧ ∃ hm, t = { s with heap := hm } ∧ hm.DictOf knd s.heap.objs.size [] ∧ ∀ c o, s.heap.get? c = some o → hm.get? c = some o) PySem.F.kt_called_dict (PySem.F.kt_typeCall_dict_1 _) PySem.F.entry_dict_init (kt_code_dict_new _ ⟨rfl, _, rfl, Heap.DictOf.new s.heap, fun c o e => Heap.get?_push_of_some _ e⟩) ?_
  rintro _ _ ⟨rfl, hm, rfl, dm, km⟩
  refine ⟨dm.typeIs, PySem.F.args_dict_init_2 _ _, init_zip (s := { s with heap := hm }) (km _ _ oz) dm hh fun h1 tk k1 => ⟨plainId_quiet plain_upd_loop _, ?_⟩⟩
  have kp : ∀ c o, s.heap.get? c = some o → h1.get? c = some o := fun c o e => k1 c o (km c o e)
  have D1 := draws_at (prog := prog) (w := w) (A := A.in1.in1.in1) tp hh i1 l1 Z.l1i1 xs
  have D2 := draws_at (prog := prog) (w := w) (A := A.in1.in1.in1) tp hh i2 l2 Z.l2i2 ys
  rw [gx] at D1
  rw [hy] at D2
  have d1 : h1.DictOf knd s.heap.objs.size (rs.take 0) := by
    obtain ⟨o, es, ep, ho, r⟩ := dm
    exact ⟨o, es, ep, k1 _ _ ho, r⟩
  obtain ⟨a, b, to⟩ := S.to
  refine upd_loop Z D1 D2 s.heap.objs.size (fun m => Nat.lt_irrefl _ (dz _ m)) .none hn rs rfl nd hp rs.length 0 _ rfl (Nat.zero_le _) ⟨⟨_, _, kp _ _ oz, .inl rfl⟩, kp _ _ S.ti, a, b, kp _ _ to⟩ (D1.frame 0 s.heap h1 ⟨p1, q1⟩ fun c _ o e => kp c o e) (D2.frame 0 s.heap h1 ⟨p2, q2⟩ fun c _ o e => kp c o e) d1 fun s' h' tk' es d' kp' => ?_
  subst es
  exact ⟨rfl, h h' tk' d' fun c o c1 c2 c3 c4 e => kp' c o c1 c2 c3 c4 (Nat.ne_of_lt (Heap.lt_size e)) (kp _ _ e)⟩
end
theorem paired_get {α β : Type} {F : α → β → Prop} : ∀ {l₁ : List α} {l₂ : List β} {i : Nat} {a : α} {b : β}, Paired F l₁ l₂ → l₁[i]? = some a → l₂[i]? = some b → F a b
  | _, _, 0, _, _, .cons r _, ha, hb => by cases ha; cases hb; exact r
  | _, _, i + 1, _, _, .cons _ t, ha, hb => paired_get (i := i) t (by simpa using ha) (by simpa using hb)
theorem kv_zip : ∀ {ks : List Key} {gs : List V} {ys : List Value}, Vals gs ys → KV (ks.zip gs) (ks.zip ys)
  | [], _, _, _ => by rw [List.zip_nil_left, List.zip_nil_left]; exact .nil
  | _ :: _, _, _, .nil => .nil
  | k :: ks, _, _, .cons r t => .cons ⟨rfl, r⟩ (kv_zip (ks := ks) t)
section
variable {X : Cx} {a b : Expr} {t : TA} {p p' pos pos' : Pos} {tp : Bool}
def tDictZip (K : PySem.W.Frag) (tp : Bool) (t : TA) : TE := fun σ H Q => t σ H fun vs H2 => ∃ (l1 l2 : Addr) (ks : List Key) (gs : List V), vs = [.ref l1, .ref l2] ∧ SqB K tp H2 l1 (ks.map kV) ∧ SqB K tp H2 l2 gs ∧ gs.length = ks.length ∧ ks.Nodup ∧
  ∀ d, H2 d = none → Q (.ref d) (upd H2 d (.dK (ks.zip gs)))
theorem Inv.seqAt {pins : List (Addr × Obj)} {σ : List (Option V)} {H : Hp} {s : Shared} {l : Addr} {xs : List V} (I : Inv X pins σ H s) (h : SqB X.K tp H l xs) : ∃ its : List Value, Vals xs its ∧ SeqAt tp s.heap l its.toArray ∧ xs.length ≤ sizeLine := by
  cases tp with
  | true =>
    obtain ⟨its, r, ⟨o, e1, e2, n, e3⟩, z⟩ := I.tuple h
    exact ⟨its, r, ⟨o, e1, e2, n, e3⟩, z⟩
  | false =>
    obtain ⟨its, r, ⟨o, n, e1, e2, e3, e4⟩, z⟩ := I.list h
    exact ⟨its, r, ⟨o, e1, e2, n, e4⟩, z⟩
theorem SeqAt.lt {h : Heap} {l : Addr} {xs : Array Value} (q : SeqAt tp h l xs) : l < h.objs.size := by
  cases tp with
  | true => obtain ⟨o, e, _⟩ := q; exact Heap.lt_size e
  | false => obtain ⟨o, e, _⟩ := q; exact Heap.lt_size e
theorem SeqAt.keep {h h' : Heap} {l : Addr} {xs : Array Value} (q : SeqAt tp h l xs) (k : ∀ c o, h.get? c = some o → h'.get? c = some o) : SeqAt tp h' l xs := by
  cases tp with
  | true => obtain ⟨o, e, r⟩ := q; exact ⟨o, k _ _ e, r⟩
  | false => obtain ⟨o, e, r⟩ := q; exact ⟨o, k _ _ e, r⟩
theorem pe_dictZip (hh : X.A.handled = none) (hgD : Gl X "dict") (hmD : X.mg "dict" = none) (hgZ : Gl X "zip") (hmZ : X.mg "zip" = none) (bd : bootBuiltins "dict" = some (.type "dict")) (bz : bootBuiltins "zip" = some (.type "zip")) (ha : PA X [a, b] t) (sa : isStar a = false := by rfl) (sb : isStar b = false := by rfl) :
    PE X (.Call (.Name "dict" p) [.Call (.Name "zip" p') [a, b] [] pos'] [] pos) (tDictZip X.K tp t) := by
  intro pins s σ H Q I h
  refine wpAny_Call_Name_kw (ld_blt I hgD hmD bd ?_ (by decide) (by decide))
  refine PyProof.Rows.callWith_type1 ?_ rfl rfl
  show wpAny _ _ (spliced ((false, eval (.Call (.Name "zip" p') [a, b] [] pos') X.env) :: backTo pos (starEach [] X.env))) _ _ s
  refine Calls.spliced_cons ?_
  refine wpAny_Call_Name_kw (ld_blt I hgZ hmZ bz ?_ (by decide) (by decide))
  refine PyProof.Rows.callWith_type1 ?_ (star_cons sa) (by rw [star_cons sb]; rfl)
  refine thn (ha pos' pins s σ H _ I h) fun us s1 ⟨vs, H1, I1, r1, l1, l2, ks, gs, ev, qk, qg, el, nd, q1⟩ => ?_
  subst ev
  obtain ⟨u1, u2, rfl, e1, e2⟩ := vals2 r1
  cases e1
  cases e2
  obtain ⟨xs, rx, q1', zx⟩ := I1.seqAt qk
  obtain ⟨ys, ry, q2', zy⟩ := I1.seqAt qg
  have lx : xs.length = ks.length := by have := rx.length; rw [List.length_map] at this; exact this.symm
  have ly : ys.length = ks.length := by have := ry.length; rw [el] at this; exact this.symm
  refine zp_call q1' q2' fun h1 S oz i1 i2 sz kp => ?_
  have a1 := q1'.lt
  have a2 := q2'.lt
  have Z : ZipApart (s1.heap.objs.size + 4) (s1.heap.objs.size + 2) (s1.heap.objs.size + 3) s1.heap.objs.size (s1.heap.objs.size + 1) l1 l2 := by
    constructor <;> (intro e; simp only [Addr] at *; omega)
  refine Calls.spliced_nil ?_
  have lr : (ks.zip ys).length = ks.length := by rw [List.length_zip, ly, Nat.min_self]
  have mk : (ks.zip ys).map (·.1) = ks := List.map_fst_zip (by omega)
  refine dict_of_zip (knd := mixKind X.prog X.w) (rs := ks.zip ys) (xs := xs.toArray) (ys := ys.toArray) (s := { s1 with heap := h1 }) hh Z S oz i1 i2 (q1'.keep kp) (q2'.keep kp) (fun c hc => ?_) (by rw [lr, List.size_toArray, lx]) (by rw [lr, List.size_toArray, ly]) (by rw [lr, ← el]; exact zy) (by rw [mk]; exact nd) (fun i x y ex ey => ?_) fun h' tk hd kp' => ?_
  · simp only [List.mem_cons, List.not_mem_nil, or_false] at hc
    show c < h1.objs.size
    rw [sz]
    rcases hc with rfl | rfl | rfl | rfl | rfl | rfl | rfl <;> (simp only [Addr] at *; omega)
  · have ex' : xs[i]? = some x := by simpa using ex
    have ey' : ys[i]? = some y := by simpa using ey
    have il : i < ks.length := by have := (List.getElem?_eq_some_iff.mp ex').1; omega
    refine ⟨ks[i], ?_, ?_⟩
    · rw [List.getElem?_zip_eq_some]
      exact ⟨List.getElem?_eq_getElem il, ey'⟩
    · refine kV_is (r := ?_)
      exact paired_get rx (i := i) (by rw [List.getElem?_map, List.getElem?_eq_getElem il]; rfl) ex'
  · have kk : ∀ c o, s1.heap.get? c = some o → h'.get? c = some o := fun c o e => by
      have lt := Heap.lt_size e
      refine kp' c o ?_ ?_ ?_ ?_ (kp c o e) <;> (intro z; simp only [Addr] at *; omega)
    have le : s1.heap.objs.size ≤ h1.objs.size := by rw [sz]; omega
    have fr := I1.hok.fresh le
    refine ⟨.ref h1.objs.size, _, I1.laid (a := h1.objs.size) (o := .dK (ks.zip gs)) (t' := tk) kk le ⟨?_, ?_, ks.zip ys, ?_, hd⟩, rfl, q1 _ fr⟩
    · rw [List.length_zip]; omega
    · have := I1.big
      exact beq_eq_false_iff_ne.mpr (by intro z; simp only [Addr] at *; omega)
    · exact kv_zip ry
end
end L2

set_option Elab.async false
set_option linter.all false
set_option maxRecDepth 100000
set_option maxHeartbeats 1000000
namespace L2
open PySem PyProof PyProof.Rows
section
variable {X : Cx}
theorem op_neNil (hu : X.A.units < cLine) : OpR X (compareOp .NotEq) (fun x y H Q => ∃ p q kvs, x = .ref p ∧ y = .ref q ∧ Rd H p (.dK kvs) ∧ Rd H q (.dK []) ∧ Q (.bl (!kvs.isEmpty)) H) := by
  intro pins s σ H x y v u Q I rx ry h
  obtain ⟨p, q, kvs, rfl, rfl, hp, hq, hQ⟩ := h
  cases rx
  cases ry
  obtain ⟨hz, hS, vs, rk, m⟩ := dk_rd I.hok hp
  obtain ⟨hz', hS', vs', rk', m'⟩ := dk_rd I.hok hq
  cases rk'
  refine PySem.W.keq_ne (r := true) hS hS' m m' hu (fun e => ?_) ⟨.bl (!kvs.isEmpty), H, I, ?_, hQ⟩
  · rw [List.length_eq_zero_iff.mp (show vs.length = 0 from e)]
    exact .nil
  · show Value.bool _ = Value.bool _
    congr 1
    rw [Bool.and_true]
    have := rk.length
    cases kvs with
    | nil => rw [← this]; rfl
    | cons _ _ => rw [← this]; rfl
theorem call_dictD : CallR X (.type "dict") (fun xs H Q => ∃ (a : Addr) (kvs : List (Key × V)), xs = [.ref a] ∧ Rd H a (.dK kvs) ∧ ∀ l, H l = none → Q (.ref l) (upd H l (.dK kvs))) := by
  intro pins s σ H xs us Q I r h
  obtain ⟨a, kvs, rfl, hk, q⟩ := h
  obtain ⟨u, rfl, ru⟩ := vals1 r
  cases ru
  obtain ⟨hz, hS, vs, rk, m⟩ := dk_rd I.hok hk
  refine kt_call_dict hS m (by rw [← rk.length]; exact hz) fun h' hd hs => ?_
  have kk : ∀ c o, s.heap.get? c = some o → h'.get? c = some o := fun c o e => hs.extBut _ _ (Nat.ne_of_lt (Heap.lt_size e)) (Heap.get?_push_of_some _ e)
  refine ⟨.ref s.heap.objs.size, _, I.laid (a := s.heap.objs.size) (o := .dK kvs) (t' := s.toks) kk (Nat.le_refl _) ⟨hz, ?_, vs, rk, hd⟩, rfl, q _ (I.hok.fresh (Nat.le_refl _))⟩
  have := I.big
  exact beq_eq_false_iff_ne.mpr (by intro z; simp only [Addr] at *; omega)
end
end L2

set_option Elab.async false
set_option linter.all false
set_option maxRecDepth 100000
set_option maxHeartbeats 1000000
namespace L2
open PySem PyProof PyProof.Rows
section
variable {X : Cx}
end
end L2

set_option Elab.async false
set_option linter.all false
set_option maxRecDepth 100000
namespace L2
open PySem PySem.Spec PyProof.Rows
section
variable {s : Shared} {R : Result → Shared → Prop} {A : Around} {prog : Program} {w : World}
end
structure BlkScope2 (X : Cx) (scope : Scope) (x x' : Str) (Nf : List Str) (js : List Nat) : Prop where
  kind : scope.kind = .function
  nocell : ∀ y ∈ scope.names, y.2 ≠ .cell
  loc : ∀ y ∈ scope.names, y.2 = .local → scope.names.lookup y.1 = some .local
  own : scope.names.lookup x = some .local
  own' : scope.names.lookup x' = some .local
  nd : (x :: x' :: Nf).Nodup
  free : ∀ y ∈ scope.names, y.2 = .free → X.env.kindOf y.1 = some .cell
  slots : Nf.length = js.length
  at_ : ∀ (i : Nat) (z : Str), Nf[i]? = some z → ∃ j : Nat, js[i]? = some j ∧ X.N[j]? = some z ∧ scope.names.lookup z = some .free ∧ X.env.scope.names.lookup z = some .cell
section
variable {X : Cx} {scope : Scope} {x x' : Str} {Nf : List Str} {js : List Nat} {C : Addr} {s₂ : Shared} {H₂ : Hp} {ex : List Addr} {pins : List (Addr × Obj)} {σ : St}
theorem BlkScope2.hasCell (B : BlkScope2 X scope x x' Nf js) (ok : X.Ok) : ∀ y ∈ scope.names, y.2 = .free → ∃ c, X.env.cells.lookup y.1 = some c := fun y hy hf => ok.has y.1 (.inl (B.free y hy hf))
theorem BlkScope2.look (B : BlkScope2 X scope x x' Nf js) (ok : X.Ok) {z : Str} {c : Addr} (e : (clGo X.env scope.names []).lookup z = some c) : X.env.cells.lookup z = some c :=
  clGo_look scope.names [] (B.hasCell ok) (fun c h => by simp at h) e
theorem BlkScope2.ok (B : BlkScope2 X scope x x' Nf js) {H : Hp} {s : Shared} (I : Inv X pins σ H s) (hC : s.heap.objs.size ≤ C) {fp : List Addr} (hf : ∀ b ∈ fp, FpOk X pins H b) (ho : ∀ b ∈ fp, ∃ o, s.heap.get? b = some o ∧ ∀ v, o.data ≠ .cell v) :
    (blk X scope (x :: x' :: Nf) C s H fp pins).Ok where
  mod := I.ok.mod
  kind := B.kind
  glob := I.ok.glob
  blt := I.ok.blt
  above := hC
  inj := fun y z c h1 h2 => I.ok.inj y z c (B.look I.ok h1) (B.look I.ok h2)
  has := fun z hz => clGo_has scope.names [] (.inl (relabel_free (sc := scope) B.nocell hz))
  cab := fun y c h _ => Bool.noConfusion h
  hd := fun h => I.ok.hd h
  frames := I.ok.frames
  stk := .inl rfl
  exf := fun b hb => by
    obtain ⟨o, e, d⟩ := ho b hb
    refine ⟨Nat.ne_of_lt (Nat.lt_of_lt_of_le (Heap.lt_size e) hC), fun z c h => (hf b hb).2.2.2.2.1 z c (B.look I.ok h)⟩
  bs := I.bs
  bsz := Nat.le_trans I.ok.bsz I.sz
  noex := fun b o e hb => by
    rcases (hf b hb).2.2.2.1 with z | z
    · exact I.ok.noex b o e z
    · exact absurd (Nat.lt_of_lt_of_le (Heap.lt_size e) (Nat.le_trans I.ok.bsz z)) (Nat.lt_irrefl _)
  exfs := fun b hb hs => by
    rcases List.mem_cons.mp (I.stkSub b hs) with e | e
    · exact (hf b hb).2.1 e
    · exact (hf b hb).2.2.1 e
  funs := I.stack
  frf := I.stkFree
end
section
variable {X : Cx} {scope : Scope} {x x' : Str} {Nf : List Str} {js : List Nat} {pins : List (Addr × Obj)} {σ : St}

def blkSt2 (js : List Nat) (σ : St) (v v' : Option V) : St := v :: v' :: js.map fun j => (σ[j]?).getD none

theorem BlkScope2.inv (B : BlkScope2 X scope x x' Nf js) {H : Hp} {s : Shared} (I : Inv X pins σ H s) {fp : List Addr} (hf : ∀ b ∈ fp, FpOk X pins H b) (ho : ∀ b ∈ fp, ∃ o, s.heap.get? b = some o ∧ ∀ v, o.data ≠ .cell v)
    {h₁ : Heap} {tk : Nat} (hn : h₁.Ns (s.heap.objs.size + 1) (fun _ => none)) (hs : Heap.SameBut (s.heap.objs.size + 1) ((s.heap.push { cls := .type "list", data := .seq #[] }).push { cls := .type "dict", data := .dict #[] }) h₁) :
    Inv (blk X scope (x :: x' :: Nf) (s.heap.objs.size + 1) s H fp pins) [] (blkSt2 js σ none none) (upd H s.heap.objs.size (.lst [])) { s with heap := h₁, toks := tk } := by
  have old : ∀ b o, s.heap.get? b = some o → h₁.get? b = some o := fun b o e =>
    hs.extBut b o (Nat.ne_of_lt (Nat.lt_succ_of_lt (Heap.lt_size e))) (Heap.get?_push_of_some _ (Heap.get?_push_of_some _ e))
  have hD : h₁.get? s.heap.objs.size = some { cls := .type "list", data := .seq #[] } := hs.extBut _ _ (Nat.ne_of_lt (Nat.lt_succ_self _)) (Heap.get?_push_of_some _ (Heap.get?_push_size _ rfl))
  have fD : H s.heap.objs.size = none := I.hok.fresh (Nat.le_refl _)
  have fC : H (s.heap.objs.size + 1) = none := I.hok.fresh (Nat.le_succ _)
  have cellAt : ∀ z c, (clGo X.env scope.names []).lookup z = some c → c < s.heap.objs.size := fun z c e => by
    obtain ⟨v, q⟩ := I.cell z c (B.look I.ok e)
    exact q.lt
  have J := I.laid (a := s.heap.objs.size) (o := .lst []) (h' := h₁) (t' := tk) old (Nat.le_refl _) ⟨Nat.zero_le _, [], 0, .nil, hD⟩
  refine ⟨B.ok I (Nat.le_succ _) hf ho, rfl, I.bare, Un.laid old (Nat.le_refl _) fD, ⟨_, hn, fun i z v h1 h2 h3 => ?_⟩, fun z c e => ?_, ?_, fun z c e => ?_, fun p hp => ?_, J.hok, ?_⟩
  · -- a name of the block that has a value: one of the def's
    cases i with
    | zero =>
      have h2' : some (none : Option V) = some (some v) := h2
      cases h2'
    | succ i =>
     cases i with
     | zero =>
      have h2' : some (none : Option V) = some (some v) := h2
      cases h2'
     | succ i =>
      have h1' : Nf[i]? = some z := h1
      have h2' : (js.map fun j => (σ[j]?).getD none)[i]? = some (some v) := h2
      obtain ⟨j, e1, e2, e3, e4⟩ := B.at_ i z h1'
      rw [List.getElem?_map, e1] at h2'
      have h2'' : (σ[j]?).getD none = some v := Option.some.inj h2'
      have e5 : σ[j]? = some (some v) := by
        cases q : σ[j]? with
        | none => rw [q] at h2''; cases h2''
        | some y => rw [q] at h2''; exact congrArg some h2''
      obtain ⟨m, hm, hl⟩ := I.loc
      obtain ⟨u, r, l⟩ := hl j z v e2 e5 (.inr (.inl e4))
      refine ⟨u, r, .inr ⟨.inl ?_, ?_⟩⟩
      · exact relabel_cell I.ok.kind e4 B.loc B.nocell e3
      · rcases l with ⟨k, _⟩ | ⟨_, c, hc, q⟩
        · rw [show X.env.kindOf z = X.env.scope.names.lookup z from rfl, e4] at k; cases k
        · obtain ⟨c', hc'⟩ := clGo_has (env := X.env) (x := z) scope.names [] (.inl (PySem.mem_of_lookup e3))
          have e6 := B.look I.ok hc'
          rw [hc] at e6
          cases e6
          exact ⟨c, hc', q.keeps old⟩
  · obtain ⟨v, q⟩ := I.cell z c (B.look I.ok e)
    exact ⟨v, q.keeps old⟩
  · show upd H s.heap.objs.size (.lst []) (s.heap.objs.size + 1) = none
    rw [upd_ne (Nat.ne_of_gt (Nat.lt_succ_self _))]
    exact fC
  · rw [upd_ne (Nat.ne_of_lt (cellAt z c e))]
    exact I.freeC z c (B.look I.ok e)
  · have hp' : p ∈ X.pn ++ pins := by
      have : p ∈ (X.pn ++ pins) ++ [] := hp
      rwa [List.append_nil] at this
    obtain ⟨e, n, ne, nf, d⟩ := I.pin p hp'
    refine ⟨old _ _ e, ?_, Nat.ne_of_lt (Nat.lt_succ_of_lt (Heap.lt_size e)), fun z => ?_, d⟩
    · rw [upd_ne (Nat.ne_of_lt (Heap.lt_size e))]; exact n
    · rcases List.mem_cons.mp (I.stkSub p.1 z) with q | q
      · exact ne q
      · exact nf q
  · show (none :: none :: js.map _).length = (x :: x' :: Nf).length
    rw [List.length_cons, List.length_cons, List.length_map, List.length_cons, List.length_cons, B.slots]

theorem BlkScope2.back (B : BlkScope2 X scope x x' Nf js) {H H' : Hp} {s s' : Shared} {fp : List Addr} {C : Addr} {pl : List (Addr × Obj)} {τ : St} (I : Inv X pins σ H s) (hf : ∀ b ∈ fp, FpOk X pins H b) (hC : s.heap.objs.size ≤ C)
    (J : Inv (blk X scope (x :: x' :: Nf) C s H fp pins) pl τ H' s') {h' : Heap} (hs : Heap.SameBut C s'.heap h') : Inv X pins σ H' { s' with heap := h' } := by
  have nC : H' C = none := J.free
  refine I.call' (s' := { s' with heap := h' }) (ch := fp) J.os ⟨fun b o e n hb hx => ?_, fun b o e n hb hx => ?_, J.base.free, fun b o e hx => ?_, J.base.tups, J.base.frzs, J.base.tbls⟩ ?_ J.bare (fun b hb => ?_)
  · exact hs.extBut b o (Nat.ne_of_lt (Nat.lt_of_lt_of_le (Heap.lt_size e) hC)) (J.base.keep b o e n hb hx)
  · obtain ⟨sl, e1⟩ := J.base.slot b o e n hb hx
    exact ⟨sl, hs.extBut b _ (Nat.ne_of_lt (Nat.lt_of_lt_of_le (Heap.lt_size e) hC)) e1⟩
  · obtain ⟨o', e1⟩ := J.base.there b o e hx
    exact ⟨o', hs.extBut b _ (Nat.ne_of_lt (Nat.lt_of_lt_of_le (Heap.lt_size e) hC)) e1⟩
  · intro a o e
    refine (J.hok a o e).stay (fun b u hb q => hs.extBut b u ?_ q) (fun _ q => q) fun _ _ q => q
    rcases hb with rfl | hb
    · exact fun z => by rw [z, nC] at e; cases e
    · exact fun z => by rw [z, nC] at hb; cases hb
  · obtain ⟨_, f1, f2, f3, f4, f5⟩ := hf b hb
    exact ⟨f3, f1, f4, f5⟩
end
section
variable {X : Cx} {scope : Scope} {x x' : Str} {Nf : List Str} {js : List Nat} {wi : TI} {tc : TT} {te : TE} {elt iter : Expr} {ifs : List Expr} {px px' ptg pos : Pos} {ktg : Nat}

end
end L2

set_option Elab.async false
set_option linter.all false
set_option maxRecDepth 100000
set_option maxHeartbeats 1000000
namespace L2
open PySem PyProof PyProof.Rows
def Any1 (K : PySem.W.Frag) (H : Hp) (v : V) (t : Value) : Prop := Thg K H v t ∨ ∃ (a C dx : Addr) (fs : List (Str × V)), v = .ref a ∧ H a = some (.ins C dx fs) ∧ InsC K C ∧ t = .ref C
section
variable {X : Cx}
theorem Any1.kit {pins : List (Addr × Obj)} {σ : St} {H : Hp} {s : Shared} {v : V} {u t : Value} (I : Inv X pins σ H s) (r : RelV v u) (x : Any1 X.K H v t) : u ≠ .builtin "__main__.__loader__#opaque" ∧ ∃ φ, PySem.W.KitX X.K u t φ ∧ φ s.heap := by
  rcases x with x | ⟨a, C, dx, fs, rfl, ea, c, rfl⟩
  · exact x.kit I r
  · cases (show u = Value.ref a from r)
    obtain ⟨mA, O, _⟩ := ins_get I.hok ea
    obtain ⟨od, J, _⟩ := O.look
    exact ⟨(fun z => nomatch z), _, PySem.W.kitx_own (c.cl.get _) c.cl.hd c.ha c.hn c.tk c.hm, J⟩
end
end L2

set_option Elab.async false
set_option linter.all false
set_option maxRecDepth 100000
set_option maxHeartbeats 1000000
namespace L2
open PySem PySem.Spec PyProof.Rows
section
variable {X : Cx} {pins : List (Addr × Obj)} {σ : St} {H : Hp} {s : Shared} {h' : Heap}
end
end L2

set_option Elab.async false
set_option linter.all false
set_option maxRecDepth 100000
set_option maxHeartbeats 0
namespace K12
open PySem L2
def top (i : Nat) : Stmt := PySem.Challenge.pw_nolocktree_k12_goods_put_and_taken.main.body.getD i (.Pass ⟨0, 0, 0, 0⟩)
structure Txt (K : PySem.W.Frag) (mg : Str → Option Value) : Prop where
  n_len : mg "len" = none
  n_max : mg "max" = none
  n_min : mg "min" = none
  n_isinstance : mg "isinstance" = none
  n_list : mg "list" = none
  n_tuple : mg "tuple" = none
  n_int : mg "int" = none
  n_bool : mg "bool" = none
  n_enumerate : mg "enumerate" = none
  n_range : mg "range" = none
  n_repr : mg "repr" = none
  n_all : mg "all" = none
  n_set : mg "set" = none
  n_sorted : mg "sorted" = none
  n_dict : mg "dict" = none
  n_zip : mg "zip" = none
  c_lo : ∃ t, mg "LEAST_KEY" = some (.int (-999999999) t)
  c_hi : ∃ t, mg "GREATEST_KEY" = some (.int 999999999 t)
  c_most : ∃ t, mg "MOST_KEYS" = some (.int 6 t)
def OkD (P : Program) (w : World) (K : PySem.W.Frag) (mg : Str → Option Value) (base : Heap) (x : Str) (st : Stmt) (ps : List Str) (k : Nat) (sp : Sp) : Prop :=
  ∃ f fd, Dn K mg x x st ps f fd ∧ FnOk P w K mg base CX0 k f fd ps sp
def Box (H : Hp) (p : Addr) (n : Nat) : Prop := ∃ a b c : Int, H p = some (.lst [.int a, .int b, .int c]) ∧ 0 ≤ a ∧ 0 ≤ b ∧ b < 2147483629 ∧ 0 ≤ c ∧ c ≤ n
theorem Box.lst {H : Hp} {p : Addr} {n : Nat} (x : Box H p n) : ∃ xs, H p = some (.lst xs) := let ⟨_, _, _, h, _⟩ := x; ⟨_, h⟩
theorem Box.mono {H : Hp} {p : Addr} {n m : Nat} (x : Box H p n) (h : n ≤ m) : Box H p m := let ⟨a, b, c, h1, h2, h3, h4, h5, h6⟩ := x; ⟨a, b, c, h1, h2, h3, h4, h5, by omega⟩
theorem Box.upd {H : Hp} {p q : Addr} {n : Nat} {o : HO} (x : Box H p n) (h : H q = none) : Box (upd H q o) p n := by
  obtain ⟨a, b, c, h1, r⟩ := x
  exact ⟨a, b, c, by rw [upd_ne (ne_of_none h1 h)]; exact h1, r⟩
def spTake : Sp := fun vs H Q _ => ∃ (p : Addr) (m : Int) (n : Nat), vs = [.ref p, .int m] ∧ Box H p n ∧ n ≤ 1000000 ∧ 0 < m ∧ m ≤ 1000000000000000000000000000000 ∧
  ∀ (r : Int) (H' : Hp), 0 ≤ r → r < m → Box H' p (n + 1) → KB p H H' → Q (.int r) H'
section
variable {P : Program} {w : World} {K : PySem.W.Frag} {mg : Str → Option Value} {base : Heap}
abbrev s__law_take : Stmt := top 32
theorem sc__law_take : FnScope ["_law_box_here", "_law_many", "_law_digit", "_law_number"] ["_law_box_here", "_law_many"] (defScope s__law_take) := ⟨rfl, rfl, rfl, by decide +kernel, rfl, by decide +kernel, by decide +kernel⟩
theorem log_small {m : Int} (h : 0 < m) (h2 : m ≤ 1000000000000000000000000000000) : m.natAbs.log2 < 9000 := by
  have e : m.natAbs < 2 ^ 110 := by omega
  have := (Nat.log2_lt (by omega)).mpr e
  omega
theorem small_mod {x : Int} : (x % 2147483629).natAbs < 2 ^ 64 := by omega
theorem ok_take (hd : ∃ f fd, Dn K mg "_law_take" "_law_take" s__law_take ["_law_box_here", "_law_many"] f fd) (T : Txt K mg) : OkD P w K mg base "_law_take" s__law_take ["_law_box_here", "_law_many"] 1 spTake := by
  obtain ⟨f, fd, D⟩ := hd
  refine ⟨f, fd, D, D.fn.ok sc__law_take (fun vs H Q E h => ?_) (fun cdv A outer s H vs Q E hr h => ?_)⟩
  · obtain ⟨_, _, _, rfl, _⟩ := h
    rfl
  · obtain ⟨p, m, n, rfl, ⟨a, b, c, hb, ha, hb0, hb1, hc0, hc1⟩, hn, hm, hm2, k⟩ := h
    have sc := sc__law_take
    refine ⟨_, (pss_cons (ps_if (pt_cmpR op_gt (pe_ix ix_list (pv 0) pe_int (fun _ _ => rfl)) pe_int (nomark _))
      (pss_cons (ps_set (i := 2) sc.nd rfl (Or.inl rfl) (pe_op op_mod (pe_ix ix_list (pv 0) pe_int (fun _ _ => rfl)) (pv 1)))
    (pss_cons (ps_asg (pe_op op_fdivL (pe_ix ix_list (pv 0) pe_int (fun _ _ => rfl)) (pv 1)) (pg_sub (pv 0) pe_int set_list))
    (pss_one (ps_ret (pv 2)))))
      pss_nil)
    (pss_cons (ps_asg (pe_op op_add (pe_ix ix_list (pv 0) pe_int (fun _ _ => rfl)) pe_int) (pg_sub (pv 0) pe_int set_list))
    (pss_cons (ps_set (i := 3) sc.nd rfl (Or.inl rfl) (pe_op op_mod (pe_op op_add (pe_op op_pow (pe_op op_add (pe_ix ix_list (pv 0) pe_int (fun _ _ => rfl)) (pe_op op_mul pe_int (pe_ix ix_list (pv 0) pe_int (fun _ _ => rfl)))) pe_int) (pe_op op_mul pe_int (pe_ix ix_list (pv 0) pe_int (fun _ _ => rfl)))) pe_int))
    (pss_one (ps_ret (pe_op op_mod (pe_op op_fdivL (pe_op op_mod (pe_op op_pow (pv 3) pe_int) pe_int) pe_int) (pv 1))))))), ?_⟩
    refine ⟨_, rfl, _, _, _, _, rfl, rfl, SqL.of hb, rfl, _, _, rfl, rfl, _, rfl, ?_⟩
    refine ite2 (fun h0 => ?_) (fun h0 => ?_)
    · refine ⟨_, rfl, _, _, _, _, rfl, rfl, SqL.of hb, rfl, _, rfl, _, _, rfl, rfl, hm, ?_⟩
      refine ⟨_, rfl, _, _, _, _, rfl, rfl, SqL.of hb, rfl, _, rfl, _, _, rfl, rfl, ⟨hm, log_small hm hm2⟩, ?_⟩
      refine ⟨_, rfl, _, _, _, _, rfl, rfl, hb, rfl, _, rfl, ?_⟩
      exact k _ _ (Int.emod_nonneg _ (by omega)) (Int.emod_lt_of_pos _ hm) ⟨a / m, b, c, upd_same, Int.ediv_nonneg ha (by omega), hb0, hb1, hc0, by omega⟩ (KB.refl.updP)
    · refine ⟨_, rfl, _, _, _, _, rfl, rfl, SqL.of hb, rfl, _, _, rfl, rfl, ?_⟩
      refine ⟨_, rfl, _, _, _, _, rfl, rfl, hb, rfl, ?_⟩
      have hb' : upd H p (.lst ([V.int a, V.int b, V.int c].set 2 (V.int (c + 1)))) p = some (.lst [V.int a, V.int b, V.int (c + 1)]) := upd_same
      refine ⟨_, rfl, _, _, _, _, rfl, rfl, SqL.of hb', rfl, _, rfl, _, _, _, _, rfl, rfl, SqL.of hb', rfl, _, _, rfl, rfl, .inl ⟨by decide, by decide⟩, _, _, rfl, rfl, _, _, rfl, rfl, ⟨by decide, by decide, ?_⟩, ?_⟩
      · show (b + 104729 * (c + 1)).natAbs < 2 ^ 64
        omega
      refine ⟨_, rfl, _, _, _, _, rfl, rfl, SqL.of hb', rfl, _, _, rfl, rfl, .inl ⟨by decide, by decide⟩, _, _, rfl, rfl, _, _, rfl, rfl, (by show (0 : Int) < 2147483629; decide), ?_⟩
      refine ⟨_, rfl, _, _, rfl, rfl, ⟨by decide, by decide, small_mod⟩, _, _, rfl, rfl, (by show (0 : Int) < 2147483587; decide), _, _, rfl, rfl, ⟨by decide, by decide +kernel⟩, _, rfl, _, _, rfl, rfl, hm, ?_⟩
      exact k _ _ (Int.emod_nonneg _ (by omega)) (Int.emod_lt_of_pos _ hm) ⟨a, b, c + 1, hb', ha, hb0, hb1, by omega, by omega⟩ (KB.refl.updP)
end
end K12

set_option Elab.async false
set_option linter.all false
set_option maxRecDepth 100000
set_option maxHeartbeats 0
namespace K12
open PySem L2
theorem cp {j : Int} (h0 : 0 ≤ j) (h1 : j ≤ 1000000) : CPow 10 j := ⟨h0, h1, by decide⟩
theorem atI_mem {xs : List V} {r : Int} (h0 : 0 ≤ r) (h1 : r < xs.length) : ∃ v, v ∈ xs ∧ atI xs r = some v := by
  have hj : r.toNat < xs.length := by omega
  refine ⟨xs[r.toNat], List.getElem_mem hj, ?_⟩
  have e : xs[r.toNat]? = some xs[r.toNat] := by simp [hj]
  have := atI_nat e
  rwa [show ((r.toNat : Nat) : Int) = r by omega] at this
theorem atI_ints {ns : List Int} {r : Int} (h0 : 0 ≤ r) (h1 : r < ns.length) : ∃ z, z ∈ ns ∧ atI (ns.map V.int) r = some (.int z) := by
  obtain ⟨v, hv, e⟩ := atI_mem (xs := ns.map V.int) h0 (by simpa using h1)
  obtain ⟨z, hz, rfl⟩ := List.mem_map.mp hv
  exact ⟨z, hz, e⟩
theorem Box.ne {H H1 : Hp} {p q : Addr} {n : Nat} (x : Box H p n) (h : H q = none) : q ≠ p := by
  obtain ⟨xs, e⟩ := x.lst
  exact (ne_of_none e h).symm
section
variable {P : Program} {w : World} {K : PySem.W.Frag} {mg : Str → Option Value} {base : Heap}
abbrev s__law_cell : Stmt := top 30
theorem sc__law_cell : FnScope ["_law_script", "_law_k"] ["_law_script", "_law_k"] (defScope s__law_cell) := ⟨rfl, rfl, rfl, by decide +kernel, rfl, by decide +kernel, by decide +kernel⟩
def spCell (K : PySem.W.Frag) : Sp := fun vs H Q _ => ∃ (a : Addr) (k : Nat) (ns : List Int), vs = [.ref a, .int k] ∧ SqL K H a (ns.map V.int) ∧ ∀ i : Int, Q (.int i) H
theorem ok_cell (hd : ∃ f fd, Dn K mg "_law_cell" "_law_cell" s__law_cell ["_law_script", "_law_k"] f fd) (T : Txt K mg) : OkD P w K mg base "_law_cell" s__law_cell ["_law_script", "_law_k"] 1 (spCell K) := by
  obtain ⟨f, fd, D⟩ := hd
  refine ⟨f, fd, D, D.fn.ok sc__law_cell (fun vs H Q E h => ?_) (fun cdv A outer s H vs Q E hr h => ?_)⟩
  · obtain ⟨_, _, _, rfl, _⟩ := h
    rfl
  · obtain ⟨a, j, ns, rfl, hS, k⟩ := h
    have sc := sc__law_cell
    refine ⟨_, (pss_cons (ps_if (pt_cmpR op_lt (pv 1) (pe_callB call_len_seq rfl T.n_len bt_len (pa_c (pv 0) pa_nil)) (nomark _))
      (pss_one (ps_ret (pe_ix ix_list (pv 0) (pv 1) (fun _ _ => rfl))))
      pss_nil)
    (pss_one (ps_ret (pe_op op_add (pe_op op_mul pe_int (pv 1)) pe_int)))), ?_⟩
    refine ⟨_, rfl, _, rfl, _, _, rfl, .inl hS, _, _, rfl, rfl, _, rfl, ?_⟩
    refine ite2 (fun h0 => ?_) (fun h0 => ?_)
    · have h1 : (j : Int) < ((ns.map V.int).length : Nat) := of_decide_eq_true h0
      obtain ⟨z, _, e⟩ := atI_ints (ns := ns) (r := (j : Int)) (by omega) (by simpa using h1)
      exact ⟨_, rfl, _, rfl, _, _, _, _, rfl, rfl, hS, e, k z⟩
    · exact ⟨_, rfl, _, _, rfl, rfl, .inl ⟨by decide, by decide⟩, _, _, rfl, rfl, k _⟩
abbrev s__law_box : Stmt := top 31
theorem sc__law_box : FnScope ["_law_cell_here"] ["_law_cell_here"] (defScope s__law_box) := ⟨rfl, rfl, rfl, by decide +kernel, rfl, by decide +kernel, by decide +kernel⟩
def spBox : Sp := fun vs H Q _ => ∃ (c : Int), vs = [.int c] ∧ ∀ (p : Addr) (H' : Hp), H p = none → Box H' p 0 → Same H H' → Q (.ref p) H'
theorem ok_box (hd : ∃ f fd, Dn K mg "_law_box" "_law_box" s__law_box ["_law_cell_here"] f fd) (T : Txt K mg) : OkD P w K mg base "_law_box" s__law_box ["_law_cell_here"] 1 spBox := by
  obtain ⟨f, fd, D⟩ := hd
  refine ⟨f, fd, D, D.fn.ok sc__law_box (fun vs H Q E h => ?_) (fun cdv A outer s H vs Q E hr h => ?_)⟩
  · obtain ⟨_, rfl, _⟩ := h
    rfl
  · obtain ⟨c, rfl, k⟩ := h
    have sc := sc__law_box
    refine ⟨_, (pss_one (ps_ret (pe_lst (pa_c (pe_callB (call_max2 rfl) rfl T.n_max bt_max (pa_c pe_int (pa_c (pe_op op_sub (pv 0) (pe_op op_pow pe_int pe_int)) pa_nil))) (pa_c (pe_op op_mod (pv 0) pe_int) (pa_c pe_int pa_nil)))))), ?_⟩
    refine ⟨_, rfl, _, _, rfl, rfl, cp (by decide) (by decide), _, _, rfl, rfl, _, _, rfl, _, rfl, _, _, rfl, rfl, (by show (0 : Int) < 2147483629; decide), (by show 3 ≤ sizeLine; decide), fun p hp => ?_⟩
    refine k p _ hp ⟨_, _, _, upd_same, ?_, Int.emod_nonneg _ (by decide), Int.emod_lt_of_pos _ (by decide), Int.le_refl _, Int.le_refl _⟩ (Same.upd hp)
    generalize c - 10 ^ (18 : Int).toNat = z
    by_cases hz : z > 0
    · rw [if_pos hz]; omega
    · rw [if_neg hz]; omega
end
end K12

set_option Elab.async false
set_option linter.all false
set_option maxRecDepth 100000
set_option maxHeartbeats 1000000
namespace K12
open PySem L2
def isI : V → Bool | .int _ => true | _ => false
def isB : V → Bool | .bl _ => true | _ => false
def isSq (t : Value) : Bool := t == .type "list" || t == .type "tuple"
def whole (v : V) (lo hi : Int) : Bool := match v with | .int i => decide (lo ≤ i) && decide (i ≤ hi) | _ => false
def keyV (v : V) : Bool := whole v (-999999999) 999999999
section
variable {K : PySem.W.Frag} {H : Hp} {v : V} {t : Value}
theorem meta_int : PySem.W.kitMeta "int" = true := by decide +kernel
theorem meta_bool : PySem.W.kitMeta "bool" = true := by decide +kernel
theorem meta_list : PySem.W.kitMeta "list" = true := by decide +kernel
theorem meta_tuple : PySem.W.kitMeta "tuple" = true := by decide +kernel
theorem kit_ref {C : Addr} {n : String} (hm : PySem.W.kitMeta n = true) (h : PySem.W.subIn K (.ref C) (.type n) = some false) : PySem.W.kitOne K (.ref C) (.type n) = some false := by
  unfold PySem.W.kitOne
  rw [if_neg (by intro z; cases (beq_iff_eq.mp z))]
  show (if PySem.W.kitMeta n = true then _ else _) = _
  rw [if_pos hm, h]
theorem inst_int (x : Thg K H v t) : PySem.W.kitOne K t (.type "int") = some (isI v || isB v) := by
  cases x with
  | exc e d x => exact kit_ref meta_int x.ki
  | exn e x => exact kit_ref meta_int x.ki
  | _ => kernel_rfl
theorem inst_bool (x : Thg K H v t) : PySem.W.kitOne K t (.type "bool") = some (isB v) := by
  cases x with
  | exc e d x => exact kit_ref meta_bool x.kb
  | exn e x => exact kit_ref meta_bool x.kb
  | _ => kernel_rfl
theorem inst_seq (x : Thg K H v t) : PySem.W.kitAny K t [.type "list", .type "tuple"] = some (isSq t) := by
  cases x with
  | exc e d x =>
    unfold PySem.W.kitAny
    rw [kit_ref meta_list x.kl]
    unfold PySem.W.kitAny
    rw [kit_ref meta_tuple x.kt]
    rfl
  | exn e x =>
    unfold PySem.W.kitAny
    rw [kit_ref meta_list x.kl]
    unfold PySem.W.kitAny
    rw [kit_ref meta_tuple x.kt]
    rfl
  | _ => kernel_rfl
end
section
variable {P : Program} {w : World} {K : PySem.W.Frag} {mg : Str → Option Value} {base : Heap}
abbrev s_is_number : Stmt := top 12
theorem sc_is_number : FnScope ["thing"] ["thing"] (defScope s_is_number) := ⟨rfl, rfl, rfl, by decide +kernel, rfl, by decide +kernel, by decide +kernel⟩
def spIsN (K : PySem.W.Frag) : Sp := fun vs H Q _ => ∃ (v : V) (t : Value), vs = [v] ∧ Thg K H v t ∧ Q (.bl (isI v)) H
theorem ok_isN (hd : ∃ f fd, Dn K mg "is_number" "is_number" s_is_number ["thing"] f fd) (T : Txt K mg) : OkD P w K mg base "is_number" s_is_number ["thing"] 1 (spIsN K) := by
  obtain ⟨f, fd, D⟩ := hd
  refine ⟨f, fd, D, D.fn.ok sc_is_number (fun vs H Q E h => ?_) (fun cdv A outer s H vs Q E hr h => ?_)⟩
  · obtain ⟨_, _, rfl, _⟩ := h
    rfl
  · obtain ⟨v, t, rfl, x, k⟩ := h
    refine ⟨_, (pss_one (ps_ret (pe_and (pe_callB call_inst rfl T.n_isinstance bt_isinstance (pa_c (pv 0) (pa_c (pe_bltn (v := .ty "int") rfl T.n_int bt_int rfl) pa_nil))) (pe_one (pe_not (pe_callB call_inst rfl T.n_isinstance bt_isinstance (pa_c (pv 0) (pa_c (pe_bltn (v := .ty "bool") rfl T.n_bool bt_bool rfl) pa_nil)))))))), ?_⟩
    refine ⟨_, rfl, v, _, t, _, rfl, x, .inl ⟨"int", rfl, inst_int x⟩, _, rfl, ?_⟩
    cases hv : v with
    | int i =>
      rw [hv] at k x
      exact iteT ⟨_, rfl, _, _, t, _, rfl, x, .inl ⟨"bool", rfl, inst_bool x⟩, _, rfl, k⟩
    | bl b =>
      rw [hv] at k x
      exact iteT ⟨_, rfl, _, _, t, _, rfl, x, .inl ⟨"bool", rfl, inst_bool x⟩, _, rfl, k⟩
    | _ =>
      rw [hv] at k
      exact iteF k
abbrev s_is_whole : Stmt := top 13
theorem sc_is_whole : FnScope ["thing", "low", "high"] ["thing", "low", "high"] (defScope s_is_whole) := ⟨rfl, rfl, rfl, by decide +kernel, rfl, by decide +kernel, by decide +kernel⟩
def spIsW (K : PySem.W.Frag) : Sp := fun vs H Q _ => ∃ (v : V) (t : Value) (lo hi : Int), vs = [v, .int lo, .int hi] ∧ Thg K H v t ∧ Q (.bl (whole v lo hi)) H
theorem ok_isW (hd : ∃ f fd, Dn K mg "is_whole" "is_whole" s_is_whole ["thing", "low", "high"] f fd) (T : Txt K mg) (h1 : OkD P w K mg base "is_number" s_is_number ["thing"] 1 (spIsN K)) :
    OkD P w K mg base "is_whole" s_is_whole ["thing", "low", "high"] 2 (spIsW K) := by
  obtain ⟨f, fd, D⟩ := hd
  obtain ⟨f1, fd1, Dis_number, Gis_number⟩ := h1
  refine ⟨f, fd, D, D.fn.ok sc_is_whole (fun vs H Q E h => ?_) (fun cdv A outer s H vs Q E hr h => ?_)⟩
  · obtain ⟨_, _, _, _, rfl, _⟩ := h
    rfl
  · obtain ⟨v, t, lo, hi, rfl, x, k⟩ := h
    refine ⟨_, (pss_one (ps_ret (pe_and (pe_call Gis_number (hr.mono (by decide)) rfl Dis_number.m Dis_number.fn.kp Dis_number.b .nil pass0 (pa_c (pv 0) pa_nil)) (pe_one (pe_chain op_le op_le (pv 1) (pv 0) (pv 2)))))), ?_⟩
    refine ⟨_, rfl, v, t, rfl, x, _, rfl, ?_⟩
    cases hv : v with
    | int i =>
      rw [hv] at k
      refine iteT ⟨_, rfl, _, rfl, _, _, rfl, rfl, _, rfl, ite2 (fun h1 => ?_) (fun h1 => ?_)⟩
      · refine ⟨_, rfl, _, _, rfl, rfl, ?_⟩
        have h2 : decide (lo ≤ i) = true := h1
        have k' : Q (.bl (decide (lo ≤ i) && decide (i ≤ hi))) H := k
        rw [h2, Bool.true_and] at k'
        exact k'
      · have h2 : decide (lo ≤ i) = false := Bool.eq_false_iff.mpr h1
        have k' : Q (.bl (decide (lo ≤ i) && decide (i ≤ hi))) H := k
        rw [h2, Bool.false_and] at k'
        exact k'
    | _ =>
      rw [hv] at k
      exact iteF k
abbrev s_is_key : Stmt := top 14
theorem sc_is_key : FnScope ["thing"] ["thing"] (defScope s_is_key) := ⟨rfl, rfl, rfl, by decide +kernel, rfl, by decide +kernel, by decide +kernel⟩
def spIsK (K : PySem.W.Frag) : Sp := fun vs H Q _ => ∃ (v : V) (t : Value), vs = [v] ∧ Thg K H v t ∧ Q (.bl (keyV v)) H
theorem ok_isK (hd : ∃ f fd, Dn K mg "is_key" "is_key" s_is_key ["thing"] f fd) (T : Txt K mg) (h1 : OkD P w K mg base "is_whole" s_is_whole ["thing", "low", "high"] 2 (spIsW K)) :
    OkD P w K mg base "is_key" s_is_key ["thing"] 3 (spIsK K) := by
  obtain ⟨f, fd, D⟩ := hd
  obtain ⟨f1, fd1, Dis_whole, Gis_whole⟩ := h1
  obtain ⟨t_LEAST_KEY, c_LEAST_KEY⟩ := T.c_lo
  obtain ⟨t_GREATEST_KEY, c_GREATEST_KEY⟩ := T.c_hi
  refine ⟨f, fd, D, D.fn.ok sc_is_key (fun vs H Q E h => ?_) (fun cdv A outer s H vs Q E hr h => ?_)⟩
  · obtain ⟨_, _, rfl, _⟩ := h
    rfl
  · obtain ⟨v, t, rfl, x, k⟩ := h
    refine ⟨_, (pss_one (ps_ret (pe_call Gis_whole (hr.mono (by decide)) rfl Dis_whole.m Dis_whole.fn.kp Dis_whole.b .nil pass0 (pa_c (pv 0) (pa_c (pe_glob (v := .int (-999999999)) rfl c_LEAST_KEY ⟨t_LEAST_KEY, rfl⟩) (pa_c (pe_glob (v := .int (999999999)) rfl c_GREATEST_KEY ⟨t_GREATEST_KEY, rfl⟩) pa_nil)))))), ?_⟩
    exact ⟨_, rfl, v, t, _, _, rfl, x, k⟩
abbrev s_is_good : Stmt := top 15
theorem sc_is_good : FnScope ["thing"] ["thing"] (defScope s_is_good) := ⟨rfl, rfl, rfl, by decide +kernel, rfl, by decide +kernel, by decide +kernel⟩
theorem ok_isG (hd : ∃ f fd, Dn K mg "is_good" "is_good" s_is_good ["thing"] f fd) (T : Txt K mg) (h1 : OkD P w K mg base "is_whole" s_is_whole ["thing", "low", "high"] 2 (spIsW K)) :
    OkD P w K mg base "is_good" s_is_good ["thing"] 3 (spIsK K) := by
  obtain ⟨f, fd, D⟩ := hd
  obtain ⟨f1, fd1, Dis_whole, Gis_whole⟩ := h1
  obtain ⟨t_LEAST_KEY, c_LEAST_KEY⟩ := T.c_lo
  obtain ⟨t_GREATEST_KEY, c_GREATEST_KEY⟩ := T.c_hi
  refine ⟨f, fd, D, D.fn.ok sc_is_good (fun vs H Q E h => ?_) (fun cdv A outer s H vs Q E hr h => ?_)⟩
  · obtain ⟨_, _, rfl, _⟩ := h
    rfl
  · obtain ⟨v, t, rfl, x, k⟩ := h
    refine ⟨_, (pss_one (ps_ret (pe_call Gis_whole (hr.mono (by decide)) rfl Dis_whole.m Dis_whole.fn.kp Dis_whole.b .nil pass0 (pa_c (pv 0) (pa_c (pe_glob (v := .int (-999999999)) rfl c_LEAST_KEY ⟨t_LEAST_KEY, rfl⟩) (pa_c (pe_glob (v := .int (999999999)) rfl c_GREATEST_KEY ⟨t_GREATEST_KEY, rfl⟩) pa_nil)))))), ?_⟩
    exact ⟨_, rfl, v, t, _, _, rfl, x, k⟩
abbrev s_is_row : Stmt := top 16
theorem sc_is_row : FnScope ["thing"] ["thing"] (defScope s_is_row) := ⟨rfl, rfl, rfl, by decide +kernel, rfl, by decide +kernel, by decide +kernel⟩
def spIsR (K : PySem.W.Frag) : Sp := fun vs H Q _ => ∃ (v : V) (t : Value), vs = [v] ∧ Thg K H v t ∧ ∀ H', Same H H' → Q (.bl (isSq t)) H'
theorem tys2 : ∀ c ∈ ([V.ty "list", V.ty "tuple"] : List V), (∃ n, c = .ty n) ∨ ∃ a, c = .ref a := by
  intro c hc
  simp only [List.mem_cons, List.not_mem_nil, or_false] at hc
  rcases hc with rfl | rfl <;> exact .inl ⟨_, rfl⟩
theorem ok_isR (hd : ∃ f fd, Dn K mg "is_row" "is_row" s_is_row ["thing"] f fd) (T : Txt K mg) : OkD P w K mg base "is_row" s_is_row ["thing"] 1 (spIsR K) := by
  obtain ⟨f, fd, D⟩ := hd
  refine ⟨f, fd, D, D.fn.ok sc_is_row (fun vs H Q E h => ?_) (fun cdv A outer s H vs Q E hr h => ?_)⟩
  · obtain ⟨_, _, rfl, _⟩ := h
    rfl
  · obtain ⟨v, t, rfl, x, k⟩ := h
    refine ⟨_, (pss_one (ps_ret (pe_callB call_inst rfl T.n_isinstance bt_isinstance (pa_c (pv 0) (pa_c (pe_tup (pa_c (pe_bltn (v := .ty "list") rfl T.n_list bt_list rfl) (pa_c (pe_bltn (v := .ty "tuple") rfl T.n_tuple bt_tuple rfl) pa_nil))) pa_nil))))), ?_⟩
    refine ⟨_, rfl, (by show 2 ≤ sizeLine; decide), fun p hp => ?_⟩
    exact ⟨v, _, t, _, rfl, x.keep (Same.upd hp), .inr (.inr ⟨p, _, rfl, upd_same, tys2, inst_seq x⟩), k _ (Same.upd hp)⟩
abbrev s__law_is_number : Stmt := top 38
theorem sc__law_is_number : FnScope ["_law_thing"] ["_law_thing"] (defScope s__law_is_number) := ⟨rfl, rfl, rfl, by decide +kernel, rfl, by decide +kernel, by decide +kernel⟩
def spIsL (K : PySem.W.Frag) : Sp := fun vs H Q _ => ∃ v t, vs = [v] ∧ Thg K H v t ∧ Q (.bl (keyV v)) H
theorem ok_lN (hd : ∃ f fd, Dn K mg "_law_is_number" "_law_is_number" s__law_is_number ["_law_thing"] f fd) (T : Txt K mg) : OkD P w K mg base "_law_is_number" s__law_is_number ["_law_thing"] 1 (spIsL K) := by
  obtain ⟨f, fd, D⟩ := hd
  refine ⟨f, fd, D, D.fn.ok sc__law_is_number (fun vs H Q E h => ?_) (fun cdv A outer s H vs Q E hr h => ?_)⟩
  · obtain ⟨_, _, rfl, _⟩ := h
    rfl
  · obtain ⟨v, t, rfl, x, k⟩ := h
    have e9 : (10 : Int) ^ (9 : Int).toNat = 1000000000 := by decide +kernel
    refine ⟨_, (pss_one (ps_ret (pe_and (pe_callB call_inst rfl T.n_isinstance bt_isinstance (pa_c (pv 0) (pa_c (pe_bltn (v := .ty "int") rfl T.n_int bt_int rfl) pa_nil))) (pe_and (pe_cmpR op_isnotB (pv 0) pe_bl (nomark _)) (pe_and (pe_cmpR op_isnotB (pv 0) pe_bl (nomark _)) (pe_one (pe_chain op_lt op_lt (pe_un un_neg (pe_op op_pow pe_int pe_int)) (pv 0) (pe_op op_pow pe_int pe_int)))))))), ?_⟩
    refine ⟨_, rfl, v, _, t, _, rfl, x, .inl ⟨"int", rfl, inst_int x⟩, _, rfl, ?_⟩
    cases hv : v with
    | int i =>
      rw [hv] at k
      have k' : Q (.bl (decide (-999999999 ≤ i) && decide (i ≤ 999999999))) H := k
      refine iteT ⟨_, rfl, _, rfl, _, rfl, iteT ⟨_, rfl, _, rfl, _, rfl, iteT ⟨_, _, rfl, rfl, cp (by decide) (by decide), _, rfl, _, rfl, _, _, rfl, rfl, _, rfl, ite2 (fun h1 => ?_) (fun h1 => ?_)⟩⟩⟩
      · have h2 : -(10 : Int) ^ (9 : Int).toNat < i := of_decide_eq_true h1
        rw [e9] at h2
        refine ⟨_, _, rfl, rfl, cp (by decide) (by decide), _, _, rfl, rfl, ?_⟩
        show Q (.bl (decide (i < (10 : Int) ^ (9 : Int).toNat))) H
        rw [decide_eq_true (show -999999999 ≤ i by omega), Bool.true_and] at k'
        rw [e9, show decide (i < 1000000000) = decide (i ≤ 999999999) from decide_eq_decide.mpr (by omega)]
        exact k'
      · have h2 : ¬ -(10 : Int) ^ (9 : Int).toNat < i := fun z => h1 (decide_eq_true z)
        rw [e9] at h2
        rw [decide_eq_false (show ¬ -999999999 ≤ i by omega), Bool.false_and] at k'
        exact k'
    | bl b =>
      rw [hv] at k
      cases b with
      | true => exact iteT ⟨_, rfl, _, rfl, _, rfl, iteF k⟩
      | false => exact iteT ⟨_, rfl, _, rfl, _, rfl, iteT ⟨_, rfl, _, rfl, _, rfl, iteF k⟩⟩
    | _ =>
      rw [hv] at k
      exact iteF k
end
end K12

set_option Elab.async false
set_option linter.all false
set_option maxRecDepth 100000
set_option maxHeartbeats 2000000
namespace K12
open PySem L2
def okAt (xs : List V) (j : Nat) : Prop := ∃ i : Int, xs[j]? = some (.int i) ∧ -999999999 ≤ i ∧ i ≤ 999999999 ∧ (0 < j → ∃ i' : Int, xs[j - 1]? = some (.int i') ∧ i' < i)
def Rises (xs : List V) : Prop := ∀ j, j < xs.length → okAt xs j
open Classical in
noncomputable def rises (xs : List V) : Bool := decide (Rises xs)
open Classical in
theorem rises_t {xs : List V} (h : Rises xs) : rises xs = true := by unfold rises; exact decide_eq_true h
open Classical in
theorem rises_f {xs : List V} (h : ¬ Rises xs) : rises xs = false := by unfold rises; exact decide_eq_false h
theorem keyV_int {v : V} (h : keyV v = true) : ∃ i : Int, v = .int i ∧ -999999999 ≤ i ∧ i ≤ 999999999 := by
  cases v with
  | int i =>
    have h' : (decide (-999999999 ≤ i) && decide (i ≤ 999999999)) = true := h
    rw [Bool.and_eq_true] at h'
    exact ⟨i, rfl, of_decide_eq_true h'.1, of_decide_eq_true h'.2⟩
  | _ => exact absurd (show false = true from h) Bool.false_ne_true
theorem keyV_of {i : Int} (h1 : -999999999 ≤ i) (h2 : i ≤ 999999999) : keyV (.int i) = true := by
  show (decide (-999999999 ≤ i) && decide (i ≤ 999999999)) = true
  rw [decide_eq_true h1, decide_eq_true h2]
  rfl
def Things (K : PySem.W.Frag) (H : Hp) (xs : List V) : Prop := ∀ x ∈ xs, ∃ t, Thg K H x t
theorem Things.same {K : PySem.W.Frag} {H H' : Hp} {xs : List V} (h : Things K H xs) (s : Same H H') : Things K H' xs := fun x hx => let ⟨t, q⟩ := h x hx; ⟨t, q.keep s⟩
def RowAt (tp : Bool) (H : Hp) (a : Addr) (xs : List V) : Prop := H a = some (if tp then .tup xs else .lst xs)
theorem RowAt.sq {K : PySem.W.Frag} {tp : Bool} {H : Hp} {a : Addr} {xs : List V} (h : RowAt tp H a xs) : SqB K tp H a xs := by
  cases tp with
  | true => exact SqT.of h
  | false => exact SqL.of h
def spRise (K : PySem.W.Frag) : Sp := fun vs H Q _ => ∃ (v : V) (t : Value) (tp : Bool) (a : Addr) (xs : List V), vs = [v] ∧ Thg K H v t ∧ (isSq t = true → v = .ref a ∧ RowAt tp H a xs ∧ Things K H xs ∧ xs.length ≤ 2000) ∧
  ∀ H', Same H H' → Q (.bl (isSq t && rises xs)) H'
theorem rise_cases {K : PySem.W.Frag} {vs : List V} {H : Hp} {Q : VK} {E : XK} (h : spRise K vs H Q E) : ∃ (v : V) (t : Value) (tp : Bool), vs = [v] ∧ Thg K H v t ∧
    ((isSq t = false ∧ ∀ H', Same H H' → Q (.bl false) H') ∨ ∃ (a : Addr) (xs : List V), v = .ref a ∧ RowAt tp H a xs ∧ Things K H xs ∧ xs.length ≤ 2000 ∧ isSq t = true ∧ ∀ H', Same H H' → Q (.bl (rises xs)) H') := by
  obtain ⟨v, t, tp, a, xs, e, x, hr, k⟩ := h
  refine ⟨v, t, tp, e, x, ?_⟩
  cases hs : isSq t with
  | false => exact .inl ⟨rfl, fun H' S => by have := k H' S; rw [hs, Bool.false_and] at this; exact this⟩
  | true =>
    obtain ⟨e1, h1, h2, h3⟩ := hr hs
    exact .inr ⟨a, xs, e1, h1, h2, h3, rfl, fun H' S => by have := k H' S; rw [hs, Bool.true_and] at this; exact this⟩
section
variable {P : Program} {w : World} {K : PySem.W.Frag} {mg : Str → Option Value} {base : Heap}
abbrev s_is_rising : Stmt := top 17
theorem sc_is_rising : FnScope ["thing", "at", "key"] ["thing"] (defScope s_is_rising) := ⟨rfl, rfl, rfl, by decide +kernel, rfl, by decide +kernel, by decide +kernel⟩
theorem ok_rise (hd : ∃ f fd, Dn K mg "is_rising" "is_rising" s_is_rising ["thing"] f fd) (T : Txt K mg) (h1 : OkD P w K mg base "is_row" s_is_row ["thing"] 1 (spIsR K)) (h2 : OkD P w K mg base "is_key" s_is_key ["thing"] 3 (spIsK K)) :
    OkD P w K mg base "is_rising" s_is_rising ["thing"] 4 (spRise K) := by
  obtain ⟨f, fd, D⟩ := hd
  obtain ⟨f1, fd1, Dis_row, Gis_row⟩ := h1
  obtain ⟨f2, fd2, Dis_key, Gis_key⟩ := h2
  refine ⟨f, fd, D, D.fn.ok sc_is_rising (fun vs H Q E h => ?_) (fun cdv A outer s H vs Q E hr h => ?_)⟩
  · obtain ⟨_, _, _, _, _, rfl, _⟩ := h
    rfl
  · obtain ⟨v, t, tp, rfl, x, h⟩ := rise_cases h
    have sc := sc_is_rising
    refine ⟨_, (pss_cons (ps_if (pt_not (pt_val (pe_call Gis_row (hr.mono (by decide)) rfl Dis_row.m Dis_row.fn.kp Dis_row.b .nil pass0 (pa_c (pv 0) pa_nil))))
      (pss_one (ps_ret pe_bl))
      pss_nil)
    (pss_cons (ps_for PassesOwn.never rfl (pi_enum tp rfl T.n_enumerate bt_enumerate (pa_c (pv 0) pa_nil)) (pg_tup rfl (pgs_cons (pg_name (i := 1) sc.nd rfl (Or.inl rfl)) (pgs_cons (pg_name (i := 2) sc.nd rfl (Or.inl rfl)) pgs_nil)))
      (pss_cons (ps_if (pt_not (pt_val (pe_call Gis_key (hr.mono (by decide)) rfl Dis_key.m Dis_key.fn.kp Dis_key.b .nil pass0 (pa_c (pv 2) pa_nil))))
      (pss_one (ps_ret pe_bl))
      pss_nil)
    (pss_one (ps_if (PW.pt (pw_and (pt_cmpR op_gt (pv 1) pe_int (nomark _)) (pw_and1 (pt_cmpR op_le (pv 2) (pe_ix ix_seq (pv 0) (pe_op op_sub (pv 1) pe_int) (fun _ _ => rfl)) (nomark _)))))
      (pss_one (ps_ret pe_bl))
      pss_nil))))
    (pss_one (ps_ret pe_bl)))), ?_⟩
    refine ⟨_, rfl, v, t, rfl, x, fun H1 S1 => ⟨_, rfl, ?_⟩⟩
    rcases h with ⟨ht, k⟩ | ⟨a, xs, rfl, hR, hT, hz, ht, k⟩
    · rw [ht]
      exact iteT (k H1 S1)
    · rw [ht]
      refine iteF ?_
      have hR1 : ∀ {H2 : Hp}, Same H H2 → RowAt tp H2 a xs := fun S => S _ _ hR
      refine ⟨_, rfl, a, rfl, ⟨xs, (hR1 S1).sq⟩, for_enum (fun i σ H2 => Same H H2 ∧ (∃ o1 o2, σ = [some (.ref a), o1, o2]) ∧ ∀ j, j < i → okAt xs j) ⟨S1, ⟨none, none, rfl⟩, fun j hj => absurd hj (Nat.not_lt_zero _)⟩ (fun i σ H2 _ ⟨S2, _⟩ => (hR1 S2).sq) ?_ ?_⟩
      · rintro i y t0 σ H2 hi ⟨S2, ⟨o1, o2, rfl⟩, ok⟩ ht0
        have S3 : Same H (upd H2 t0 (.tup [.int i, y])) := S2.trans (Same.upd ht0)
        have hil : i < xs.length := (List.getElem?_eq_some_iff.mp hi).1
        obtain ⟨ty, hy⟩ := hT y (List.mem_of_getElem? hi)
        refine ⟨_, _, rfl, SqT.of upd_same, rfl, _, _, rfl, _, _, rfl, rfl, ?_⟩
        refine ⟨_, rfl, y, ty, rfl, hy.keep S3, _, rfl, ?_⟩
        cases hk : keyV y with
        | false =>
          refine iteT ?_
          have e : rises xs = false := rises_f fun hr => by
            obtain ⟨z, hz1, hz2, hz3, _⟩ := hr i hil
            rw [hi] at hz1
            cases hz1
            rw [keyV_of hz2 hz3] at hk
            cases hk
          have := k _ S3
          rw [e] at this
          exact this
        | true =>
          obtain ⟨z, rfl, hz1, hz2⟩ := keyV_int hk
          refine iteF ?_
          refine ⟨_, rfl, _, _, rfl, rfl, _, rfl, ite2 (fun hp => ?_) (fun hp => ?_)⟩
          · have hp' : (0 : Int) < (i : Int) := of_decide_eq_true hp
            have hi0 : 0 < i := by omega
            obtain ⟨z', q1, q2, q3, _⟩ := ok (i - 1) (by omega)
            have eix : atI xs ((i : Int) - 1) = some (.int z') := by
              have := atI_nat q1
              rwa [show ((i - 1 : Nat) : Int) = (i : Int) - 1 by omega] at this
            have ix : rIx K (.ref a) (.int ((i : Int) - 1)) (upd H2 t0 (.tup [.int i, .int z])) = fun Q' => rIx K (.ref a) (.int ((i : Int) - 1)) (upd H2 t0 (.tup [.int i, .int z])) Q' := rfl
            have ixk : ∀ Q' : VK, Q' (.int z') (upd H2 t0 (.tup [.int i, .int z])) → rIx K (.ref a) (.int ((i : Int) - 1)) (upd H2 t0 (.tup [.int i, .int z])) Q' := fun Q' q => by
              cases tp with
              | true => exact .inr (.inl ⟨_, _, _, _, rfl, rfl, SqT.of (hR1 S3), eix, q⟩)
              | false => exact .inl ⟨_, _, _, _, rfl, rfl, SqL.of (hR1 S3), eix, q⟩
            refine ⟨_, rfl, _, rfl, _, rfl, _, _, rfl, rfl, ixk _ ⟨_, _, rfl, rfl, _, rfl, ite2 (fun hc => ?_) (fun hc => ?_)⟩⟩
            · have hc' : z ≤ z' := of_decide_eq_true hc
              have e : rises xs = false := rises_f fun hr => by
                obtain ⟨u, hu1, _, _, hu4⟩ := hr i hil
                rw [hi] at hu1
                cases hu1
                obtain ⟨u', hu5, hu6⟩ := hu4 hi0
                rw [q1] at hu5
                cases hu5
                omega
              have := k _ S3
              rw [e] at this
              exact this
            · have hc' : ¬ z ≤ z' := fun q => hc (decide_eq_true q)
              refine ⟨S3, ⟨_, _, rfl⟩, fun j hj => ?_⟩
              by_cases hji : j < i
              · exact ok j hji
              · have ej : j = i := by omega
                subst ej
                exact ⟨z, hi, hz1, hz2, fun _ => ⟨z', q1, by omega⟩⟩
          · have hp' : ¬ (0 : Int) < (i : Int) := fun q => hp (decide_eq_true q)
            have hi0 : i = 0 := by omega
            refine iteF ?_
            refine ⟨S3, ⟨_, _, rfl⟩, fun j hj => ?_⟩
            have ej : j = i := by omega
            subst ej
            exact ⟨z, hi, hz1, hz2, fun q => by omega⟩
      · rintro σ H2 ⟨S2, ⟨o1, o2, rfl⟩, ok⟩
        have e : rises xs = true := rises_t ok
        have := k H2 S2
        rw [e] at this
        exact this
end
end K12

set_option Elab.async false
set_option linter.all false
set_option maxRecDepth 100000
set_option maxHeartbeats 2000000
namespace K12
open PySem L2
def rowD : PyData → Option (List PyData)
  | .list ds => some ds
  | .tuple ds => some ds
  | _ => none
def keyD : PyData → Bool
  | .int i => decide (-999999999 ≤ i) && decide (i ≤ 999999999)
  | _ => false
def okAtD (ds : List PyData) (j : Nat) : Prop := ∃ i : Int, ds[j]? = some (.int i) ∧ -999999999 ≤ i ∧ i ≤ 999999999 ∧ (0 < j → ∃ i' : Int, ds[j - 1]? = some (.int i') ∧ i' < i)
def RisesD (ds : List PyData) : Prop := ∀ j, j < ds.length → okAtD ds j
def PageKeys (d : PyData) : Prop := ∃ ds, rowD d = some ds ∧ RisesD ds ∧ ds.length ≤ 6
def PageGoods (d : PyData) (n : Int) : Prop := ∃ ds, rowD d = some ds ∧ (ds.length : Int) = n ∧ ∀ x ∈ ds, keyD x = true
open Classical in
noncomputable def yes (p : Prop) : Bool := decide p
open Classical in
theorem yes_t {p : Prop} (h : p) : yes p = true := by unfold yes; exact decide_eq_true h
open Classical in
theorem yes_f {p : Prop} (h : ¬ p) : yes p = false := by unfold yes; exact decide_eq_false h
section
variable {N : Addr → Prop} {H : Hp} {v : V} {d : PyData}
theorem dv_row (x : DV N H v d) : (∃ (tp : Bool) (a : Addr) (xs : List V) (ds : List PyData), v = .ref a ∧ RowAt tp H a xs ∧ DVs N H xs ds ∧ rowD d = some ds ∧ isSq (tyD d) = true ∧ ¬ N a) ∨ (isSq (tyD d) = false ∧ rowD d = none) := by
  cases x with
  | lst na e r => exact .inl ⟨false, _, _, _, rfl, e, r, rfl, rfl, na⟩
  | tup na e r => exact .inl ⟨true, _, _, _, rfl, e, r, rfl, rfl, na⟩
  | _ => exact .inr ⟨rfl, rfl⟩
theorem keyV_D (x : DV N H v d) : keyV v = keyD d := by cases x <;> rfl
theorem int_D (x : DV N H v d) {i : Int} : v = .int i ↔ d = .int i := by
  cases x with
  | int j => exact ⟨fun h => by cases h; rfl, fun h => by cases h; rfl⟩
  | _ => exact ⟨(fun h => nomatch h), fun h => nomatch h⟩
theorem DVs.at_ {N : Addr → Prop} {H : Hp} : ∀ {xs : List V} {ds : List PyData} (j : Nat), DVs N H xs ds → (xs[j]? = none ∧ ds[j]? = none) ∨ ∃ x d, xs[j]? = some x ∧ ds[j]? = some d ∧ DV N H x d
  | _, _, _, .nil => .inl ⟨rfl, rfl⟩
  | _, _, 0, .cons r t => .inr ⟨_, _, rfl, rfl, r⟩
  | _, _, j + 1, .cons r t => by
    rcases DVs.at_ j t with ⟨a, b⟩ | ⟨x, d, a, b, c⟩
    · exact .inl ⟨by simpa using a, by simpa using b⟩
    · exact .inr ⟨x, d, by simpa using a, by simpa using b, c⟩
theorem at_int {xs : List V} {ds : List PyData} (x : DVs N H xs ds) {j : Nat} {i : Int} : xs[j]? = some (.int i) ↔ ds[j]? = some (.int i) := by
  rcases DVs.at_ j x with ⟨a, b⟩ | ⟨y, e, a, b, c⟩
  · rw [a, b]; exact ⟨(fun h => nomatch h), fun h => nomatch h⟩
  · rw [a, b, Option.some.injEq, Option.some.injEq]
    exact int_D c
theorem rises_D {xs : List V} {ds : List PyData} (x : DVs N H xs ds) : Rises xs ↔ RisesD ds := by
  have l := x.length
  constructor
  · intro h j hj
    obtain ⟨i, a, b, c, e⟩ := h j (by omega)
    exact ⟨i, (at_int x).mp a, b, c, fun z => let ⟨i', q, r⟩ := e z; ⟨i', (at_int x).mp q, r⟩⟩
  · intro h j hj
    obtain ⟨i, a, b, c, e⟩ := h j (by omega)
    exact ⟨i, (at_int x).mpr a, b, c, fun z => let ⟨i', q, r⟩ := e z; ⟨i', (at_int x).mpr q, r⟩⟩
end
section
variable {P : Program} {w : World} {K : PySem.W.Frag} {mg : Str → Option Value} {base : Heap}
def Short (d : PyData) : Prop := ∀ ds, rowD d = some ds → ds.length ≤ 100
abbrev s_are_page_keys : Stmt := top 23
theorem sc_are_page_keys : FnScope ["thing"] ["thing"] (defScope s_are_page_keys) := ⟨rfl, rfl, rfl, by decide +kernel, rfl, by decide +kernel, by decide +kernel⟩
def spAPK : Sp := fun vs H Q _ => ∃ (N : Addr → Prop) (v : V) (d : PyData), vs = [v] ∧ DV N H v d ∧ Short d ∧ ∀ H', Same H H' → Q (.bl (yes (PageKeys d))) H'
theorem ok_APK (hd : ∃ f fd, Dn K mg "are_page_keys" "are_page_keys" s_are_page_keys ["thing"] f fd) (T : Txt K mg) (h1 : OkD P w K mg base "is_rising" s_is_rising ["thing"] 4 (spRise K)) :
    OkD P w K mg base "are_page_keys" s_are_page_keys ["thing"] 5 spAPK := by
  obtain ⟨f, fd, D⟩ := hd
  obtain ⟨f1, fd1, Dis_rising, Gis_rising⟩ := h1
  obtain ⟨t_MOST_KEYS, c_MOST_KEYS⟩ := T.c_most
  refine ⟨f, fd, D, D.fn.ok sc_are_page_keys (fun vs H Q E h => ?_) (fun cdv A outer s H vs Q E hr h => ?_)⟩
  · obtain ⟨_, _, _, rfl, _⟩ := h
    rfl
  · obtain ⟨N, v, d, rfl, x, hz, k⟩ := h
    refine ⟨_, (pss_one (ps_ret (pe_and (pe_call Gis_rising (hr.mono (by decide)) rfl Dis_rising.m Dis_rising.fn.kp Dis_rising.b .nil pass0 (pa_c (pv 0) pa_nil)) (pe_one (pe_cmpR op_le (pe_callB call_len_seq rfl T.n_len bt_len (pa_c (pv 0) pa_nil)) (pe_glob (v := .int (6)) rfl c_MOST_KEYS ⟨t_MOST_KEYS, rfl⟩) (nomark _)))))), ?_⟩
    rcases dv_row x with ⟨tp, a, xs, ds, rfl, ra, rx, rd, sq, na⟩ | ⟨sq, rd⟩
    · have l := rx.length
      have hz' := hz ds rd
      refine ⟨_, rfl, .ref a, _, tp, a, xs, rfl, x.thg, (fun _ => ⟨rfl, ra, rx.things, by omega⟩), fun H1 S1 => ⟨_, rfl, ?_⟩⟩
      rw [sq, Bool.true_and]
      by_cases hr1 : Rises xs
      · rw [rises_t hr1]
        have ra1 : RowAt tp H1 a xs := S1 _ _ ra
        refine iteT ⟨_, rfl, a, xs, rfl, (by cases tp; exact .inl (SqL.of ra1); exact .inr (SqT.of ra1)), _, _, rfl, rfl, ?_⟩
        have e : decide ((xs.length : Int) ≤ 6) = yes (PageKeys d) := by
          by_cases c : xs.length ≤ 6
          · rw [decide_eq_true (by omega), yes_t ⟨ds, rd, (rises_D rx).mp hr1, by omega⟩]
          · rw [decide_eq_false (by omega), yes_f]
            rintro ⟨ds', a', _, c'⟩
            rw [rd] at a'
            cases a'
            omega
        show Q (.bl (decide ((xs.length : Int) ≤ 6))) H1
        rw [e]
        exact k H1 S1
      · rw [rises_f hr1]
        refine iteF ?_
        have := k H1 S1
        rw [yes_f (by
          rintro ⟨ds', a', b', _⟩
          rw [rd] at a'
          cases a'
          exact hr1 ((rises_D rx).mpr b'))] at this
        exact this
    · refine ⟨_, rfl, v, _, true, 0, [], rfl, x.thg, (fun h => by rw [sq] at h; cases h), fun H1 S1 => ⟨_, rfl, ?_⟩⟩
      rw [sq, Bool.false_and]
      refine iteF ?_
      have := k H1 S1
      rw [yes_f (by rintro ⟨ds', a', _⟩; rw [rd] at a'; cases a')] at this
      exact this
end
end K12

set_option Elab.async false
set_option linter.all false
set_option maxRecDepth 100000
set_option maxHeartbeats 2000000
namespace K12
open PySem L2
theorem itb_go {K : PySem.W.Frag} {tp : Bool} {H : Hp} {a : Addr} {xs : List V} {i : Nat} {x : V} (h : RowAt tp H a xs) (e : xs[i]? = some x) : (ItB K tp a).go i H := by
  cases tp with
  | true => exact ⟨xs, x, SqT.of h, e⟩
  | false => exact ⟨xs, x, SqL.of h, e⟩
theorem itb_yld {K : PySem.W.Frag} {tp : Bool} {H H' : Hp} {a : Addr} {xs : List V} {i : Nat} {v : V} (h : RowAt tp H a xs) (y : (ItB K tp a).yld i H v H') : H' = H ∧ xs[i]? = some v := by
  cases tp with
  | true => exact ⟨y.1, y.2 xs (SqT.of h)⟩
  | false => exact ⟨y.1, y.2 xs (SqL.of h)⟩
theorem itb_stop {K : PySem.W.Frag} {tp : Bool} {H : Hp} {a : Addr} {xs : List V} {i : Nat} (h : RowAt tp H a xs) (e : xs.length ≤ i) : (ItB K tp a).stop i H := by
  cases tp with
  | true => exact ⟨xs, SqT.of h, e⟩
  | false => exact ⟨xs, SqL.of h, e⟩
theorem row_len {K : PySem.W.Frag} {tp : Bool} {H : Hp} {a : Addr} {xs : List V} (h : RowAt tp H a xs) : SqL K H a xs ∨ SqT K H a xs := by
  cases tp with
  | true => exact .inr (SqT.of h)
  | false => exact .inl (SqL.of h)
theorem sameD {H1 H2 : Hp} {D : Addr} {o : HO} (s : Same H1 H2) (d : H1 D = none) : Same H1 (upd H2 D o) := fun b u q => by rw [upd_ne (ne_of_none q d)]; exact s b u q
theorem iteE {b c : Bool} {A B : Prop} (e : b = c) (h : if c = true then A else B) : if b = true then A else B := by subst e; exact h
theorem big1000 : (2001 : Nat) ≤ sizeLine := by decide
theorem comp_pure {J : It} {js : List Nat} {tc : TT} {te : TE} {σ : St} {H1 : Hp} {Q : VK} (xs : List V) (p : V → Bool) (g : V → V)
    (hJ : ∀ i H2, Same H1 H2 → (i < xs.length → J.go i H2) ∧ (∀ v H3, J.yld i H2 v H3 → i < xs.length → H3 = H2 ∧ xs[i]? = some v) ∧ (xs.length ≤ i → J.stop i H2))
    (hc : ∀ x ∈ xs, ∀ H2 (R : Bool → Hp → Prop), Same H1 H2 → (∀ H3, Same H2 H3 → R (p x) H3) → tc (blkSt js σ (some x)) H2 R)
    (he : ∀ x ∈ xs, p x = true → ∀ H2 (R : VK), Same H1 H2 → (∀ H3, Same H2 H3 → R (g x) H3) → te (blkSt js σ (some x)) H2 R)
    (hz : xs.length ≤ 2000) (q : ∀ d H2, H1 d = none → Same H1 H2 → H2 d = some (.lst ((xs.filter p).map g)) → Q (.ref d) H2) (D : Addr) (hD : H1 D = none) :
    ∃ W : Nat → Nat → Hp → Prop, (∃ m, W 0 m (upd H1 D (.lst []))) ∧ ∀ i m H2, W i m H2 →
      (J.stop i H2 ∧ Q (.ref D) H2) ∨ (J.go i H2 ∧ ∀ v H3, J.yld i H2 v H3 → tc (blkSt js σ (some v)) H3 fun b H4 =>
        if b = true then te (blkSt js σ (some v)) H4 fun y H5 => ∃ ys, H5 D = some (.lst ys) ∧ ys.length < sizeLine ∧ ∃ m', m' < m ∧ W (i + 1) m' (upd H5 D (.lst (ys ++ [y])))
        else ∃ m', m' < m ∧ W (i + 1) m' H4) := by
  refine ⟨fun i m H2 => i + m = xs.length ∧ Same H1 H2 ∧ H2 D = some (.lst (((xs.take i).filter p).map g)), ⟨xs.length, by omega, sameD (Same.refl _) hD, by simp [upd_same]⟩, ?_⟩
  rintro i m H2 ⟨hm, S2, e2⟩
  by_cases hi : i < xs.length
  · obtain ⟨j1, j2, j3⟩ := hJ i H2 S2
    refine .inr ⟨j1 hi, fun v H3 yl => ?_⟩
    obtain ⟨rfl, ev⟩ := j2 v H3 yl hi
    have hv : v ∈ xs := List.mem_of_getElem? ev
    have tk : xs.take (i + 1) = xs.take i ++ [v] := by
      rw [List.take_add_one, ev]
      rfl
    have len : (((xs.take i).filter p).map g).length ≤ 2000 := by
      rw [List.length_map]
      exact Nat.le_trans (List.length_filter_le _ _) (by rw [List.length_take]; omega)
    refine hc v hv H3 _ S2 fun H4 S4 => ?_
    cases hp : p v with
    | false => exact iteF ⟨m - 1, by omega, by omega, S2.trans S4, by rw [tk, List.filter_append]; simp [hp, S4 _ _ e2]⟩
    | true =>
      refine iteT (he v hv hp H4 _ (S2.trans S4) fun H5 S5 => ⟨_, S5 _ _ (S4 _ _ e2), by have := big1000; omega, m - 1, by omega, by omega, sameD ((S2.trans S4).trans S5) hD, ?_⟩)
      rw [upd_same, tk, List.filter_append]
      simp [hp]
  · refine .inl ⟨(hJ i H2 S2).2.2 (by omega), q D H2 hD S2 ?_⟩
    rw [e2, List.take_of_length_le (by omega)]
theorem tcb1 {r : List V → Hp → VK → Prop} {ta : TE} {σ : St} {H : Hp} {Q : VK} (h : ta σ H fun x H1 => r [x] H1 Q) : tCB r (tCons ta tNil) σ H Q := h
theorem tret1 {te : TE} {D : Ends} {σ : St} {H : Hp} (h : te σ H D.rt) : tRet te D σ H := h
theorem tasg1 {te : TE} {g : TG} {D : Ends} {σ : St} {H : Hp} (h : te σ H fun x H1 => g x σ H1 D.nx) : tAsg te g D σ H := h
theorem comp_f {J : It} {js : List Nat} {wi : TI} {tc : TT} {te : TE} {σ : St} {H H1 : Hp} {Q : VK} (xs : List V) (p : V → Bool) (g : V → V) (hw : ∀ R : It → Hp → Prop, R J H1 → wi σ H R)
    (hJ : ∀ i H2, Same H1 H2 → (i < xs.length → J.go i H2) ∧ (∀ v H3, J.yld i H2 v H3 → i < xs.length → H3 = H2 ∧ xs[i]? = some v) ∧ (xs.length ≤ i → J.stop i H2))
    (hc : ∀ x ∈ xs, ∀ H2 (R : Bool → Hp → Prop), Same H1 H2 → (∀ H3, Same H2 H3 → R (p x) H3) → tc (blkSt js σ (some x)) H2 R)
    (he : ∀ x ∈ xs, p x = true → ∀ H2 (R : VK), Same H1 H2 → (∀ H3, Same H2 H3 → R (g x) H3) → te (blkSt js σ (some x)) H2 R)
    (hz : xs.length ≤ 2000) (q : ∀ d H2, H1 d = none → Same H1 H2 → H2 d = some (.lst ((xs.filter p).map g)) → Q (.ref d) H2) : tComp js wi tc te σ H Q :=
  hw _ fun D hD => comp_pure xs p g hJ hc he hz q D hD
theorem it_row {K : PySem.W.Frag} {tp : Bool} {H1 : Hp} {a : Addr} {xs : List V} (h : RowAt tp H1 a xs) : ∀ i H2, Same H1 H2 →
    (i < xs.length → (ItB K tp a).go i H2) ∧ (∀ v H3, (ItB K tp a).yld i H2 v H3 → i < xs.length → H3 = H2 ∧ xs[i]? = some v) ∧ (xs.length ≤ i → (ItB K tp a).stop i H2) := fun i H2 S => by
  have h2 : RowAt tp H2 a xs := S _ _ h
  refine ⟨fun hi => ?_, fun v H3 y _ => itb_yld h2 y, fun hi => itb_stop h2 hi⟩
  exact itb_go h2 (x := xs[i]) (by simp [hi])
theorem comp_draw {js : List Nat} {te : TE} {σ : St} {H1 : Hp} {Q : VK} {lo : Int} {p : Addr} {m0 c : Nat} (n : Nat) (R : V → Prop) (B : Box H1 p m0) (hn : n ≤ 2000)
    (he : ∀ x H2 m (Z : VK), Box H2 p m → m ≤ m0 + c * n → (∀ v H3, R v → Box H3 p (m + c) → KB p H2 H3 → Z v H3) → te (blkSt js σ (some x)) H2 Z)
    (q : ∀ d H2 vs, H1 d = none → vs.length = n → (∀ v ∈ vs, R v) → Box H2 p (m0 + c * n) → KB p H1 H2 → H2 d = some (.lst vs) → Q (.ref d) H2) (D : Addr) (hD : H1 D = none) :
    ∃ W : Nat → Nat → Hp → Prop, (∃ m, W 0 m (upd H1 D (.lst []))) ∧ ∀ i m H2, W i m H2 →
      ((Itr lo n).stop i H2 ∧ Q (.ref D) H2) ∨ ((Itr lo n).go i H2 ∧ ∀ v H3, (Itr lo n).yld i H2 v H3 → (fun (_ : St) (H : Hp) (Z : Bool → Hp → Prop) => Z true H) (blkSt js σ (some v)) H3 fun b H4 =>
        if b = true then te (blkSt js σ (some v)) H4 fun y H5 => ∃ ys, H5 D = some (.lst ys) ∧ ys.length < sizeLine ∧ ∃ m', m' < m ∧ W (i + 1) m' (upd H5 D (.lst (ys ++ [y])))
        else ∃ m', m' < m ∧ W (i + 1) m' H4) := by
  have nD : D ≠ p := B.ne (H1 := H1) hD
  refine ⟨fun i m H2 => i + m = n ∧ KB p H1 H2 ∧ Box H2 p (m0 + c * i) ∧ ∃ vs, H2 D = some (.lst vs) ∧ vs.length = i ∧ ∀ v ∈ vs, R v, ⟨n, by omega, (Same.upd hD).kb, B.upd hD, [], upd_same, rfl, fun v h => absurd h (by simp)⟩, ?_⟩
  rintro i m H2 ⟨hm, k2, B2, vs, e2, l2, r2⟩
  by_cases hi : i < n
  · refine .inr ⟨hi, ?_⟩
    rintro v H3 ⟨rfl, rfl⟩
    have cm : c * i ≤ c * n := Nat.mul_le_mul_left _ (by omega)
    refine iteT (he _ _ _ _ B2 (by omega) fun y H5 hy B5 k5 => ⟨vs, k5 _ _ e2 nD, by have := big1000; omega, m - 1, by omega, by omega, fun b o z nb => ?_, ?_, vs ++ [y], upd_same, by simp [l2], fun u hu => ?_⟩)
    · rw [upd_ne (ne_of_none z hD)]
      exact k5 _ _ (k2 _ _ z nb) nb
    · have : Box H5 p (m0 + c * (i + 1)) := by
        have e : m0 + c * i + c = m0 + c * (i + 1) := by rw [Nat.mul_add, Nat.mul_one]; omega
        rw [← e]
        exact B5
      obtain ⟨a, b, c', h1, r⟩ := this
      exact ⟨a, b, c', by rw [upd_ne (Ne.symm nD)]; exact h1, r⟩
    · rcases List.mem_append.mp hu with hu | hu
      · exact r2 u hu
      · rw [List.mem_singleton.mp hu]; exact hy
  · have ei : i = n := by omega
    subst ei
    exact .inl ⟨Nat.le_refl _, q D H2 vs hD l2 r2 B2 k2 e2⟩
theorem comp_d {js : List Nat} {wi : TI} {te : TE} {σ : St} {H H1 : Hp} {Q : VK} {lo : Int} {p : Addr} {m0 c : Nat} (n : Nat) (R : V → Prop) (hw : ∀ R : It → Hp → Prop, R (Itr lo n) H1 → wi σ H R) (B : Box H1 p m0) (hn : n ≤ 2000)
    (he : ∀ x H2 m (Z : VK), Box H2 p m → m ≤ m0 + c * n → (∀ v H3, R v → Box H3 p (m + c) → KB p H2 H3 → Z v H3) → te (blkSt js σ (some x)) H2 Z)
    (q : ∀ d H2 vs, H1 d = none → vs.length = n → (∀ v ∈ vs, R v) → Box H2 p (m0 + c * n) → KB p H1 H2 → H2 d = some (.lst vs) → Q (.ref d) H2) : tComp js wi (fun _ H Q => Q true H) te σ H Q :=
  hw _ fun D hD => comp_draw n R B hn he q D hD
theorem wi_row {K : PySem.W.Frag} {tp : Bool} {i : Nat} {σ : St} {H : Hp} {a : Addr} {xs : List V} (e : σ[i]? = some (some (.ref a))) (h : RowAt tp H a xs) (R : It → Hp → Prop) (r : R (ItB K tp a) H) : iSeq K tp (tVar i) σ H R := ⟨_, e, a, rfl, ⟨xs, h.sq⟩, r⟩
theorem filt_all {xs : List V} : xs.filter (fun _ => true) = xs := List.filter_eq_self.mpr fun _ _ => rfl
theorem all_D {N : Addr → Prop} {H : Hp} {xs : List V} {ds : List PyData} {f : V → Bool} {g : PyData → Bool} (rx : DVs N H xs ds) (h : ∀ {v : V} {d : PyData}, DV N H v d → f v = g d) : (xs.map f).all id = true ↔ ∀ y ∈ ds, g y = true := by
  rw [List.all_eq_true]
  constructor
  · intro q y hy
    obtain ⟨j, hj, ej⟩ := List.getElem_of_mem hy
    rcases DVs.at_ j rx with ⟨_, b⟩ | ⟨y', e', b1, b2, b3⟩
    · simp at b; omega
    · have : e' = y := by simp [hj] at b2; rw [← b2, ej]
      subst this
      rw [← h b3]
      exact q _ (List.mem_map.mpr ⟨y', List.mem_of_getElem? b1, rfl⟩)
  · intro q b hb
    obtain ⟨y, hy, rfl⟩ := List.mem_map.mp hb
    obtain ⟨e', he', r⟩ := DVs.mem rx y hy
    show f y = true
    rw [h r]
    exact q _ he'
section
variable {P : Program} {w : World} {K : PySem.W.Frag} {mg : Str → Option Value} {base : Heap}
abbrev s_are_goods : Stmt := top 24
theorem sc_are_goods : FnScope ["thing", "many"] ["thing", "many"] (defScope s_are_goods) := ⟨rfl, rfl, rfl, by decide +kernel, rfl, by decide +kernel, by decide +kernel⟩
def spAG (p : PyData → Int → Prop) : Sp := fun vs H Q _ => ∃ (N : Addr → Prop) (v : V) (d : PyData) (n : Int), vs = [v, .int n] ∧ DV N H v d ∧ Short d ∧ ∀ H', Same H H' → Q (.bl (yes (p d n))) H'
theorem ok_AG (hd : ∃ f fd, Dn K mg "are_goods" "are_goods" s_are_goods ["thing", "many"] f fd) (T : Txt K mg) (h1 : OkD P w K mg base "is_row" s_is_row ["thing"] 1 (spIsR K)) (h2 : OkD P w K mg base "is_good" s_is_good ["thing"] 3 (spIsK K)) :
    OkD P w K mg base "are_goods" s_are_goods ["thing", "many"] 6 (spAG PageGoods) := by
  obtain ⟨f, fd, D⟩ := hd
  obtain ⟨f1, fd1, Dis_row, Gis_row⟩ := h1
  obtain ⟨f2, fd2, Dis_good, Gis_good⟩ := h2
  refine ⟨f, fd, D, D.fn.ok sc_are_goods (fun vs H Q E h => ?_) (fun cdv A outer s H vs Q E hr h => ?_)⟩
  · obtain ⟨_, _, _, _, rfl, _⟩ := h
    rfl
  · obtain ⟨N, v, d, n, rfl, x, hz, k⟩ := h
    have cut : ∃ tp : Bool, (∃ (a : Addr) (xs : List V) (ds : List PyData), v = .ref a ∧ RowAt tp H a xs ∧ DVs N H xs ds ∧ rowD d = some ds ∧ isSq (tyD d) = true ∧ ¬ N a) ∨ (isSq (tyD d) = false ∧ rowD d = none) := by
      rcases dv_row x with ⟨tp, r⟩ | r
      · exact ⟨tp, .inl r⟩
      · exact ⟨true, .inr r⟩
    obtain ⟨tp, cut⟩ := cut
    refine ⟨_, (pss_one (ps_ret (pe_and (pe_call Gis_row (hr.mono (by decide)) rfl Dis_row.m Dis_row.fn.kp Dis_row.b .nil pass0 (pa_c (pv 0) pa_nil)) (pe_and (pe_cmpR op_eq (pe_callB call_len_seq rfl T.n_len bt_len (pa_c (pv 0) pa_nil)) (pv 1) (nomark _)) (pe_one (pe_callB (call_allB hr.hd) rfl T.n_all bt_all (pa_c (pe_comp (blk_mk [] []) rfl (pi_seq tp (pv 0)) (fun _ _ _ _ _ => PTs.nil) (fun _ _ _ _ _ => (pe_call Gis_good (hr.mono (by decide)) rfl Dis_good.m Dis_good.fn.kp Dis_good.b .nil pass0 (pa_c (pv 0) pa_nil)))) pa_nil))))))), ?_⟩
    refine ⟨_, rfl, v, _, rfl, x.thg, fun H1 S1 => ⟨_, rfl, ?_⟩⟩
    rcases cut with ⟨a, xs, ds, rfl, ra, rx, rd, sq, na⟩ | ⟨sq, rd⟩
    · have l := rx.length
      have hz' := hz ds rd
      have ra1 : RowAt tp H1 a xs := S1 _ _ ra
      rw [sq]
      refine iteT ⟨_, rfl, a, xs, rfl, row_len ra1, _, rfl, rfl, _, rfl, ite2 (fun hn => ?_) (fun hn => ?_)⟩
      · have hn' : (V.int (xs.length : Int)) = .int n := of_decide_eq_true hn
        have en : (xs.length : Int) = n := by cases hn'; rfl
        refine tcb1 (comp_f xs (fun _ => true) (fun y => .bl (keyV y)) (wi_row rfl ra1) (it_row ra1) ?_ ?_ (by omega) ?_)
        · exact fun _ _ H2 R _ r => r H2 (Same.refl _)
        · intro y hy _ H2 R S2 r
          obtain ⟨t, ht⟩ := rx.things (K := K) y hy
          exact ⟨_, rfl, y, t, rfl, ht.keep (S1.trans S2), r H2 (Same.refl _)⟩
        · intro dd H2 f2 S2 e2
          refine ⟨dd, xs.map keyV, rfl, by rw [e2, filt_all, List.map_map]; rfl, ?_⟩
          have e : (xs.map keyV).all id = yes (PageGoods d n) := by
            have al : (xs.map keyV).all id = true ↔ ∀ y ∈ ds, keyD y = true := all_D rx fun r => keyV_D r
            by_cases c : ∀ y ∈ ds, keyD y = true
            · rw [al.mpr c, yes_t ⟨ds, rd, by omega, c⟩]
            · rw [Bool.eq_false_iff.mpr fun z => c (al.mp z), yes_f]
              rintro ⟨ds', a', _, c'⟩
              rw [rd] at a'
              cases a'
              exact c c'
          rw [e]
          exact k H2 (S1.trans S2)
      · have := k H1 S1
        rw [yes_f (by
          rintro ⟨ds', a', b', _⟩
          rw [rd] at a'
          cases a'
          apply hn
          rw [← b', ← l]
          exact decide_eq_true rfl)] at this
        exact this
    · rw [sq]
      refine iteF ?_
      have := k H1 S1
      rw [yes_f (by rintro ⟨ds', a', _⟩; rw [rd] at a'; cases a')] at this
      exact this
end
end K12

set_option Elab.async false
set_option linter.all false
set_option maxRecDepth 100000
set_option maxHeartbeats 2000000
namespace K12
open PySem L2
theorem Fun_okX {P : Program} {w : World} {K : PySem.W.Frag} {mg : Str → Option Value} {base : Heap} {x qual : Str} {st : Stmt} {f : Addr} {fd : FuncData} {N ps : List Str} {k : Nat} {sp : Sp} (F : Fun K x qual st f fd) (S : FnScope N ps (defScope st)) (len : ∀ vs H Q E, sp vs H Q E → vs.length = ps.length)
    (hbody : ∀ (cdv : Value) (A : Around) (outer : List Env) (s : Shared) (H : Hp) (vs : List V) (Q : VK) (E : XK), Room k (A.deeper (PyProof.Rows.envOfC qual (defScope st) s.heap.objs.size f cdv)) → sp vs H Q E →
      ∃ t, PSs (cxOf (CXo P w) P w K mg base N qual (defScope st) f cdv A outer s H E) (defBody st) t ∧ t { nx := fun _ H' => Q .non H', rt := Q } (start N vs) H) : FnOk P w K mg base (CXo P w) (k + 1) f fd ps sp := by
  obtain ⟨oc, od, kV, doc, pm, an, cdv, ct, osl, rfl, lk, hcd⟩ := F.ex
  exact fn_of lk hcd S len fun A outer s H vs Q E hr hsp => hbody cdv A outer s H vs Q E hr hsp
structure ErN (K : PySem.W.Frag) (mg : Str → Option Value) (nm q : Str) (st : Stmt) (fld : Str) (C T fI : Addr) (fd : FuncData) : Prop where
  f : ExF K C T fI
  g : ExG K C
  b : BaseInit K T
  r : ExR K C
  fn : Fun K "__init__" q st fI fd
  bi : Binds K fd ["self", fld] []
  mC : mg nm = some (.ref C)
  mT : mg "TreeError" = some (.ref T)
  no : NoAttr K C fld
  xC : ExM K C
  self : PySem.W.mroIn K C (.ref C) = some true
def spErr (C : Addr) (fld : Str) : Sp := fun vs H Q _ => ∃ (e : Addr) (v : V), vs = [.ref e, v] ∧ H e = some (ExO C e none none none) ∧
  ∀ (dx t : Addr) (H' : Hp), H dx = none → H t = none → dx ≠ e → t ≠ e → dx ≠ t → H' e = some (ExO C e (some dx) (some t) none) → H' dx = some (XdO dx [(fld, v)]) → (∀ b, b ≠ e → b ≠ dx → b ≠ t → H' b = H b) → Q .non H'
section
variable {P : Program} {w : World} {K : PySem.W.Frag} {mg : Str → Option Value} {base : Heap}
theorem sc_NoKey : FnScope ["self", "found"] ["self", "found"] (defScope (inClass (top 3) 0)) := ⟨rfl, rfl, rfl, by decide +kernel, rfl, by decide +kernel, by decide +kernel⟩
theorem ok_NoKey {C TT fI : Addr} {fd : FuncData} (x : ErN K mg "NoKey" "NoKey.__init__" (inClass (top 3) 0) "found" C TT fI fd) : FnOk P w K mg base CX0 1 fI fd ["self", "found"] (spErr C "found") := by
  refine x.fn.ok sc_NoKey (fun vs H Q E h => ?_) (fun cdv A outer s H vs Q E hr h => ?_)
  · obtain ⟨_, _, rfl, _⟩ := h
    rfl
  · obtain ⟨e, v, rfl, he, k⟩ := h
    refine ⟨_, (pss_cons (ps_expr (pe_baseInit x.f x.b rfl x.mT (pa_cons (pv 0) (pa_cons pe_str pa_nil)))) (pss_one (ps_exf x.f (pv 0) (pv 1) rfl))), ?_⟩
    refine ⟨_, rfl, e, none, none, none, _, rfl, (by show 1 ≤ sizeLine; decide), he, fun t f1 f2 => ?_⟩
    refine ⟨_, rfl, _, rfl, e, _, none, rfl, upd_same, x.no, fun dx h1 h2 => ?_⟩
    rw [upd_ne h2] at h1
    have h3 : dx ≠ t := (ne_of_none upd_same h1).symm
    rw [upd_ne h3] at h1
    refine k dx t _ h1 f1 h2 f2 h3 upd_same (by rw [upd_ne h2, upd_same]) fun b hb1 hb2 hb3 => ?_
    rw [upd_ne hb1, upd_ne hb2, upd_ne hb1, upd_ne hb3]
theorem sc_NoGood : FnScope ["self", "found"] ["self", "found"] (defScope (inClass (top 4) 0)) := ⟨rfl, rfl, rfl, by decide +kernel, rfl, by decide +kernel, by decide +kernel⟩
theorem ok_NoGood {C TT fI : Addr} {fd : FuncData} (x : ErN K mg "NoGood" "NoGood.__init__" (inClass (top 4) 0) "found" C TT fI fd) : FnOk P w K mg base CX0 1 fI fd ["self", "found"] (spErr C "found") := by
  refine x.fn.ok sc_NoGood (fun vs H Q E h => ?_) (fun cdv A outer s H vs Q E hr h => ?_)
  · obtain ⟨_, _, rfl, _⟩ := h
    rfl
  · obtain ⟨e, v, rfl, he, k⟩ := h
    refine ⟨_, (pss_cons (ps_expr (pe_baseInit x.f x.b rfl x.mT (pa_cons (pv 0) (pa_cons pe_str pa_nil)))) (pss_one (ps_exf x.f (pv 0) (pv 1) rfl))), ?_⟩
    refine ⟨_, rfl, e, none, none, none, _, rfl, (by show 1 ≤ sizeLine; decide), he, fun t f1 f2 => ?_⟩
    refine ⟨_, rfl, _, rfl, e, _, none, rfl, upd_same, x.no, fun dx h1 h2 => ?_⟩
    rw [upd_ne h2] at h1
    have h3 : dx ≠ t := (ne_of_none upd_same h1).symm
    rw [upd_ne h3] at h1
    refine k dx t _ h1 f1 h2 f2 h3 upd_same (by rw [upd_ne h2, upd_same]) fun b hb1 hb2 hb3 => ?_
    rw [upd_ne hb1, upd_ne hb2, upd_ne hb1, upd_ne hb3]
theorem sc_NoPage : FnScope ["self", "found"] ["self", "found"] (defScope (inClass (top 5) 0)) := ⟨rfl, rfl, rfl, by decide +kernel, rfl, by decide +kernel, by decide +kernel⟩
theorem ok_NoPage {C TT fI : Addr} {fd : FuncData} (x : ErN K mg "NoPage" "NoPage.__init__" (inClass (top 5) 0) "found" C TT fI fd) : FnOk P w K mg base CX0 1 fI fd ["self", "found"] (spErr C "found") := by
  refine x.fn.ok sc_NoPage (fun vs H Q E h => ?_) (fun cdv A outer s H vs Q E hr h => ?_)
  · obtain ⟨_, _, rfl, _⟩ := h
    rfl
  · obtain ⟨e, v, rfl, he, k⟩ := h
    refine ⟨_, (pss_cons (ps_expr (pe_baseInit x.f x.b rfl x.mT (pa_cons (pv 0) (pa_cons pe_str pa_nil)))) (pss_one (ps_exf x.f (pv 0) (pv 1) rfl))), ?_⟩
    refine ⟨_, rfl, e, none, none, none, _, rfl, (by show 1 ≤ sizeLine; decide), he, fun t f1 f2 => ?_⟩
    refine ⟨_, rfl, _, rfl, e, _, none, rfl, upd_same, x.no, fun dx h1 h2 => ?_⟩
    rw [upd_ne h2] at h1
    have h3 : dx ≠ t := (ne_of_none upd_same h1).symm
    rw [upd_ne h3] at h1
    refine k dx t _ h1 f1 h2 f2 h3 upd_same (by rw [upd_ne h2, upd_same]) fun b hb1 hb2 hb3 => ?_
    rw [upd_ne hb1, upd_ne hb2, upd_ne hb1, upd_ne hb3]
theorem sc_Lacks : FnScope ["self", "key"] ["self", "key"] (defScope (inClass (top 6) 0)) := ⟨rfl, rfl, rfl, by decide +kernel, rfl, by decide +kernel, by decide +kernel⟩
theorem ok_Lacks {C TT fI : Addr} {fd : FuncData} (x : ErN K mg "Lacks" "Lacks.__init__" (inClass (top 6) 0) "key" C TT fI fd) : FnOk P w K mg base CX0 1 fI fd ["self", "key"] (spErr C "key") := by
  refine x.fn.ok sc_Lacks (fun vs H Q E h => ?_) (fun cdv A outer s H vs Q E hr h => ?_)
  · obtain ⟨_, _, rfl, _⟩ := h
    rfl
  · obtain ⟨e, v, rfl, he, k⟩ := h
    refine ⟨_, (pss_cons (ps_expr (pe_baseInit x.f x.b rfl x.mT (pa_cons (pv 0) (pa_cons pe_str pa_nil)))) (pss_one (ps_exf x.f (pv 0) (pv 1) rfl))), ?_⟩
    refine ⟨_, rfl, e, none, none, none, _, rfl, (by show 1 ≤ sizeLine; decide), he, fun t f1 f2 => ?_⟩
    refine ⟨_, rfl, _, rfl, e, _, none, rfl, upd_same, x.no, fun dx h1 h2 => ?_⟩
    rw [upd_ne h2] at h1
    have h3 : dx ≠ t := (ne_of_none upd_same h1).symm
    rw [upd_ne h3] at h1
    refine k dx t _ h1 f1 h2 f2 h3 upd_same (by rw [upd_ne h2, upd_same]) fun b hb1 hb2 hb3 => ?_
    rw [upd_ne hb1, upd_ne hb2, upd_ne hb1, upd_ne hb3]
theorem sc_TooMany : FnScope ["self", "count"] ["self", "count"] (defScope (inClass (top 7) 0)) := ⟨rfl, rfl, rfl, by decide +kernel, rfl, by decide +kernel, by decide +kernel⟩
theorem ok_TooMany {C TT fI : Addr} {fd : FuncData} (x : ErN K mg "TooMany" "TooMany.__init__" (inClass (top 7) 0) "count" C TT fI fd) : FnOk P w K mg base CX0 1 fI fd ["self", "count"] (spErr C "count") := by
  refine x.fn.ok sc_TooMany (fun vs H Q E h => ?_) (fun cdv A outer s H vs Q E hr h => ?_)
  · obtain ⟨_, _, rfl, _⟩ := h
    rfl
  · obtain ⟨e, v, rfl, he, k⟩ := h
    refine ⟨_, (pss_cons (ps_expr (pe_baseInit x.f x.b rfl x.mT (pa_cons (pv 0) (pa_cons pe_str pa_nil)))) (pss_one (ps_exf x.f (pv 0) (pv 1) rfl))), ?_⟩
    refine ⟨_, rfl, e, none, none, none, _, rfl, (by show 1 ≤ sizeLine; decide), he, fun t f1 f2 => ?_⟩
    refine ⟨_, rfl, _, rfl, e, _, none, rfl, upd_same, x.no, fun dx h1 h2 => ?_⟩
    rw [upd_ne h2] at h1
    have h3 : dx ≠ t := (ne_of_none upd_same h1).symm
    rw [upd_ne h3] at h1
    refine k dx t _ h1 f1 h2 f2 h3 upd_same (by rw [upd_ne h2, upd_same]) fun b hb1 hb2 hb3 => ?_
    rw [upd_ne hb1, upd_ne hb2, upd_ne hb1, upd_ne hb3]
def Err (C : Addr) (fld : Str) (v : V) (H : Hp) (e : Addr) : Prop := ∃ (dx : Addr) (ar : Option Addr) (b : Addr), Fly C e (some dx) ar (some b) H ∧ H dx = some (XdO dx [(fld, v)]) ∧ dx ≠ e ∧ dx ≠ b
theorem raise_err {nm q fld : Str} {st : Stmt} {C TT fI : Addr} {fd : FuncData} (x : ErN K mg nm q st fld C TT fI fd) {v : V} {H : Hp} {E : XK} {te : TE} {σ : St} {D : Ends} (hv : ∀ R : List V → Hp → Prop, R [v] H → tCons te tNil σ H R)
    (q : ∀ e H', H e = none → Same H H' → Err C fld v H' e → E (.ref e) none H') : tRaise K E (tEx C (spErr C fld) (tCons te tNil)) D σ H := by
  delta tRaise tEx
  dsimp only
  refine hv _ ?_
  refine ⟨(by show 1 ≤ sizeLine; decide), fun e he => ⟨e, v, rfl, upd_same, fun dx t H' h1 h2 h3 h4 h5 a1 a2 a3 => ⟨rfl, C, e, some dx, some t, rfl, x.r, ⟨a1, fun b z => nomatch z⟩, fun b fb nb => ?_⟩⟩⟩
  rw [upd_ne h3] at h1
  rw [upd_ne h4] at h2
  have hdb : dx ≠ b := ne_of_none a2 fb
  refine q e _ he (fun c o z => ?_) ⟨dx, some t, b, fly_past nb, ?_, h3, hdb⟩
  · have n1 : c ≠ e := ne_of_none z he
    have n2 : c ≠ dx := ne_of_none z h1
    have n3 : c ≠ t := ne_of_none z h2
    have hc : H' c = some o := by rw [a3 c n1 n2 n3, upd_ne n1]; exact z
    have n4 : c ≠ b := ne_of_none hc fb
    show upd (upd H' b _) e _ c = _
    rw [upd_ne n1, upd_ne n4]
    exact hc
  · show upd (upd H' b _) e _ dx = _
    rw [upd_ne h3, upd_ne hdb]
    exact a2
end
structure PgN (K : PySem.W.Frag) (mg : Str → Option Value) (cP fP : Addr) (fdP : FuncData) : Prop where
  fn : Fun K "__init__" "Page.__init__" (inClass (top 27) 0) fP fdP
  bi : Binds K fdP ["self", "keys", "goods"] []
  b : BaseFn K cP "__init__" fP
  m : mg "Page" = some (.ref cP)
structure KdN (K : PySem.W.Frag) (mg : Str → Option Value) (nm q : Str) (st : Stmt) (C f : Addr) (fd : FuncData) (fK fG : Addr) : Prop where
  mak : Mk K C f
  fn : Fun K "__init__" q st f fd
  bi : Binds K fd ["self", "keys", "goods"] []
  m : mg nm = some (.ref C)
  ins : InsC K C
  n1 : NoAttr K C "key_row"
  n2 : NoAttr K C "good_row"
  k : Meth K C "all_keys" fK
  g : Meth K C "goods" fG
def Pg (C dx : Addr) (H : Hp) (x : Addr) (xs ys : List V) : Prop := ∃ tk tg, H x = some (.ins C dx [("key_row", .ref tk), ("good_row", .ref tg)]) ∧ H tk = some (.tup xs) ∧ H tg = some (.tup ys)
def But (x : Addr) (H H' : Hp) : Prop := ∀ b o, H b = some o → b ≠ x → H' b = some o
section
variable {P : Program} {w : World} {K : PySem.W.Frag} {mg : Str → Option Value} {base : Heap}
theorem sc_page : FnScope ["self", "keys", "goods"] ["self", "keys", "goods"] (defScope (inClass (top 27) 0)) := ⟨rfl, rfl, rfl, by decide +kernel, rfl, by decide +kernel, by decide +kernel⟩
def spPage (K : PySem.W.Frag) (C : Addr) : Sp := fun vs H Q _ => ∃ (x dx a b : Addr) (tp tp' : Bool) (xs ys : List V), vs = [.ref x, .ref a, .ref b] ∧ H x = some (.ins C dx []) ∧ RowAt tp H a xs ∧ RowAt tp' H b ys ∧
  ∀ H', But x H H' → Pg C dx H' x xs ys → Q .non H'
theorem CallR_imp {X : Cx} {f : Value} {r r' : List V → Hp → VK → Prop} (h : CallR X f r) (i : ∀ xs H Q, r' xs H Q → r xs H Q) : CallR X f r' := fun pins s σ H xs us Q I rs q => h pins s σ H xs us Q I rs (i xs H Q q)
theorem call_tupR {X : Cx} : CallR X (.type "tuple") (fun xs H Q => ∃ (tp : Bool) (a : Addr) (ys : List V), xs = [.ref a] ∧ RowAt tp H a ys ∧ ∀ t H', Same H H' → H' t = some (.tup ys) → Q (.ref t) H') := CallR_imp call_tuple_of fun xs H Q h => by
  obtain ⟨tp, a, ys, rfl, r, q⟩ := h
  cases tp with
  | true => exact ⟨a, ys, rfl, .inr ⟨SqT.of r, q a H (Same.refl _) r⟩⟩
  | false => exact ⟨a, ys, rfl, .inl ⟨SqL.of r, fun l hl => q l _ (Same.upd hl) upd_same⟩⟩
theorem ok_page {fP C : Addr} {fd : FuncData} (hf : Fun K "__init__" "Page.__init__" (inClass (top 27) 0) fP fd) (T : Txt K mg) (c : Cls K C) (n1 : NoAttr K C "key_row") (n2 : NoAttr K C "good_row") : FnOk P w K mg base CX0 1 fP fd ["self", "keys", "goods"] (spPage K C) := by
  refine hf.ok sc_page (fun vs H Q E h => ?_) (fun cdv A outer s H vs Q E hr h => ?_)
  · obtain ⟨_, _, _, _, _, _, _, _, rfl, _⟩ := h
    rfl
  · obtain ⟨x, dx, a, b, tp, tp', xs, ys, rfl, hx, ra, rb, k⟩ := h
    refine ⟨_, (pss_cons (ps_fld (pv 0) (pe_callTy call_tupR rfl T.n_tuple bt_tuple (pa_c (pv 1) pa_nil)) rfl) (pss_one (ps_fld (pv 0) (pe_callTy call_tupR rfl T.n_tuple bt_tuple (pa_c (pv 2) pa_nil)) rfl))), ?_⟩
    refine ⟨_, rfl, tp, a, xs, rfl, ra, fun tk H1 S1 e1 => ⟨_, rfl, x, C, dx, _, rfl, S1 _ _ hx, c, n1, by decide, ?_⟩⟩
    have nb : b ≠ x := ne_of rb hx (by cases tp' <;> (intro z; cases z))
    have nk : tk ≠ x := ne_of e1 (S1 _ _ hx) (by intro z; cases z)
    have rb1 : RowAt tp' (upd H1 x (.ins C dx (putF "key_row" (.ref tk) []))) b ys := by
      show upd _ _ _ _ = _
      rw [upd_ne nb]
      exact S1 _ _ rb
    refine ⟨_, rfl, tp', b, ys, rfl, rb1, fun tg H2 S2 e2 => ⟨_, rfl, x, C, dx, _, rfl, S2 _ _ upd_same, c, n2, (by show 1 < 1000; decide), ?_⟩⟩
    have ng : tg ≠ x := ne_of e2 (S2 _ _ upd_same) (by intro z; cases z)
    have ek : H2 tk = some (.tup xs) := S2 _ _ (by rw [upd_ne nk]; exact e1)
    refine k _ (fun c' o z n => ?_) ⟨tk, tg, upd_same, by rw [upd_ne nk]; exact ek, by rw [upd_ne ng]; exact e2⟩
    rw [upd_ne n]
    refine S2 _ _ ?_
    rw [upd_ne n]
    exact S1 _ _ z
def spMake (C cE : Addr) (p : PyData → PyData → Prop) : Sp := fun vs H Q E => ∃ (N : Addr → Prop) (x dx : Addr) (vk vg : V) (dk dg : PyData), vs = [.ref x, vk, vg] ∧ H x = some (.ins C dx []) ∧ DV N H vk dk ∧ DV N H vg dg ∧ Short dk ∧ Short dg ∧
  (¬ PageKeys dk → ∀ e H', H e = none → But x H H' → Err cE "found" vk H' e → E (.ref e) none H') ∧
  (PageKeys dk → ¬ p dk dg → ∀ e H', H e = none → But x H H' → Err cE "found" vg H' e → E (.ref e) none H') ∧
  (PageKeys dk → p dk dg → ∀ H' a b tp tp' xs ys, But x H H' → vk = .ref a → vg = .ref b → RowAt tp H a xs → RowAt tp' H b ys → Pg C dx H' x xs ys → Q .non H')
def lenD (d : PyData) : Int := match rowD d with | some ds => ds.length | none => 0
theorem sc_leaf : FnScope ["self", "keys", "goods"] ["self", "keys", "goods"] (defScope (inClass (top 28) 0)) := ⟨rfl, rfl, rfl, by decide +kernel, rfl, by decide +kernel, by decide +kernel⟩
theorem same_but {x : Addr} {H H' : Hp} (s : Same H H') : But x H H' := fun b o z _ => s b o z
theorem dv_of_yes {N : Addr → Prop} {H : Hp} {v : V} {d : PyData} (x : DV N H v d) (h : rowD d ≠ none) : ∃ tp a xs, v = .ref a ∧ RowAt tp H a xs ∧ (xs.length : Int) = lenD d := by
  rcases dv_row x with ⟨tp, a, xs, ds, e, ra, rx, rd, _⟩ | ⟨_, rd⟩
  · exact ⟨tp, a, xs, e, ra, by unfold lenD; rw [rd]; show (xs.length : Int) = ds.length; rw [rx.length]⟩
  · exact absurd rd h
theorem ok_leaf {C f fK fG cE TT fI cP fP : Addr} {fd fdI fdP : FuncData} (X : KdN K mg "Leaf" "Leaf.__init__" (inClass (top 28) 0) C f fd fK fG) (x : ErN K mg "NoPage" "NoPage.__init__" (inClass (top 5) 0) "found" cE TT fI fdI) (y : PgN K mg cP fP fdP) (T : Txt K mg)
    (h1 : OkD P w K mg base "are_page_keys" s_are_page_keys ["thing"] 5 spAPK) (h2 : OkD P w K mg base "are_goods" s_are_goods ["thing", "many"] 6 (spAG PageGoods)) :
    FnOk P w K mg base (CXo P w) 8 f fd ["self", "keys", "goods"] (spMake C cE fun dk dg => PageGoods dg (lenD dk)) := by
  obtain ⟨f1, fd1, D1, G1⟩ := h1
  obtain ⟨f2, fd2, D2, G2⟩ := h2
  have GE : FnOk P w K mg base CX0 1 fI fdI ["self", "found"] (spErr cE "found") := ok_NoPage x
  have GP : FnOk P w K mg base CX0 1 fP fdP ["self", "keys", "goods"] (spPage K C) := ok_page y.fn T X.ins.cl X.n1 X.n2
  refine Fun_okX X.fn sc_leaf (fun vs H Q E h => ?_) (fun cdv A outer s H vs Q E hr h => ?_)
  · obtain ⟨_, _, _, _, _, _, _, rfl, _⟩ := h
    rfl
  · obtain ⟨N, x', dx, vk, vg, dk, dg, rfl, hx, Dk, Dg, sk, sg, b1, b2, b3⟩ := h
    refine ⟨_, (pss_cons (ps_if (pt_not (pt_val (pe_call G1 (hr.mono (by decide)) rfl D1.m D1.fn.kp D1.b .nil pass0 (pa_c (pv 1) pa_nil)))) (pss_one (ps_raise outs_def rfl (pe_exc x.f GE (hr.mono (by decide)) rfl x.mC x.bi (pa_c (pv 1) pa_nil)))) pss_nil)
      (pss_cons (ps_if (pt_not (pt_val (pe_call G2 (hr.mono (by decide)) rfl D2.m D2.fn.kp D2.b .nil pass0 (pa_c (pv 2) (pa_c (pe_callB call_len_seq rfl T.n_len bt_len (pa_c (pv 1) pa_nil)) pa_nil))))) (pss_one (ps_raise outs_def rfl (pe_exc x.f GE (hr.mono (by decide)) rfl x.mC x.bi (pa_c (pv 2) pa_nil)))) pss_nil)
      (pss_one (ps_expr (pe_base y.b GP (hr.mono (by decide)) rfl y.m y.bi pass0 (pa_c (pv 0) (pa_c (pv 1) (pa_c (pv 2) pa_nil)))))))), ?_⟩
    refine ⟨_, rfl, N, vk, dk, rfl, Dk, sk, fun H1 S1 => ⟨_, rfl, ?_⟩⟩
    by_cases ck : PageKeys dk
    · rw [yes_t ck]
      refine iteF ?_
      obtain ⟨tp, a, xs, rfl, ra, la⟩ := dv_of_yes Dk (by obtain ⟨ds, e, _⟩ := ck; rw [e]; exact fun z => nomatch z)
      refine ⟨_, rfl, _, rfl, a, xs, rfl, row_len (S1 _ _ ra), N, vg, dg, _, rfl, Dg.keep (fun a o _ z => S1 a o z) (fun _ z => z), sg, fun H2 S2 => ⟨_, rfl, ?_⟩⟩
      rw [la]
      by_cases cg : PageGoods dg (lenD dk)
      · rw [yes_t cg]
        refine iteF ?_
        obtain ⟨tp', b, ys, rfl, rb, _⟩ := dv_of_yes Dg (by obtain ⟨ds, e, _⟩ := cg; rw [e]; exact fun z => nomatch z)
        refine ⟨_, rfl, _, rfl, _, rfl, x', dx, a, b, tp, tp', xs, ys, rfl, S2 _ _ (S1 _ _ hx), S2 _ _ (S1 _ _ ra), S2 _ _ (S1 _ _ rb), fun H3 B3 p3 => ?_⟩
        exact b3 ck cg H3 a b tp tp' xs ys (fun c o z n => B3 c o (S2 _ _ (S1 _ _ z)) n) rfl rfl ra rb p3
      · rw [yes_f cg]
        refine iteT (raise_err x (v := vg) (fun R r => ⟨_, rfl, r⟩) fun e H3 he S3 r => b2 ck cg e H3 ((S1.trans S2).free he) (same_but ((S1.trans S2).trans S3)) r)
    · rw [yes_f ck]
      refine iteT (raise_err x (v := vk) (fun R r => ⟨_, rfl, r⟩) fun e H3 he S3 r => b1 ck e H3 (S1.free he) (same_but (S1.trans S3)) r)
theorem sc_ak : FnScope ["self"] ["self"] (defScope (inClass (top 27) 1)) := ⟨rfl, rfl, rfl, by decide +kernel, rfl, by decide +kernel, by decide +kernel⟩
theorem sc_gs : FnScope ["self"] ["self"] (defScope (inClass (top 27) 2)) := ⟨rfl, rfl, rfl, by decide +kernel, rfl, by decide +kernel, by decide +kernel⟩
def spRow (C : Addr) (fst : Bool) : Sp := fun vs H Q _ => ∃ (x dx : Addr) (xs ys : List V), vs = [.ref x] ∧ Pg C dx H x xs ys ∧ ∀ l, H l = none → Q (.ref l) (upd H l (.lst (if fst then xs else ys)))
theorem ok_ak {C fK : Addr} {fd : FuncData} (hf : Fun K "all_keys" "Page.all_keys" (inClass (top 27) 1) fK fd) (T : Txt K mg) (c : Cls K C) (n : NoAttr K C "key_row") : FnOk P w K mg base CX0 1 fK fd ["self"] (spRow C true) := by
  refine hf.ok sc_ak (fun vs H Q E h => ?_) (fun cdv A outer s H vs Q E hr h => ?_)
  · obtain ⟨_, _, _, _, rfl, _⟩ := h
    rfl
  · obtain ⟨x, dx, xs, ys, rfl, ⟨tk, tg, h1, h2, h3⟩, k⟩ := h
    exact ⟨_, (pss_one (ps_ret (pe_callTy call_list_of rfl T.n_list bt_list (pa_c (pe_fld (pv 0) rfl) pa_nil)))), _, rfl, x, C, dx, _, _, rfl, h1, c, n, rfl, tk, xs, rfl, .inr (SqT.of h2), k⟩
theorem ok_gs {C fG : Addr} {fd : FuncData} (hf : Fun K "goods" "Page.goods" (inClass (top 27) 2) fG fd) (T : Txt K mg) (c : Cls K C) (n : NoAttr K C "good_row") : FnOk P w K mg base CX0 1 fG fd ["self"] (spRow C false) := by
  refine hf.ok sc_gs (fun vs H Q E h => ?_) (fun cdv A outer s H vs Q E hr h => ?_)
  · obtain ⟨_, _, _, _, rfl, _⟩ := h
    rfl
  · obtain ⟨x, dx, xs, ys, rfl, ⟨tk, tg, h1, h2, h3⟩, k⟩ := h
    exact ⟨_, (pss_one (ps_ret (pe_callTy call_list_of rfl T.n_list bt_list (pa_c (pe_fld (pv 0) rfl) pa_nil)))), _, rfl, x, C, dx, _, _, rfl, h1, c, n, rfl, tg, ys, rfl, .inr (SqT.of h3), k⟩
end
end K12

set_option Elab.async false
set_option linter.all false
set_option maxRecDepth 100000
set_option maxHeartbeats 2000000
namespace K12
open PySem L2
structure Small (d : PyData) : Prop where
  ok : Okd 150 d
  lo : ∀ i : Int, d = .int i → i.natAbs ≤ 10 ^ 30
  dp : d.depth ≤ 2
theorem log_le {z : Int} {k : Nat} (h : z.natAbs < 2 ^ k) (hk : 0 < k) : z.natAbs.log2 < k := by
  by_cases e : z.natAbs = 0
  · rw [e]; simpa using hk
  · exact (Nat.log2_lt e).mpr h
theorem small_int {i : Int} (h : i.natAbs ≤ 10 ^ 30) : Small (.int i) := by
  have b : i.natAbs < 2 ^ 101 := by omega
  have l := log_le b (by decide)
  refine ⟨⟨?_, ?_, by simp [PyData.depth], ?_⟩, fun j z => by cases z; exact h, by simp [PyData.depth]⟩
  · simp only [PyData.showable, decide_eq_true_eq]; omega
  · simp only [PyData.leavesShort, decide_eq_true_eq]
    have e := int_text_length_le10 (k := 31) (by decide) (a := i) (by omega)
    show (Str.ofString (toString i)).length ≤ 40
    rw [ofString_length]
    omega
  · simp only [PyData.weight]
    split <;> omega
theorem small_bool {b : Bool} : Small (.bool b) := ⟨⟨rfl, rfl, by simp [PyData.depth], by simp [PyData.weight]⟩, (fun _ z => nomatch z), by simp [PyData.depth]⟩
theorem small_none : Small .none := ⟨⟨rfl, rfl, by simp [PyData.depth], by simp [PyData.weight]⟩, (fun _ z => nomatch z), by simp [PyData.depth]⟩
theorem small_e : Small (.str "") := ⟨⟨rfl, by decide +kernel, by simp [PyData.depth], by decide +kernel⟩, (fun _ z => nomatch z), by simp [PyData.depth]⟩
theorem small_0 : Small (.str "0") := ⟨⟨rfl, by decide +kernel, by simp [PyData.depth], by decide +kernel⟩, (fun _ z => nomatch z), by simp [PyData.depth]⟩
theorem small_l : Small (.list [.int 0]) := ⟨⟨by decide +kernel, by decide +kernel, by decide +kernel, by decide +kernel⟩, (fun _ z => nomatch z), by decide +kernel⟩
theorem small_t : Small (.tuple [.int 0]) := ⟨⟨by decide +kernel, by decide +kernel, by decide +kernel, by decide +kernel⟩, (fun _ z => nomatch z), by decide +kernel⟩
theorem small_d : Small (.dict []) := ⟨⟨by decide +kernel, by decide +kernel, by decide +kernel, by decide +kernel⟩, (fun _ z => nomatch z), by decide +kernel⟩
theorem kb_free {H H1 : Hp} {p l : Addr} {m : Nat} (k : KB p H H1) (b : Box H1 p m) (h : H1 l = none) : H l = none ∧ l ≠ p := by
  obtain ⟨xs, e⟩ := b.lst
  have nl : l ≠ p := (ne_of_none e h).symm
  refine ⟨?_, nl⟩
  cases c : H l with
  | none => rfl
  | some o => rw [k l o c nl] at h; cases h
theorem box_updQ {H : Hp} {p q : Addr} {n : Nat} {o : HO} (x : Box H p n) (h : q ≠ p) : Box (upd H q o) p n := by
  obtain ⟨a, b, c, h1, r⟩ := x
  exact ⟨a, b, c, by rw [upd_ne (Ne.symm h)]; exact h1, r⟩
section
variable {P : Program} {w : World} {K : PySem.W.Frag} {mg : Str → Option Value} {base : Heap}
abbrev s__law_keys : Stmt := top 33
theorem sc__law_keys : FnScope ["_law_box_here", "_law_many", "_law_way", "_law_step_here", "_law_number", "_law_found", "_law_k"] ["_law_box_here", "_law_many"] (defScope s__law_keys) := ⟨rfl, rfl, rfl, by decide +kernel, rfl, by decide +kernel, by decide +kernel⟩
theorem mul7 {m st : Int} (h0 : 0 ≤ m) (h1 : m ≤ 7) (h2 : 0 ≤ st) (h3 : st ≤ 50000000) : 0 ≤ m * st ∧ m * st ≤ 350000000 := by
  refine ⟨Int.mul_nonneg h0 h2, ?_⟩
  have := Int.mul_le_mul h1 h3 h2 (by decide)
  omega
end
end K12

set_option Elab.async false
set_option linter.all false
set_option maxRecDepth 100000
set_option maxHeartbeats 2000000
namespace K12
open PySem L2
theorem Box.same {H H' : Hp} {p : Addr} {n : Nat} (x : Box H p n) (s : Same H H') : Box H' p n := let ⟨a, b, c, h1, r⟩ := x; ⟨a, b, c, s _ _ h1, r⟩
theorem swaps_list {es : List Expr} {p : Pos} {t : Option Expr} {l : Nat} {env : Env} : swapsWith (.List es p) t l env = pure false := by rfl
section
variable {P : Program} {w : World} {K : PySem.W.Frag} {mg : Str → Option Value} {base : Heap}
abbrev s__law_good : Stmt := top 34
theorem sc__law_good : FnScope ["_law_box_here", "_law_way"] ["_law_box_here"] (defScope s__law_good) := ⟨rfl, rfl, rfl, by decide +kernel, rfl, by decide +kernel, by decide +kernel⟩
theorem small_ll : Small (.list [.list [.int 1]]) := ⟨⟨by decide +kernel, by decide +kernel, by decide +kernel, by decide +kernel⟩, (fun _ z => nomatch z), by decide +kernel⟩
def Told (p : Addr) (H : Hp) (v : V) (d : PyData) : Prop := DV (· = p) H v d ∧ Small d
theorem Told.keep {p : Addr} {H H' : Hp} {v : V} {d : PyData} (x : Told p H v d) (k : KB p H H') : Told p H' v d := ⟨x.1.keep (fun a o n z => k a o z n) fun _ z => z, x.2⟩
abbrev s__law_odd : Stmt := top 37
theorem sc__law_odd : FnScope ["_law_box_here", "_law_some"] ["_law_box_here"] (defScope s__law_odd) := ⟨rfl, rfl, rfl, by decide +kernel, rfl, by decide +kernel, by decide +kernel⟩
def spOdd : Sp := fun vs H Q _ => ∃ (p : Addr) (n : Nat), vs = [.ref p] ∧ Box H p n ∧ n ≤ 950000 ∧ ∀ (v : V) (d : PyData) (H' : Hp), Told p H' v d → (∀ a, v = .ref a → H a = none) → Box H' p (n + 1) → KB p H H' → Q v H'
theorem ok_odd (hd : ∃ f fd, Dn K mg "_law_odd" "_law_odd" s__law_odd ["_law_box_here"] f fd) (T : Txt K mg) (h1 : OkD P w K mg base "_law_take" s__law_take ["_law_box_here", "_law_many"] 1 spTake) :
    OkD P w K mg base "_law_odd" s__law_odd ["_law_box_here"] 2 spOdd := by
  obtain ⟨f, fd, D⟩ := hd
  obtain ⟨f1, fd1, D_law_take, G_law_take⟩ := h1
  refine ⟨f, fd, D, D.fn.ok sc__law_odd (fun vs H Q E h => ?_) (fun cdv A outer s H vs Q E hr h => ?_)⟩
  · obtain ⟨_, _, rfl, _⟩ := h
    rfl
  · obtain ⟨p, n, rfl, B, hn, k⟩ := h
    have sc := sc__law_odd
    have hP : ∀ (i j : Int) (a b : Nat) (q1 q2 q3 : Pos), PE (cxOf CX0 P w K mg base ["_law_box_here", "_law_some"] "_law_odd" (defScope s__law_odd) f cdv A outer s H E).nox (.BinOp (.Constant (.int i) a q1) .Pow (.Constant (.int j) b q2) q3) _ := fun i j a b q1 q2 q3 => pe_op op_pow pe_int pe_int
    have hN : ∀ (i j : Int) (a b : Nat) (q1 q2 q3 q4 : Pos), PE (cxOf CX0 P w K mg base ["_law_box_here", "_law_some"] "_law_odd" (defScope s__law_odd) f cdv A outer s H E).nox (.UnaryOp .USub (.BinOp (.Constant (.int i) a q1) .Pow (.Constant (.int j) b q2) q3) q4) _ := fun i j a b q1 q2 q3 q4 => pe_un un_neg (pe_op op_pow pe_int pe_int)
    have hS : ∀ (i j l : Int) (a b c : Nat) (q1 q2 q3 q4 q5 : Pos), PE (cxOf CX0 P w K mg base ["_law_box_here", "_law_some"] "_law_odd" (defScope s__law_odd) f cdv A outer s H E).nox (.BinOp (.BinOp (.Constant (.int i) a q1) .Pow (.Constant (.int j) b q2) q3) .Sub (.Constant (.int l) c q5) q4) _ := fun i j l a b c q1 q2 q3 q4 q5 => pe_op op_sub (pe_op op_pow pe_int pe_int) pe_int
    refine' ⟨_, ?h, ?r⟩
    case h =>
      refine' pss_cons ?a ?b
      case b => exact pss_one (ps_ret (pe_ix ix_list (pv 1) (pe_call G_law_take (hr.mono (by decide)) rfl D_law_take.m D_law_take.fn.kp D_law_take.b .nil pass0 (pa_c (pv 0) (pa_c pe_int pa_nil))) (fun _ _ => rfl)))
      case a =>
        with_reducible refine' ps_set (i := 1) ?h0 ?h1 ?h2 ?e swaps_list ?h3
        case h0 => exact sc.nd
        case h1 => rfl
        case h2 => exact Or.inl rfl
        case h3 => exact Or.inr rfl
        case e => with_reducible exact pe_lst (pa_bl (pa_bl (pa_str (pa_str (pa_lst (pa_int pa_nil) (pa_tup (pa_int pa_nil) (pa_dnew (pa_ofE (hP _ _ _ _ _ _ _) rfl (pa_ofE (hN _ _ _ _ _ _ _ _) rfl (pa_ofE (hS _ _ _ _ _ _ _ _ _ _ _) rfl (pa_lst (pa_lst (pa_int pa_nil) pa_nil) (pa_non pa_nil))))))))))))
    case r =>
    refine ⟨(by show 1 ≤ sizeLine; decide), fun l1 n1 => ⟨(by show 1 ≤ sizeLine; decide), fun t1 n2 => ?_⟩⟩
    intro d1 n3
    refine ⟨_, _, rfl, rfl, cp (by decide) (by decide), _, _, rfl, rfl, cp (by decide) (by decide), _, rfl, _, _, rfl, rfl, cp (by decide) (by decide), _, _, rfl, rfl, (by show 1 ≤ sizeLine; decide), fun m1 n5 => ⟨(by show 1 ≤ sizeLine; decide), fun m2 n6 => ⟨(by show 12 ≤ sizeLine; decide), fun l n4 => ?_⟩⟩⟩
    have e9 : (10 : Int) ^ (9 : Int).toNat = 1000000000 := by decide +kernel
    have e30 : (10 : Int) ^ (30 : Int).toNat = 1000000000000000000000000000000 := by decide +kernel
    have S1 : Same H (upd H l1 (.lst [.int 0])) := Same.upd n1
    have S2 : Same (upd H l1 (.lst [.int 0])) (upd (upd H l1 (.lst [.int 0])) t1 (.tup [.int 0])) := Same.upd n2
    have S3 : Same (upd (upd H l1 (.lst [.int 0])) t1 (.tup [.int 0])) (upd (upd (upd H l1 (.lst [.int 0])) t1 (.tup [.int 0])) d1 (.dK [])) := Same.upd n3
    have g1 := S3 _ _ (S2 _ _ (upd_same (H := H) (a := l1) (o := .lst [.int 0])))
    have g2 := S3 _ _ (upd_same (H := upd H l1 (.lst [.int 0])) (a := t1) (o := .tup [.int 0]))
    have g3 := upd_same (H := upd (upd H l1 (.lst [.int 0])) t1 (.tup [.int 0])) (a := d1) (o := .dK [])
    have S := (S1.trans S2).trans S3
    have w2 := S1.free n2
    have w3 := (S1.trans S2).free n3
    generalize upd (upd (upd H l1 (.lst [.int 0])) t1 (.tup [.int 0])) d1 (.dK []) = H3 at *
    have p1 : l1 ≠ p := (kb_free KB.refl B n1).2
    have p2 : t1 ≠ p := (kb_free S1.kb (Box.same B S1) n2).2
    have p3 : d1 ≠ p := (kb_free (S1.trans S2).kb (Box.same B (S1.trans S2)) n3).2
    have B3 : Box H3 p n := Box.same B S
    have T1 := Same.upd (o := .lst [.int 1]) n5
    have T2 := Same.upd (o := .lst [.ref m1]) n6
    have p5 : m1 ≠ p := (kb_free KB.refl B3 n5).2
    have w6 := (S.trans T1).free n6
    have p6 : m2 ≠ p := (kb_free T1.kb (Box.same B3 T1) n6).2
    have g5 := T2 _ _ (upd_same (H := H3) (a := m1) (o := .lst [.int 1]))
    have g6 := upd_same (H := upd H3 m1 (.lst [.int 1])) (a := m2) (o := .lst [.ref m1])
    replace g1 := T2 _ _ (T1 _ _ g1)
    replace g2 := T2 _ _ (T1 _ _ g2)
    replace g3 := T2 _ _ (T1 _ _ g3)
    replace S := S.trans (T1.trans T2)
    replace B3 := Box.same B3 (T1.trans T2)
    generalize upd (upd H3 m1 (.lst [.int 1])) m2 (.lst [.ref m1]) = H5 at *
    clear T1 T2
    have pl : l ≠ p := (kb_free KB.refl B3 n4).2
    rw [e9, e30] at *
    generalize hL : ([V.bl true, .bl false, .str "", .str "0", .ref l1, .ref t1, .ref d1, .int 1000000000, .int (-1000000000), .int (1000000000000000000000000000000 - 1), .ref m2, .non] : List V) = L at *
    have all : ∀ v ∈ L, (∃ d, Told p H5 v d) ∧ ∀ a, v = .ref a → H a = none := by
      rw [← hL]
      intro v hv
      simp only [List.mem_cons, List.not_mem_nil, or_false] at hv
      rcases hv with rfl | rfl | rfl | rfl | rfl | rfl | rfl | rfl | rfl | rfl | rfl | rfl
      · exact ⟨⟨_, .bl _, small_bool⟩, fun a z => nomatch z⟩
      · exact ⟨⟨_, .bl _, small_bool⟩, fun a z => nomatch z⟩
      · exact ⟨⟨_, .str _, small_e⟩, fun a z => nomatch z⟩
      · exact ⟨⟨_, .str _, small_0⟩, fun a z => nomatch z⟩
      · exact ⟨⟨_, .lst p1 g1 (.cons (.int 0) .nil), small_l⟩, fun a z => (by cases z; exact n1)⟩
      · exact ⟨⟨_, .tup p2 g2 (.cons (.int 0) .nil), small_t⟩, fun a z => (by cases z; exact w2)⟩
      · exact ⟨⟨_, .dct p3 g3 .nil, small_d⟩, fun a z => (by cases z; exact w3)⟩
      · exact ⟨⟨_, .int _, small_int (by decide)⟩, fun a z => nomatch z⟩
      · exact ⟨⟨_, .int _, small_int (by decide)⟩, fun a z => nomatch z⟩
      · exact ⟨⟨_, .int _, small_int (by decide)⟩, fun a z => nomatch z⟩
      · exact ⟨⟨_, .lst p6 g6 (.cons (.lst p5 g5 (.cons (.int 1) .nil)) .nil), small_ll⟩, fun a z => (by cases z; exact w6)⟩
      · exact ⟨⟨_, .non, small_none⟩, fun a z => nomatch z⟩
    have hlen : L.length = 12 := by rw [← hL]; rfl
    refine ⟨_, rfl, _, rfl, p, 12, n, rfl, B3.upd n4, by omega, by decide, by decide, fun r H4 r0 r1 B4 k4 => ?_⟩
    obtain ⟨v, hv, ev⟩ := atI_mem (xs := L) r0 (by rw [hlen]; exact r1)
    obtain ⟨⟨d, hd⟩, fv⟩ := all v hv
    have K4 : KB p H5 H4 := (Same.upd n4).kb.trans k4
    exact ⟨_, _, _, _, rfl, rfl, SqL.of (k4 l _ upd_same pl), (by rw [← hL] at ev; exact ev), k v d H4 (hd.keep K4) fv B4 (S.kb.trans K4)⟩
end
end K12

set_option Elab.async false
set_option linter.all false
set_option maxRecDepth 100000
set_option maxHeartbeats 1000000
namespace K12
open PySem L2
def OkX (P : Program) (w : World) (K : PySem.W.Frag) (mg : Str → Option Value) (base : Heap) (x : Str) (st : Stmt) (ps : List Str) (k : Nat) (sp : Sp) : Prop :=
  ∃ f fd, Dn K mg x x st ps f fd ∧ FnOk P w K mg base (CXo P w) k f fd ps sp
section
variable {P : Program} {w : World} {K : PySem.W.Frag} {mg : Str → Option Value} {base : Heap}
abbrev s_need_key : Stmt := top 22
theorem sc_need_key : FnScope ["thing"] ["thing"] (defScope s_need_key) := ⟨rfl, rfl, rfl, by decide +kernel, rfl, by decide +kernel, by decide +kernel⟩
def spNeed (K : PySem.W.Frag) (cE : Addr) : Sp := fun vs H Q E => ∃ v t, vs = [v] ∧ Thg K H v t ∧ (keyV v = true → Q .non H) ∧ (keyV v = false → ∀ e H', H e = none → Same H H' → Err cE "found" v H' e → E (.ref e) none H')
theorem ok_need {cE TT fI : Addr} {fdI : FuncData} (hd : ∃ f fd, Dn K mg "need_key" "need_key" s_need_key ["thing"] f fd) (T : Txt K mg) (x : ErN K mg "NoKey" "NoKey.__init__" (inClass (top 3) 0) "found" cE TT fI fdI) (h1 : OkD P w K mg base "is_key" s_is_key ["thing"] 3 (spIsK K)) :
    OkX P w K mg base "need_key" s_need_key ["thing"] 4 (spNeed K cE) := by
  obtain ⟨f, fd, D⟩ := hd
  obtain ⟨f1, fd1, D1, G1⟩ := h1
  have GE : FnOk P w K mg base CX0 1 fI fdI ["self", "found"] (spErr cE "found") := ok_NoKey x
  refine ⟨f, fd, D, Fun_okX D.fn sc_need_key (fun vs H Q E h => ?_) (fun cdv A outer s H vs Q E hr h => ?_)⟩
  · obtain ⟨_, _, rfl, _⟩ := h
    rfl
  · obtain ⟨v, t, rfl, th, b1, b2⟩ := h
    refine ⟨_, (pss_one (ps_if (pt_not (pt_val (pe_call G1 (hr.mono (by decide)) rfl D1.m D1.fn.kp D1.b .nil pass0 (pa_c (pv 0) pa_nil)))) (pss_one (ps_raise outs_def rfl (pe_exc x.f GE (hr.mono (by decide)) rfl x.mC x.bi (pa_c (pv 0) pa_nil)))) pss_nil)), ?_⟩
    refine ⟨_, rfl, v, t, rfl, th, _, rfl, ?_⟩
    cases c : keyV v with
    | true => exact iteF (b1 c)
    | false => exact iteT (raise_err x (v := v) (fun R r => ⟨_, rfl, r⟩) fun e H' he S r => b2 c e H' he S r)
end
end K12

set_option Elab.async false
set_option linter.all false
set_option maxRecDepth 100000
set_option maxHeartbeats 1000000
namespace K12
open PySem L2
theorem sIx_nat {n d : Nat} {i : Int} (h : 0 ≤ i) : HT.sIx n d (some i) = min i.toNat n := by
  unfold HT.sIx
  exact if_neg (by omega)
theorem sIx_no {n d : Nat} : HT.sIx n d none = d := rfl
theorem cut_take {xs : List V} {i : Nat} (h : i ≤ xs.length) : cutV xs none (some (i : Int)) = xs.take i := by
  unfold cutV
  rw [sIx_no, sIx_nat (by omega), List.drop_zero]
  congr 1
  omega
theorem cut_drop {xs : List V} {i : Nat} (h : i ≤ xs.length) : cutV xs (some (i : Int)) none = xs.drop i := by
  unfold cutV
  rw [sIx_no, sIx_nat (by omega), show min (i : Int).toNat xs.length = i by omega]
  exact List.take_of_length_le (by rw [List.length_drop]; omega)
section
variable {P : Program} {w : World} {K : PySem.W.Frag} {mg : Str → Option Value} {base : Heap}
abbrev s_left_out : Stmt := top 26
theorem sc_left_out : FnScope ["row", "at"] ["row", "at"] (defScope s_left_out) := ⟨rfl, rfl, rfl, by decide +kernel, rfl, by decide +kernel, by decide +kernel⟩
def spLeft : Sp := fun vs H Q _ => ∃ (a : Addr) (xs : List V) (i : Nat), vs = [.ref a, .int i] ∧ H a = some (.tup xs) ∧ i < xs.length ∧ xs.length ≤ 1000 ∧ ∀ p H', Same H H' → H' p = some (.tup (xs.take i ++ xs.drop (i + 1))) → Q (.ref p) H'
theorem ok_left (hd : ∃ f fd, Dn K mg "left_out" "left_out" s_left_out ["row", "at"] f fd) (T : Txt K mg) : OkD P w K mg base "left_out" s_left_out ["row", "at"] 1 spLeft := by
  obtain ⟨f, fd, D⟩ := hd
  refine ⟨f, fd, D, D.fn.ok sc_left_out (fun vs H Q E h => ?_) (fun cdv A outer s H vs Q E hr h => ?_)⟩
  · obtain ⟨_, _, _, rfl, _⟩ := h
    rfl
  · obtain ⟨a, xs, i, rfl, ha, hi, hz, k⟩ := h
    refine ⟨_, (pss_one (ps_ret (pe_op op_catTT (pe_slice sl_tup (pv 0) po_none (po_some (pv 1))) (pe_slice sl_tup (pv 0) (po_some (pe_op op_add (pv 1) pe_int)) po_none)))), ?_⟩
    refine ⟨_, rfl, _, rfl, _, rfl, a, xs, rfl, SqT.of ha, ?n1, fun p1 f1 => ?_⟩
    case n1 =>
      rw [sIx_nat (by omega)]
      rintro ⟨_, e⟩
      have : min (i : Int).toNat xs.length = xs.length := e
      omega
    have S1 := Same.upd (o := .tup (cutV xs none (some (i : Int)))) f1
    refine ⟨_, rfl, _, rfl, _, _, rfl, rfl, _, rfl, a, xs, rfl, SqT.of (S1 _ _ ha), ?n2, fun p2 f2 => ?_⟩
    case n2 =>
      rw [sIx_nat (by omega)]
      rintro ⟨e, _⟩
      have : min ((i : Int) + 1).toNat xs.length = 0 := e
      omega
    have S2 := Same.upd (o := .tup (cutV xs (some ((i : Int) + 1)) none)) f2
    have c2 : cutV xs (some ((i : Int) + 1)) none = xs.drop (i + 1) := by
      have := cut_drop (xs := xs) (i := i + 1) (by omega)
      rwa [show ((i + 1 : Nat) : Int) = (i : Int) + 1 by omega] at this
    refine ⟨p1, p2, _, _, rfl, rfl, S2 _ _ upd_same, upd_same, ?_, fun p H' S r => ?_⟩
    · rw [c2, cut_take (by omega), List.length_take, List.length_drop, show sizeLine = 16777216 by decide]
      omega
    · rw [c2, cut_take (by omega)] at r
      exact k p H' ((S1.trans S2).trans S) r
end
end K12

set_option Elab.async false
set_option linter.all false
set_option maxRecDepth 100000
set_option maxHeartbeats 1000000
namespace K12
open PySem L2
theorem err_on {C : Addr} {fld : Str} {v : V} {H0 H : Hp} {e : Addr} {E : XK} (he : H0 e = none) (S : Same H0 H) (r : Err C fld v H e) (q : ∀ H', Same H0 H' → Err C fld v H' e → E (.ref e) none H') : goOn E (.ref e) none H := by
  obtain ⟨dx, ar, b, fl, hdx, n1, n2⟩ := r
  refine ⟨C, e, some dx, ar, some b, rfl, fl, fun b2 f2 nb => q _ (fun c o z => ?_) ⟨dx, ar, b2, fly_past nb, ?_, n1, ne_of_none hdx f2⟩⟩
  · have c1 : c ≠ e := ne_of_none z he
    have c2 : c ≠ b2 := ne_of_none (S _ _ z) f2
    show upd (upd H b2 _) e _ c = _
    rw [upd_ne c1, upd_ne c2]
    exact S _ _ z
  · show upd (upd H b2 _) e _ dx = _
    rw [upd_ne n1, upd_ne (ne_of_none hdx f2)]
    exact hdx
def Up (ks : List Int) : Prop := ks.Pairwise (· < ·) ∧ ∀ k ∈ ks, -999999999 ≤ k ∧ k ≤ 999999999
theorem dvs_ints {N : Addr → Prop} {H : Hp} : ∀ (ns : List Int), DVs N H (ns.map V.int) (ns.map PyData.int)
  | [] => .nil
  | n :: ns => .cons (.int n) (dvs_ints ns)
theorem up_rises {ks : List Int} (h : Up ks) : RisesD (ks.map PyData.int) := by
  intro j hj
  rw [List.length_map] at hj
  have hm := h.2 ks[j] (List.getElem_mem hj)
  refine ⟨ks[j], by simp [hj], hm.1, hm.2, fun j0 => ⟨ks[j - 1]'(by omega), by simp [show j - 1 < ks.length by omega], ?_⟩⟩
  exact List.pairwise_iff_getElem.mp h.1 (j - 1) j (by omega) hj (by omega)
theorem up_erase {ks : List Int} (h : Up ks) (j : Nat) : Up (ks.eraseIdx j) := ⟨h.1.sublist (List.eraseIdx_sublist ks j), fun k hk => h.2 k ((List.eraseIdx_sublist ks j).subset hk)⟩
end K12

set_option Elab.async false
set_option linter.all false
set_option maxRecDepth 100000
set_option maxHeartbeats 1000000
namespace K12
open PySem L2
theorem inV_int {i : Int} {ns : List Int} : inV (.int i) (ns.map V.int) = true ↔ i ∈ ns := by
  unfold inV
  rw [List.any_eq_true]
  constructor
  · rintro ⟨y, hy, e⟩
    obtain ⟨j, hj, rfl⟩ := List.mem_map.mp hy
    have : j = i := by simpa [eqV] using e
    exact this ▸ hj
  · intro h
    exact ⟨.int i, List.mem_map.mpr ⟨i, h, rfl⟩, by simp [eqV]⟩
theorem flat_ints {ns : List Int} : (ns.map V.int).all flatV = true := by
  rw [List.all_eq_true]
  intro y hy
  obtain ⟨j, _, rfl⟩ := List.mem_map.mp hy
  rfl
theorem row_tup {H : Hp} {a : Addr} {tp : Bool} {xs ys : List V} (r : RowAt tp H a xs) (e : H a = some (.tup ys)) : xs = ys := by
  have r' : H a = some (if tp then .tup xs else .lst xs) := r
  rw [e] at r'
  cases tp with
  | true => cases r'; rfl
  | false => cases r'
theorem er_map (ks : List Int) (j : Nat) : (ks.map V.int).take j ++ (ks.map V.int).drop (j + 1) = (ks.eraseIdx j).map V.int := by
  rw [List.eraseIdx_eq_take_drop_succ, List.map_append, List.map_take, List.map_drop]
theorem keys_page {ks : List Int} (h : Up ks) (hz : ks.length ≤ 6) : PageKeys (.tuple (ks.map PyData.int)) := ⟨_, rfl, up_rises h, by rw [List.length_map]; exact hz⟩
theorem goods_page {gs : List Int} {n : Int} (h : ∀ g ∈ gs, -999999999 ≤ g ∧ g ≤ 999999999) (hz : (gs.length : Int) = n) : PageGoods (.tuple (gs.map PyData.int)) n := ⟨_, rfl, by rw [List.length_map]; exact hz, fun x hx => by
  obtain ⟨g, hg, rfl⟩ := List.mem_map.mp hx
  have := h g hg
  show (decide (-999999999 ≤ g) && decide (g ≤ 999999999)) = true
  rw [decide_eq_true this.1, decide_eq_true this.2]
  rfl⟩
section
variable {P : Program} {w : World} {K : PySem.W.Frag} {mg : Str → Option Value} {base : Heap}
structure PgI (C dx : Addr) (H : Hp) (x : Addr) (ks gs : List Int) : Prop where
  pg : Pg C dx H x (ks.map V.int) (gs.map V.int)
  len : gs.length = ks.length
  few : ks.length ≤ 6
  up : Up ks
  ok : ∀ g ∈ gs, -999999999 ≤ g ∧ g ≤ 999999999
theorem sc_without : FnScope ["self", "key", "at"] ["self", "key"] (defScope (inClass (top 28) 3)) := ⟨rfl, rfl, rfl, by decide +kernel, rfl, by decide +kernel, by decide +kernel⟩
def spWithout (K : PySem.W.Frag) (C cK cL : Addr) : Sp := fun vs H Q E => ∃ (x dx : Addr) (v : V) (t : Value) (ks gs : List Int), vs = [.ref x, v] ∧ PgI C dx H x ks gs ∧ Thg K H v t ∧
  (keyV v = false → ∀ e H', H e = none → Same H H' → Err cK "found" v H' e → E (.ref e) none H') ∧
  (∀ k : Int, v = .int k → keyV v = true → k ∉ ks → ∀ e H', H e = none → Same H H' → Err cL "key" v H' e → E (.ref e) none H') ∧
  (∀ (k : Int) (j : Nat), v = .int k → ks[j]? = some k → ∀ H' y dy, Same H H' → H y = none → PgI C dy H' y (ks.eraseIdx j) (gs.eraseIdx j) → Q (.ref y) H')
theorem ok_without {C f fK fG cP cE TT fI cK fIK cL fIL fW : Addr} {fd fdI fdK fdL fdW : FuncData} (hf : Fun K "without" "Leaf.without" (inClass (top 28) 3) fW fdW) (T : Txt K mg) (X : KdN K mg "Leaf" "Leaf.__init__" (inClass (top 28) 0) C f fd fK fG)
    (xL : ErN K mg "Lacks" "Lacks.__init__" (inClass (top 6) 0) "key" cL TT fIL fdL)
    (h1 : OkX P w K mg base "need_key" s_need_key ["thing"] 4 (spNeed K cK)) (h2 : OkD P w K mg base "left_out" s_left_out ["row", "at"] 1 spLeft)
    (gL : FnOk P w K mg base (CXo P w) 8 f fd ["self", "keys", "goods"] (spMake C cE fun dk dg => PageGoods dg (lenD dk))) :
    FnOk P w K mg base (CXo P w) 10 fW fdW ["self", "key"] (spWithout K C cK cL) := by
  obtain ⟨f1, fd1, D1, G1⟩ := h1
  obtain ⟨f2, fd2, D2, G2⟩ := h2
  have GL : FnOk P w K mg base CX0 1 fIL fdL ["self", "key"] (spErr cL "key") := ok_Lacks xL
  refine Fun_okX hf sc_without (fun vs H Q E h => ?_) (fun cdv A outer s H vs Q E hr h => ?_)
  · obtain ⟨_, _, _, _, _, _, rfl, _⟩ := h
    rfl
  · obtain ⟨x, dx, v, t, ks, gs, rfl, pg, th, b1, b2, b3⟩ := h
    have sc := sc_without
    refine' ⟨_, pss_cons (ps_expr (pe_call G1 (hr.mono (by decide)) rfl D1.m D1.fn.kp D1.b .nil outs_def.pass (pa_c (pv 1) pa_nil)))
      (pss_cons (ps_if (pt_cmpR op_notIn_seq (pv 1) (pe_fld (pv 0) rfl) rfl) (pss_one (ps_raise outs_def rfl (pe_exc xL.f GL (hr.mono (by decide)) rfl xL.mC xL.bi (pa_c (pv 1) pa_nil)))) pss_nil)
      (pss_cons (ps_set (i := 2) sc.nd rfl (Or.inl rfl) (pe_bmT PySem.F.slot_tuple_index PySem.F.type_tuple_index mt_indexT (pe_fld (pv 0) rfl) (pa_c (pv 1) pa_nil)))
      (pss_one (ps_ret (pe_make X.mak gL (hr.mono (by decide)) rfl X.m X.bi .nil outs_def.pass (pa_c (pe_call G2 (hr.mono (by decide)) rfl D2.m D2.fn.kp D2.b .nil pass0 (pa_c (pe_fld (pv 0) rfl) (pa_c (pv 2) pa_nil))) (pa_c (pe_call G2 (hr.mono (by decide)) rfl D2.m D2.fn.kp D2.b .nil pass0 (pa_c (pe_fld (pv 0) rfl) (pa_c (pv 2) pa_nil))) pa_nil))))))), ?_⟩
    obtain ⟨tk, tg, hx, hk, hg⟩ := pg.pg
    refine ⟨_, rfl, v, t, rfl, th, fun c1 => ?_, fun c1 e H' he S r => err_on he S r fun H2 S2 r2 => b1 c1 e H2 he S2 r2⟩
    obtain ⟨k, rfl, _, _⟩ := keyV_int c1
    refine ⟨_, rfl, _, rfl, x, C, dx, _, _, rfl, hx, X.ins.cl, X.n1, rfl, tk, _, rfl, .inr (SqT.of hk), rfl, flat_ints, _, rfl, ?_⟩
    by_cases cm : k ∈ ks
    · refine iteE (c := false) (by show (!inV (.int k) (ks.map V.int)) = false; rw [inV_int.mpr cm]; rfl) (iteF ?_)
      obtain ⟨j, hj⟩ := List.getElem?_of_mem cm
      have jl : j < ks.length := (List.getElem?_eq_some_iff.mp hj).1
      refine ⟨_, rfl, x, C, dx, _, _, rfl, hx, X.ins.cl, X.n1, rfl, ⟨tk, _, rfl, hk⟩, _, rfl, tk, _, .int k, j, rfl, rfl, hk, rfl, flat_ints, ⟨.int k, by rw [List.getElem?_map, hj]; rfl, by simp [eqV]⟩, fun m z hm hz => ?_, ?_⟩
      · rw [List.getElem?_map] at hz
        obtain ⟨k', h1, rfl⟩ := Option.map_eq_some_iff.mp hz
        obtain ⟨m1, m2⟩ := List.getElem?_eq_some_iff.mp h1
        obtain ⟨_, j2⟩ := List.getElem?_eq_some_iff.mp hj
        have := List.pairwise_iff_getElem.mp pg.up.1 m j m1 jl hm
        rw [m2, j2] at this
        have ne : k' ≠ k := by omega
        simp [eqV, ne]
      · refine ⟨_, rfl, x, C, dx, _, _, rfl, hx, X.ins.cl, X.n1, rfl, _, rfl, tk, _, j, rfl, hk, by rw [List.length_map]; exact jl, by rw [List.length_map]; have := pg.few; omega, fun p1 H1 S1 e1 => ?_⟩
        refine ⟨_, rfl, x, C, dx, _, _, rfl, S1 _ _ hx, X.ins.cl, X.n2, rfl, _, rfl, tg, _, j, rfl, S1 _ _ hg, by rw [List.length_map, pg.len]; exact jl, by rw [List.length_map, pg.len]; have := pg.few; omega, fun p2 H2 S2 e2 => ?_⟩
        intro y dy fy fdy nd
        rw [er_map] at e1 e2
        have e1' := S2 _ _ e1
        have K1 : Same H2 (upd (upd H2 dy (.own y)) y (.ins C dy [])) := fun c o hc => by
          rw [upd_ne (ne_of_none hc fy), upd_ne (ne_of_none hc fdy)]
          exact hc
        have lk : (ks.eraseIdx j).length = ks.length - 1 := List.length_eraseIdx_of_lt jl
        have lg : (gs.eraseIdx j).length = ks.length - 1 := by rw [List.length_eraseIdx_of_lt (by rw [pg.len]; exact jl), pg.len]
        have ok' : ∀ g ∈ gs.eraseIdx j, -999999999 ≤ g ∧ g ≤ 999999999 := fun g hg' => pg.ok g ((List.eraseIdx_sublist gs j).subset hg')
        have PK := keys_page (up_erase pg.up j) (by rw [lk]; have := pg.few; omega)
        have PG := goods_page (n := lenD (.tuple ((ks.eraseIdx j).map PyData.int))) ok' (by show _ = (((ks.eraseIdx j).map PyData.int).length : Int); rw [List.length_map, lk, lg])
        refine ⟨fun _ => False, y, dy, .ref p1, .ref p2, _, _, rfl, upd_same, .tup (fun z => z) (K1 _ _ e1') (dvs_ints _), .tup (fun z => z) (K1 _ _ e2) (dvs_ints _), fun ds z => ?_, fun ds z => ?_, fun c => absurd PK c, fun _ c => absurd PG c, fun _ _ H3 a b tp tp' xs ys B ea eb ra rb pg' => ⟨rfl, ?_⟩⟩
        · cases z; rw [List.length_map, lk]; have := pg.few; omega
        · cases z; rw [List.length_map, lg]; have := pg.few; omega
        · cases ea
          cases eb
          rw [row_tup ra (K1 _ _ e1'), row_tup rb (K1 _ _ e2)] at pg'
          refine b3 k j rfl hj H3 y dy (fun c o hc => B c o (K1 _ _ (S2 _ _ (S1 _ _ hc))) (ne_of_none (S2 _ _ (S1 _ _ hc)) fy)) ((S1.trans S2).free fy) ⟨pg', by rw [lk, lg], by rw [lk]; have := pg.few; omega, up_erase pg.up j, ok'⟩
    · refine iteE (c := true) (by show (!inV (.int k) (ks.map V.int)) = true; cases hh : inV (.int k) (ks.map V.int) with | false => rfl | true => exact absurd (inV_int.mp hh) cm) (iteT ?_)
      exact raise_err xL (v := .int k) (fun R r => ⟨_, rfl, r⟩) fun e H' he S r => b2 k rfl c1 cm e H' he S r
end
end K12

set_option Elab.async false
set_option linter.all false
set_option maxRecDepth 100000
set_option maxHeartbeats 1000000
namespace K12
open PySem L2
section
variable {P : Program} {w : World} {K : PySem.W.Frag} {mg : Str → Option Value} {base : Heap}
abbrev s__law_near : Stmt := top 36
theorem sc__law_near : FnScope ["_law_keys_here", "_law_found", "_law_key"] ["_law_keys_here"] (defScope s__law_near) := ⟨rfl, rfl, rfl, by decide +kernel, rfl, by decide +kernel, by decide +kernel⟩
def spNear : Sp := fun vs H Q _ => ∃ (a : Addr) (ks : List Int), vs = [.ref a] ∧ H a = some (.lst (ks.map V.int)) ∧ ks.length ≤ 20 ∧ (∀ k ∈ ks, -999999999 ≤ k ∧ k ≤ 999999999) ∧
  ∀ l H' ns, H l = none → Same H H' → H' l = some (.lst (ns.map V.int)) → (∀ k ∈ ns, -999999999 ≤ k ∧ k ≤ 999999999) → ns ≠ [] → ns.length ≤ 63 → Q (.ref l) H'
theorem ok_near (hd : ∃ f fd, Dn K mg "_law_near" "_law_near" s__law_near ["_law_keys_here"] f fd) (T : Txt K mg) : OkD P w K mg base "_law_near" s__law_near ["_law_keys_here"] 1 spNear := by
  obtain ⟨f, fd, D⟩ := hd
  refine ⟨f, fd, D, D.fn.ok sc__law_near (fun vs H Q E h => ?_) (fun cdv A outer s H vs Q E hr h => ?_)⟩
  · obtain ⟨_, _, rfl, _⟩ := h
    rfl
  · obtain ⟨a, ks, rfl, ha, hz, hb, k⟩ := h
    have sc := sc__law_near
    refine' ⟨_, (pss_cons (ps_set (i := 1) sc.nd rfl (Or.inl rfl) (pe_lst (pa_c (pe_op op_sub pe_int (pe_op op_pow pe_int pe_int)) (pa_c (pe_op op_sub (pe_op op_pow pe_int pe_int) pe_int) (pa_c pe_int pa_nil)))))
    (pss_cons (ps_for PassesOwn.never rfl (pi_list (pv 0)) (pg_name (i := 2) sc.nd rfl (Or.inl rfl))
      (pss_one (ps_expr (pe_bm PySem.F.plainAttrs_list PySem.F.slot_list_extend PySem.F.type_list_extend mt_extend (pv 1) (pa_c (pe_lst (pa_c (pe_op op_sub (pv 2) pe_int) (pa_c (pv 2) (pa_c (pe_op op_add (pv 2) pe_int) pa_nil)))) pa_nil)))))
    (pss_one (ps_ret (pe_comp (blk_mk [] []) rfl (pi_list (pv 1)) (fun _ _ _ _ _ => (PTs.one (pt_chain op_lt op_lt (pe_un un_neg (pe_op op_pow pe_int pe_int)) (pv 0) (pe_op op_pow pe_int pe_int)))) (fun _ _ _ _ _ => (pv 0))))))), ?_⟩
    have e9 : (10 : Int) ^ (9 : Int).toNat = 1000000000 := by decide +kernel
    refine ⟨_, _, rfl, rfl, cp (by decide) (by decide), _, _, rfl, rfl, _, _, rfl, rfl, cp (by decide) (by decide), _, _, rfl, rfl, (by show 3 ≤ sizeLine; decide), fun lf ff => ?_⟩
    have S1 := Same.upd (o := .lst [.int (1 - 10 ^ (9 : Int).toNat), .int (10 ^ (9 : Int).toNat - 1), .int 0]) ff
    have na : a ≠ lf := ne_of_none ha ff
    refine ⟨_, rfl, a, rfl, ⟨_, SqL.of (S1 _ _ ha)⟩, for_list (fun i σ H2 => ∃ o ns, σ = [some (.ref a), some (.ref lf), o] ∧ H2 lf = some (.lst (ns.map V.int)) ∧ ns.length = 3 + 3 * i ∧ (0 : Int) ∈ ns ∧ Same H H2) ⟨none, [1 - 10 ^ (9 : Int).toNat, 10 ^ (9 : Int).toNat - 1, 0], rfl, upd_same, rfl, by simp, S1⟩ (fun i σ H2 _ ⟨_, _, _, _, _, _, S⟩ => SqL.of (S _ _ ha)) ?_ ?_⟩
    · rintro i y σ H2 hi ⟨o, ns, rfl, e2, l2, z2, S2⟩
      have hil : i < ks.length := by
        have := (List.getElem?_eq_some_iff.mp hi).1
        rwa [List.length_map] at this
      rw [List.getElem?_map] at hi
      obtain ⟨k', hk', rfl⟩ := Option.map_eq_some_iff.mp hi
      refine ⟨_, rfl, .inl ⟨rfl, _, SqL.of e2⟩, _, rfl, _, _, rfl, rfl, _, rfl, _, rfl, _, _, rfl, rfl, (by show 3 ≤ sizeLine; decide), fun l3 f3 => ?_⟩
      have S3 := Same.upd (o := .lst [.int (k' - 1), .int k', .int (k' + 1)]) f3
      refine ⟨lf, l3, ns.map V.int, _, rfl, rfl, S3 _ _ e2, upd_same, ?_, ?_⟩
      · rw [List.length_map, l2, show sizeLine = 16777216 by decide]
        show 3 + 3 * i + 3 ≤ _
        omega
      · refine ⟨_, ns ++ [k' - 1, k', k' + 1], rfl, ?_, ?_, List.mem_append_left _ z2, fun c u hc => ?_⟩
        · rw [upd_same, List.map_append]
          rfl
        · rw [List.length_append, l2]
          show 3 + 3 * i + 3 = _
          omega
        · rw [upd_ne (ne_of_none hc ff)]
          exact S3 _ _ (S2 _ _ hc)
    · rintro σ H2 ⟨o, ns, rfl, e2, l2, z2, S2⟩
      rw [List.length_map] at l2
      have ra : RowAt false H2 lf (ns.map V.int) := e2
      dsimp only
      refine tret1 (comp_f (ns.map V.int) keyV (fun y => y) (J := ItB K false lf) (H1 := H2) (fun R r => ⟨_, rfl, lf, rfl, ⟨_, SqL.of e2⟩, r⟩) (it_row ra) ?_ ?_ (by rw [List.length_map]; omega) ?_)
      · intro y hy H3 R S3 r
        obtain ⟨z, _, rfl⟩ := List.mem_map.mp hy
        have r' : R (decide (-999999999 ≤ z) && decide (z ≤ 999999999)) H3 := r H3 (Same.refl _)
        refine ⟨_, _, rfl, rfl, cp (by decide) (by decide), _, rfl, _, rfl, _, _, rfl, rfl, _, rfl, ite2 (fun h1 => ?_) (fun h1 => ?_)⟩
        · have h2 : -(10 : Int) ^ (9 : Int).toNat < z := of_decide_eq_true h1
          rw [e9] at h2
          refine ⟨_, _, rfl, rfl, cp (by decide) (by decide), _, _, rfl, rfl, _, rfl, ?_⟩
          show R (decide (z < (10 : Int) ^ (9 : Int).toNat)) H3
          rw [decide_eq_true (show -999999999 ≤ z by omega), Bool.true_and] at r'
          rw [e9, show decide (z < 1000000000) = decide (z ≤ 999999999) from decide_eq_decide.mpr (by omega)]
          exact r'
        · have h2 : ¬ -(10 : Int) ^ (9 : Int).toNat < z := fun q => h1 (decide_eq_true q)
          rw [e9] at h2
          rw [decide_eq_false (show ¬ -999999999 ≤ z by omega), Bool.false_and] at r'
          exact ⟨_, rfl, r'⟩
      · exact fun y hy _ H3 R S3 r => ⟨_, rfl, r H3 (Same.refl _)⟩
      · intro d H3 f3 S3 e3
        rw [List.filter_map, List.map_map] at e3
        have fd : H d = none := S2.free f3
        refine k d H3 (ns.filter (keyV ∘ V.int)) fd (S2.trans S3) e3 (fun z hz' => ?_) (fun e => ?_) ?_
        · obtain ⟨_, h2⟩ := List.mem_filter.mp hz'
          have h3 : (decide (-999999999 ≤ z) && decide (z ≤ 999999999)) = true := h2
          rw [Bool.and_eq_true] at h3
          exact ⟨of_decide_eq_true h3.1, of_decide_eq_true h3.2⟩
        · have : (0 : Int) ∈ ns.filter (keyV ∘ V.int) := List.mem_filter.mpr ⟨z2, rfl⟩
          rw [e] at this
          cases this
        · have := List.length_filter_le (keyV ∘ V.int) ns
          omega
end
end K12

set_option Elab.async false
set_option linter.all false
set_option maxRecDepth 100000
set_option maxHeartbeats 1000000
namespace K12
open PySem L2
def isL : PyData → Bool
  | .list _ => true
  | _ => false
theorem inst_lst {K : PySem.W.Frag} {N : Addr → Prop} {H : Hp} {v : V} {d : PyData} (x : DV N H v d) : PySem.W.kitOne K (tyD d) (.type "list") = some (isL d) := by
  cases x <;> kernel_rfl
theorem more_row : ∀ (ds : List PyData), PyData.showableAll (ds ++ [.str "more"]) = PyData.showableAll ds ∧ PyData.leavesShortAll 40 (ds ++ [.str "more"]) = PyData.leavesShortAll 40 ds ∧ PyData.depthAll (ds ++ [.str "more"]) = PyData.depthAll ds ∧ PyData.weightAll (ds ++ [.str "more"]) = PyData.weightAll ds + 5
  | [] => ⟨rfl, by decide +kernel, by decide +kernel, by decide +kernel⟩
  | d :: ds => by
    obtain ⟨a, b, c, e⟩ := more_row ds
    refine ⟨?_, ?_, ?_, ?_⟩
    · simp only [List.cons_append, PyData.showableAll, a]
    · simp only [List.cons_append, PyData.leavesShortAll, b]
    · simp only [List.cons_append, PyData.depthAll, c]
    · simp only [List.cons_append, PyData.weightAll, e]
      omega
theorem okd_pair {w : Str} {d : PyData} (hw : (PyData.str w).leavesShort 40 = true) (hl : w.cps.size ≤ 100) (x : Okd 150 d) (dx : d.depth ≤ 2) : Okd 100000 (.list [.str w, d]) := by
  refine ⟨?_, ?_, ?_, ?_⟩
  · simp only [PyData.showable, PyData.showableAll, x.sh, Bool.and_self]
  · simp only [PyData.leavesShort, PyData.leavesShortAll, x.lv, Bool.and_true]
    simpa only [PyData.leavesShort] using hw
  · simp only [PyData.depth, PyData.depthAll]; omega
  · have := x.wt
    simp only [PyData.weight, PyData.weightAll]; omega
theorem okd_pair2 {w : Str} {ds : List PyData} (hw : (PyData.str w).leavesShort 40 = true) (hl : w.cps.size ≤ 100) (x : Okd 150 (.list ds)) (dx : (PyData.list ds).depth ≤ 2) : Okd 100000 (.list [.str w, .list (ds ++ [.str "more"])]) := by
  obtain ⟨a, b, c, e⟩ := more_row ds
  obtain ⟨x1, x2, x3, x4⟩ := x
  simp only [PyData.showable, PyData.leavesShort, PyData.depth, PyData.weight] at x1 x2 x3 x4 dx
  refine ⟨?_, ?_, ?_, ?_⟩
  · simp only [PyData.showable, PyData.showableAll, a, x1, Bool.and_self]
  · simp only [PyData.leavesShort, PyData.leavesShortAll, b, x2, Bool.and_true]
    simpa only [PyData.leavesShort] using hw
  · simp only [PyData.depth, PyData.depthAll, c]; omega
  · simp only [PyData.weight, PyData.weightAll, e]; omega
section
variable {P : Program} {w : World} {K : PySem.W.Frag} {mg : Str → Option Value} {base : Heap}
abbrev s__law_is_due : Stmt := top 43
theorem sc__law_is_due : FnScope ["_law_found", "_law_due_here"] ["_law_found", "_law_due_here"] (defScope s__law_is_due) := ⟨rfl, rfl, rfl, by decide +kernel, rfl, by decide +kernel, by decide +kernel⟩
def spIsDue : Sp := fun vs H Q _ => ∃ (p lf ld : Addr) (wd : Str) (v : V) (d : PyData), vs = [.ref lf, .ref ld] ∧ H lf = some (.lst [.str wd, v]) ∧ H ld = some (.lst [.str wd, v]) ∧ v ≠ .ref lf ∧ v ≠ .ref ld ∧ Told p H v d ∧ (PyData.str wd).leavesShort 40 = true ∧ wd.cps.size ≤ 100 ∧
  ∀ H', (∀ b o, H b = some o → v ≠ .ref b → H' b = some o) → Q (.bl true) H'
theorem ok_isdue (hd : ∃ f fd, Dn K mg "_law_is_due" "_law_is_due" s__law_is_due ["_law_found", "_law_due_here"] f fd) (T : Txt K mg) : OkD P w K mg base "_law_is_due" s__law_is_due ["_law_found", "_law_due_here"] 1 spIsDue := by
  obtain ⟨f, fd, D⟩ := hd
  refine ⟨f, fd, D, D.fn.ok sc__law_is_due (fun vs H Q E h => ?_) (fun cdv A outer s H vs Q E hr h => ?_)⟩
  · obtain ⟨_, _, _, _, _, _, rfl, _⟩ := h
    rfl
  · obtain ⟨p, lf, ld, wd, v, d, rfl, hf, hd, nf, nd, t, hw, hl, k⟩ := h
    have sc := sc__law_is_due
    have F0 : ∀ {H' : Hp} {v : V} {d : PyData} {l : Addr}, DV (fun _ => False) H' v d → H' l = some (.lst [.str wd, v]) → DV (fun _ => False) H' (.ref l) (.list [.str wd, d]) := fun dv e => .lst (fun z => z) e (.cons (.str _) (.cons dv .nil))
    have dv0 : DV (fun _ => False) H v d := t.1.keep (fun _ _ _ z => z) fun _ z => z.elim
    have ok1 := okd_pair hw hl t.2.ok t.2.dp
    refine' ⟨_, (pss_cons (ps_if (pt_cmpR op_ne (pe_callB (call_reprD hr.gd hr.units) rfl T.n_repr bt_repr (pa_c (pv 0) pa_nil)) (pe_callB (call_reprD hr.gd hr.units) rfl T.n_repr bt_repr (pa_c (pv 1) pa_nil)) (nomark _))
      (pss_one (ps_ret pe_bl))
      pss_nil)
    (pss_cons (ps_if (pt_val (pe_callB call_inst rfl T.n_isinstance bt_isinstance (pa_c (pe_ix ix_list (pv 1) pe_int (fun _ _ => rfl)) (pa_c (pe_bltn (v := .ty "list") rfl T.n_list bt_list rfl) pa_nil))))
      (pss_one (ps_expr (pe_bm PySem.F.plainAttrs_list PySem.F.slot_list_append PySem.F.type_list_append mt_append (pe_ix ix_list (pv 1) pe_int (fun _ _ => rfl)) (pa_c pe_str pa_nil))))
      pss_nil)
    (pss_one (ps_ret (pe_cmpR op_eq (pe_callB (call_reprD hr.gd hr.units) rfl T.n_repr bt_repr (pa_c (pv 0) pa_nil)) (pe_callB (call_reprD hr.gd hr.units) rfl T.n_repr bt_repr (pa_c (pv 1) pa_nil)) (nomark _)))))), ?_⟩
    refine ⟨_, rfl, _, _, _, rfl, F0 dv0 hf, ok1, _, rfl, _, _, _, rfl, F0 dv0 hd, ok1, rfl, _, rfl, iteE (c := false) (by rw [decide_eq_true rfl]; rfl) (iteF ?_)⟩
    refine ⟨_, rfl, _, _, _, _, rfl, rfl, SqL.of hd, rfl, v, _, tyD d, _, rfl, t.1.thg, .inl ⟨_, rfl, inst_lst t.1⟩, _, rfl, ?_⟩
    cases hL : isL d with
    | false =>
      refine iteF ⟨_, rfl, _, _, _, rfl, F0 dv0 hf, ok1, _, rfl, _, _, _, rfl, F0 dv0 hd, ok1, rfl, ?_⟩
      rw [decide_eq_true rfl]
      exact k H fun b o z _ => z
    | true =>
      refine iteT ?_
      obtain ⟨a, xs, ds, ea, ed, ha, rx⟩ : ∃ a xs ds, v = .ref a ∧ d = .list ds ∧ H a = some (.lst xs) ∧ DVs (fun _ => False) H xs ds := by
        cases dv0 with
        | lst na e r => exact ⟨_, _, _, rfl, rfl, e, r⟩
        | _ => cases hL
      subst ea ed
      have av := DVs.avoid dv0 rx (by simp only [PyData.depth]; omega)
      have lz : xs.length < sizeLine := by
        have l := rx.length
        have wt := t.2.ok.wt
        have le : ∀ (es : List PyData), es.length ≤ PyData.weightAll es := fun es => by
          induction es with
          | nil => simp
          | cons y ys ih => simp only [List.length_cons, PyData.weightAll]; omega
        have := le ds
        simp only [PyData.weight] at wt
        have := big1000
        omega
      have n1 : lf ≠ a := fun e => nf (by rw [e])
      have n2 : ld ≠ a := fun e => nd (by rw [e])
      refine ⟨_, rfl, _, _, _, _, rfl, rfl, SqL.of hd, rfl, .inl ⟨rfl, xs, SqL.of ha⟩, a, xs, _, rfl, rfl, ha, lz, ?_⟩
      have dv6 : DV (fun _ => False) (upd H a (.lst (xs ++ [.str "more"]))) (.ref a) (.list (ds ++ [.str "more"])) := .lst (fun z => z) upd_same (DVs.append (av.keep (fun b o nb z => by rw [upd_ne (fun e => nb (.inr e))]; exact z) (fun b z => z.elim)) (.cons (.str _) .nil))
      have hf6 : upd H a (.lst (xs ++ [.str "more"])) lf = some (.lst [.str wd, .ref a]) := by rw [upd_ne n1]; exact hf
      have hd6 : upd H a (.lst (xs ++ [.str "more"])) ld = some (.lst [.str wd, .ref a]) := by rw [upd_ne n2]; exact hd
      have ok6 := okd_pair2 hw hl t.2.ok t.2.dp
      refine ⟨_, rfl, _, _, _, rfl, F0 dv6 hf6, ok6, _, rfl, _, _, _, rfl, F0 dv6 hd6, ok6, rfl, ?_⟩
      rw [decide_eq_true rfl]
      exact k _ fun b o z n => by rw [upd_ne (fun e => n (by rw [e]))]; exact z
end
end K12

set_option Elab.async false
set_option linter.all false
set_option maxRecDepth 100000
set_option maxHeartbeats 1000000
namespace K12
open PySem L2
section
variable {K : PySem.W.Frag} {mg : Str → Option Value}
theorem caught_of {th : TH} {C : Addr} {fld : Str} {v : V} {H H' : Hp} {e : Addr} {D : Ends} {n : Nat} (he : H e = none) (S : Same H H') (r : Err C fld v H' e)
    (q : ∀ σ : St, σ.length = n → ∀ dx ar b H2, Same H H2 → H2 e = some (ExO C e (some dx) ar (some b)) → H2 dx = some (XdO dx [(fld, v)]) → th C e (some dx) ar b D σ H2) : caught n th D (.ref e) none H' := by
  obtain ⟨dx, ar, b, fl, hdx, n1, n2⟩ := r
  refine ⟨C, e, some dx, ar, some b, rfl, fl, fun σ hσ b2 f2 nb2 => q σ hσ dx ar b2 _ (fun c o z => ?_) upd_same ?_⟩
  · have c1 : c ≠ e := ne_of_none z he
    have c2 : c ≠ b2 := ne_of_none (S _ _ z) f2
    show upd (upd H' b2 _) e _ c = _
    rw [upd_ne c1, upd_ne c2]
    exact S _ _ z
  · show upd (upd H' b2 _) e _ dx = _
    rw [upd_ne n1, upd_ne (ne_of_none hdx f2)]
    exact hdx
theorem th_skip {C Dc e : Addr} {dx ar : Option Addr} {b : Addr} {i : Nat} {tb : TS} {rest : TH} {D : Ends} {σ : St} {H : Hp} (m : PySem.W.mroIn K C (.ref Dc) = some false) (h : rest C e dx ar b D σ H) : thAs K Dc i tb rest C e dx ar b D σ H := ⟨false, m, by rw [if_neg Bool.false_ne_true]; exact h⟩
theorem th_hit {nm q fld wd : Str} {st : Stmt} {C TT fI e dx : Addr} {fd : FuncData} {ar : Option Addr} {b : Addr} {i : Nat} {rest : TH} {D : Ends} {σ : St} {H0 H : Hp} {v : V} (x : ErN K mg nm q st fld C TT fI fd) (hi : i < σ.length) (S : Same H0 H) (h1 : H e = some (ExO C e (some dx) ar (some b))) (h2 : H dx = some (XdO dx [(fld, v)]))
    (r : ∀ l H2, Same H0 H2 → H0 l = none → H2 l = some (.lst [.str wd, v]) → D.rt (.ref l) H2) : thAs K C i (tRet (tLst (tCons (tC (.str wd)) (tCons (tExFld K (tVar i) fld) tNil)))) rest C e (some dx) ar b D σ H := by
  refine ⟨true, x.self, ?_⟩
  rw [if_pos rfl]
  refine ⟨.ref e, by simp [hi], e, C, dx, ar, some b, _, v, rfl, h1, h2, x.g, x.no, ?_, (by show 2 ≤ sizeLine; decide), fun l fl => ?_⟩
  · show ([(fld, v)] : List (Str × V)).lookup fld = some v
    rw [List.lookup_cons, beq_self_eq_true]
  · exact r l _ (S.trans (Same.upd fl)) (S.free fl) upd_same
end
end K12

set_option Elab.async false
set_option linter.all false
set_option maxRecDepth 100000
set_option maxHeartbeats 1000000
namespace K12
open PySem L2
def Put (ks gs : List Int) (k g : Int) (ks' gs' : List Int) : Prop := ∀ a b, (a, b) ∈ ks'.zip gs' ↔ (a = k ∧ b = g) ∨ (a ≠ k ∧ (a, b) ∈ ks.zip gs)
def spWith (K : PySem.W.Frag) (C cK cG cM : Addr) : Sp := fun vs H Q E => ∃ (x dx : Addr) (v g : V) (t t' : Value) (ks gs : List Int), vs = [.ref x, v, g] ∧ PgI C dx H x ks gs ∧ Thg K H v t ∧ Thg K H g t' ∧
  (keyV v = false → ∀ e H', H e = none → Same H H' → Err cK "found" v H' e → E (.ref e) none H') ∧
  (keyV v = true → keyV g = false → ∀ e H', H e = none → Same H H' → Err cG "found" g H' e → E (.ref e) none H') ∧
  (∀ k : Int, v = .int k → keyV v = true → keyV g = true → k ∉ ks → ks.length = 6 → ∀ e H', H e = none → Same H H' → Err cM "count" (.int 7) H' e → E (.ref e) none H') ∧
  (∀ k m : Int, v = .int k → g = .int m → keyV v = true → keyV g = true → (k ∈ ks ∨ ks.length ≠ 6) → ∀ H' y dy ks' gs', Same H H' → H y = none → PgI C dy H' y ks' gs' → Put ks gs k m ks' gs' → Q (.ref y) H')
structure ErrApart (K : PySem.W.Frag) (cK cG cM cL : Addr) : Prop where
  k1 : PySem.W.mroIn K cG (.ref cK) = some false
  k2 : PySem.W.mroIn K cM (.ref cK) = some false
  k3 : PySem.W.mroIn K cM (.ref cG) = some false
  k4 : PySem.W.mroIn K cL (.ref cK) = some false
  k5 : PySem.W.mroIn K cL (.ref cG) = some false
  k6 : PySem.W.mroIn K cL (.ref cM) = some false
section
variable {P : Program} {w : World} {K : PySem.W.Frag} {mg : Str → Option Value} {base : Heap}
abbrev s__law_told : Stmt := top 40
theorem sc__law_told : FnScope ["_law_page", "_law_word", "_law_key", "_law_good_here", "e"] ["_law_page", "_law_word", "_law_key", "_law_good_here"] (defScope s__law_told) := ⟨rfl, rfl, rfl, by decide +kernel, rfl, by decide +kernel, by decide +kernel⟩
def spTold (K : PySem.W.Frag) (C : Addr) : Sp := fun vs H Q _ => ∃ (x dx : Addr) (wd : Str) (v g : V) (t t' : Value) (ks gs : List Int), vs = [.ref x, .str wd, v, g] ∧ (wd = "with" ∨ wd = "without") ∧ PgI C dx H x ks gs ∧ Thg K H v t ∧ Thg K H g t' ∧
  (keyV v = false → ∀ l H', H l = none → Same H H' → H' l = some (.lst [.str "key", v]) → Q (.ref l) H') ∧
  (∀ k : Int, v = .int k → keyV v = true → wd = "without" → k ∉ ks → ∀ l H', H l = none → Same H H' → H' l = some (.lst [.str "lacks", v]) → Q (.ref l) H') ∧
  (keyV v = true → wd = "with" → keyV g = false → ∀ l H', H l = none → Same H H' → H' l = some (.lst [.str "good", g]) → Q (.ref l) H') ∧
  (∀ k : Int, v = .int k → keyV v = true → wd = "with" → keyV g = true → k ∉ ks → ks.length = 6 → ∀ l H', H l = none → Same H H' → H' l = some (.lst [.str "many", .int 7]) → Q (.ref l) H') ∧
  (∀ (k : Int) (j : Nat), v = .int k → wd = "without" → ks[j]? = some k → ∀ l H' y dy, H l = none → Same H H' → H' l = some (.lst [.str "page", .ref y]) → PgI C dy H' y (ks.eraseIdx j) (gs.eraseIdx j) → Q (.ref l) H') ∧
  (∀ k m : Int, v = .int k → g = .int m → wd = "with" → keyV v = true → keyV g = true → (k ∈ ks ∨ ks.length ≠ 6) → ∀ l H' y dy ks' gs', H l = none → Same H H' → H' l = some (.lst [.str "page", .ref y]) → PgI C dy H' y ks' gs' → Put ks gs k m ks' gs' → Q (.ref l) H')
theorem PgI.keep {C dx x : Addr} {H H' : Hp} {ks gs : List Int} (p : PgI C dx H x ks gs) (S : Same H H') : PgI C dx H' x ks gs := ⟨(let ⟨tk, tg, a, b, c⟩ := p.pg; ⟨tk, tg, S _ _ a, S _ _ b, S _ _ c⟩), p.len, p.few, p.up, p.ok⟩
theorem ok_told {C f fK fG cK cG cM cL TT fW fO fI1 fI2 fI3 fI4 : Addr} {fd fdW fdO fd1 fd2 fd3 fd4 : FuncData} (hd : ∃ f fd, Dn K mg "_law_told" "_law_told" s__law_told ["_law_page", "_law_word", "_law_key", "_law_good_here"] f fd) (T : Txt K mg) (X : KdN K mg "Leaf" "Leaf.__init__" (inClass (top 28) 0) C f fd fK fG)
    (xK : ErN K mg "NoKey" "NoKey.__init__" (inClass (top 3) 0) "found" cK TT fI1 fd1) (xG : ErN K mg "NoGood" "NoGood.__init__" (inClass (top 4) 0) "found" cG TT fI2 fd2) (xM : ErN K mg "TooMany" "TooMany.__init__" (inClass (top 7) 0) "count" cM TT fI3 fd3) (xL : ErN K mg "Lacks" "Lacks.__init__" (inClass (top 6) 0) "key" cL TT fI4 fd4) (xT : ExM K TT) (ap : ErrApart K cK cG cM cL)
    (mW : Meth K C "with_good" fW) (mO : Meth K C "without" fO) (bW : Binds K fdW ["self", "key", "good"] []) (bO : Binds K fdO ["self", "key"] [])
    (gW : FnOk P w K mg base (CXo P w) 12 fW fdW ["self", "key", "good"] (spWith K C cK cG cM)) (gO : FnOk P w K mg base (CXo P w) 10 fO fdO ["self", "key"] (spWithout K C cK cL)) :
    OkD P w K mg base "_law_told" s__law_told ["_law_page", "_law_word", "_law_key", "_law_good_here"] 14 (spTold K C) := by
  obtain ⟨f', fd', D⟩ := hd
  refine ⟨f', fd', D, D.fn.ok sc__law_told (fun vs H Q E h => ?_) (fun cdv A outer s H vs Q E hr h => ?_)⟩
  · obtain ⟨_, _, _, _, _, _, _, _, _, rfl, _⟩ := h
    rfl
  · obtain ⟨x, dx, wd, v, g, t, t', ks, gs, rfl, hwd, pg, th, th', b1, b2, b3, b4, b5, b6⟩ := h
    have sc := sc__law_told
    refine' ⟨_, pss_one (ps_try rfl rfl ?b0
      (phs_as (i := 4) (tb := tRet (tLst (tCons (tC (.str "key")) (tCons (tExFld K (tVar 4) "found") tNil)))) xK.xC rfl xK.mC sc.nd rfl rfl rfl ?s1
      (phs_as (i := 4) (tb := tRet (tLst (tCons (tC (.str "good")) (tCons (tExFld K (tVar 4) "found") tNil)))) xG.xC rfl xG.mC sc.nd rfl rfl rfl ?s2
      (phs_as (i := 4) (tb := tRet (tLst (tCons (tC (.str "many")) (tCons (tExFld K (tVar 4) "count") tNil)))) xM.xC rfl xM.mC sc.nd rfl rfl rfl ?s3
      (phs_as (i := 4) (tb := tRet (tLst (tCons (tC (.str "lacks")) (tCons (tExFld K (tVar 4) "key") tNil)))) xL.xC rfl xL.mC sc.nd rfl rfl rfl ?s4
      (phs_plain xT rfl xK.mT ?s5 phs_nil)))))), ?_⟩
    case s1 => exact fun e => pss_one (ps_ret (pe_lst (pa_c pe_str (pa_c (pe_exfld (pv 4) rfl) pa_nil))))
    case s2 => exact fun e => pss_one (ps_ret (pe_lst (pa_c pe_str (pa_c (pe_exfld (pv 4) rfl) pa_nil))))
    case s3 => exact fun e => pss_one (ps_ret (pe_lst (pa_c pe_str (pa_c (pe_exfld (pv 4) rfl) pa_nil))))
    case s4 => exact fun e => pss_one (ps_ret (pe_lst (pa_c pe_str (pa_c (pe_exfld (pv 4) rfl) pa_nil))))
    case s5 => exact fun e => pss_one (ps_ret (pe_lst (pa_c pe_str (pa_c pe_non pa_nil))))
    case b0 => exact (fun E ps xe hp => pss_cons (ps_if (pt_cmpR op_eq (pv 1) pe_str (nomark _)) (pss_one (ps_ret (pe_lst (pa_c pe_str (pa_c (pe_meth (pv 0) X.ins.cl mW gW (hr.mono (by decide)) bW .nil hp (pa_c (pv 2) (pa_c (pv 3) pa_nil))) pa_nil))))) pss_nil)
        (pss_one (ps_ret (pe_lst (pa_c pe_str (pa_c (pe_meth (pv 0) X.ins.cl mO gO (hr.mono (by decide)) bO .nil hp (pa_c (pv 2) pa_nil)) pa_nil))))))
    obtain ⟨tk, tg, hx, hk, hg⟩ := pg.pg
    refine ⟨_, rfl, rfl, _, rfl, ?_⟩
    rcases hwd with rfl | rfl
    · refine iteE (c := true) (decide_eq_true rfl) (iteT ?_)
      refine ⟨_, rfl, x, dx, _, rfl, hx, rfl, _, rfl, _, rfl, x, dx, v, g, t, t', ks, gs, rfl, pg, th, th', ?_, ?_, ?_, ?_⟩
      · exact fun c e H' he S r => caught_of he S r fun σ hσ dx ar b H2 S2 h1 h2 => th_hit xK (by rw [hσ]; show 4 < 5; decide) S2 h1 h2 fun l H3 S3 fl el => b1 c l H3 fl S3 el
      · exact fun c1 c2 e H' he S r => caught_of he S r fun σ hσ dx ar b H2 S2 h1 h2 => th_skip ap.k1 (th_hit xG (by rw [hσ]; show 4 < 5; decide) S2 h1 h2 fun l H3 S3 fl el => b3 c1 rfl c2 l H3 fl S3 el)
      · exact fun k ek c1 c2 nk l6 e H' he S r => caught_of he S r fun σ hσ dx ar b H2 S2 h1 h2 => th_skip ap.k2 (th_skip ap.k3 (th_hit xM (by rw [hσ]; show 4 < 5; decide) S2 h1 h2 fun l H3 S3 fl el => b4 k ek c1 rfl c2 nk l6 l H3 fl S3 el))
      · exact fun k m ek em c1 c2 o H' y dy ks' gs' S fy pg' pu => ⟨(by show 2 ≤ sizeLine; decide), fun l fl => b6 k m ek em rfl c1 c2 o l _ y dy ks' gs' (S.free fl) (S.trans (Same.upd fl)) upd_same (pg'.keep (Same.upd fl)) pu⟩
    · refine iteE (c := false) (by decide +kernel) (iteF ?_)
      refine ⟨_, rfl, x, dx, _, rfl, hx, rfl, _, rfl, x, dx, v, t, ks, gs, rfl, pg, th, ?_, ?_, ?_⟩
      · exact fun c e H' he S r => caught_of he S r fun σ hσ dx ar b H2 S2 h1 h2 => th_hit xK (by rw [hσ]; show 4 < 5; decide) S2 h1 h2 fun l H3 S3 fl el => b1 c l H3 fl S3 el
      · exact fun k ek c1 nk e H' he S r => caught_of he S r fun σ hσ dx ar b H2 S2 h1 h2 => th_skip ap.k4 (th_skip ap.k5 (th_skip ap.k6 (th_hit xL (by rw [hσ]; show 4 < 5; decide) S2 h1 h2 fun l H3 S3 fl el => b2 k ek c1 rfl nk l H3 fl S3 el)))
      · exact fun k j ek hj H' y dy S fy pg' => ⟨(by show 2 ≤ sizeLine; decide), fun l fl => b5 k j ek rfl hj l _ y dy (S.free fl) (S.trans (Same.upd fl)) upd_same (pg'.keep (Same.upd fl))⟩
end
end K12

set_option Elab.async false
set_option linter.all false
set_option maxRecDepth 100000
set_option maxHeartbeats 1000000
namespace K12
open PySem L2
theorem val_mem {kvs : List (Key × V)} {ks : List Int} (e : kvs.map (·.1) = ks.map Sum.inl) (k : Int) : (valV kvs (Sum.inl k)).isSome = decide (k ∈ ks) := by
  unfold valV
  rw [Option.isSome_map, Bool.eq_iff_iff, List.find?_isSome, decide_eq_true_iff]
  constructor
  · rintro ⟨kv, h1, h2⟩
    have h3 : kv.1 ∈ kvs.map (·.1) := List.mem_map.mpr ⟨kv, h1, rfl⟩
    rw [e, of_decide_eq_true h2] at h3
    obtain ⟨k', h4, h5⟩ := List.mem_map.mp h3
    cases h5
    exact h4
  · intro h
    have h3 : (Sum.inl k : Key) ∈ kvs.map (·.1) := by rw [e]; exact List.mem_map.mpr ⟨k, h, rfl⟩
    obtain ⟨kv, h4, h5⟩ := List.mem_map.mp h3
    exact ⟨kv, h4, decide_eq_true h5⟩
section
variable {P : Program} {w : World} {K : PySem.W.Frag} {mg : Str → Option Value} {base : Heap}
abbrev s__law_due : Stmt := top 39
theorem sc__law_due : FnScope ["_law_known", "_law_word", "_law_key", "_law_good_here"] ["_law_known", "_law_word", "_law_key", "_law_good_here"] (defScope s__law_due) := ⟨rfl, rfl, rfl, by decide +kernel, rfl, by decide +kernel, by decide +kernel⟩
def spDue (K : PySem.W.Frag) : Sp := fun vs H Q _ => ∃ (kd : Addr) (kvs : List (Key × V)) (ks : List Int) (wd : Str) (v g : V) (t t' : Value), vs = [.ref kd, .str wd, v, g] ∧ H kd = some (.dK kvs) ∧ kvs.map (·.1) = ks.map Sum.inl ∧ (wd = "with" ∨ wd = "without") ∧ Thg K H v t ∧ Thg K H g t' ∧
  (keyV v = false → ∀ l H', H l = none → Same H H' → H' l = some (.lst [.str "key", v]) → Q (.ref l) H') ∧
  (∀ k : Int, v = .int k → keyV v = true → wd = "without" → k ∉ ks → ∀ l H', H l = none → Same H H' → H' l = some (.lst [.str "lacks", v]) → Q (.ref l) H') ∧
  (keyV v = true → wd = "with" → keyV g = false → ∀ l H', H l = none → Same H H' → H' l = some (.lst [.str "good", g]) → Q (.ref l) H') ∧
  (∀ k : Int, v = .int k → keyV v = true → wd = "with" → keyV g = true → k ∉ ks → ks.length = 6 → ∀ l H', H l = none → Same H H' → H' l = some (.lst [.str "many", .int 7]) → Q (.ref l) H') ∧
  (∀ k : Int, v = .int k → keyV v = true → wd = "without" → k ∈ ks → Q .non H) ∧
  (∀ k : Int, v = .int k → keyV v = true → wd = "with" → keyV g = true → (k ∈ ks ∨ ks.length ≠ 6) → Q .non H)
theorem ok_due (hd : ∃ f fd, Dn K mg "_law_due" "_law_due" s__law_due ["_law_known", "_law_word", "_law_key", "_law_good_here"] f fd) (T : Txt K mg) (h1 : OkD P w K mg base "_law_is_number" s__law_is_number ["_law_thing"] 1 (spIsL K)) : OkD P w K mg base "_law_due" s__law_due ["_law_known", "_law_word", "_law_key", "_law_good_here"] 2 (spDue K) := by
  obtain ⟨f, fd, D⟩ := hd
  obtain ⟨f1, fd1, D1, G1⟩ := h1
  refine ⟨f, fd, D, D.fn.ok sc__law_due (fun vs H Q E h => ?_) (fun cdv A outer s H vs Q E hr h => ?_)⟩
  · obtain ⟨_, _, _, _, _, _, _, _, rfl, _⟩ := h
    rfl
  · obtain ⟨kd, kvs, ks, wd, v, g, t, t', rfl, hk, ek, hwd, th, th', b1, b2, b3, b4, b5, b6⟩ := h
    have hu := hu_of hr
    have ln : kvs.length = ks.length := by have := congrArg List.length ek; simpa using this
    refine' ⟨_, pss_cons (ps_if (pt_not (pt_val (pe_call G1 (hr.mono (by decide)) rfl D1.m D1.fn.kp D1.b .nil pass0 (pa_c (pv 2) pa_nil)))) (pss_one (ps_ret (pe_lst (pa_c pe_str (pa_c (pv 2) pa_nil))))) pss_nil)
      (pss_cons (ps_if (pt_cmpR op_eq (pv 1) pe_str (nomark _)) (pss_one (ps_ret (pe_ifExp (pt_cmpR (op_inD hu) (pv 2) (pv 0) rfl) pe_non (pe_lst (pa_c pe_str (pa_c (pv 2) pa_nil)))))) pss_nil)
      (pss_cons (ps_if (pt_not (pt_val (pe_call G1 (hr.mono (by decide)) rfl D1.m D1.fn.kp D1.b .nil pass0 (pa_c (pv 3) pa_nil)))) (pss_one (ps_ret (pe_lst (pa_c pe_str (pa_c (pv 3) pa_nil))))) pss_nil)
      (pss_one (ps_ret (pe_ifExp (PW.pt (pw_and (pt_cmpR (op_notInD hu) (pv 2) (pv 0) rfl) (pw_and1 (pt_cmpR op_eq (pe_callB call_lenD rfl T.n_len bt_len (pa_c (pv 0) pa_nil)) pe_int (nomark _))))) (pe_lst (pa_c pe_str (pa_c pe_int pa_nil))) pe_non))))), ?_⟩
    refine ⟨_, rfl, v, t, rfl, th, _, rfl, ?_⟩
    cases c1 : keyV v with
    | false => exact iteT ⟨_, rfl, (by show 2 ≤ sizeLine; decide), fun l fl => b1 c1 l _ fl (Same.upd fl) upd_same⟩
    | true =>
      obtain ⟨k, rfl, _, _⟩ := keyV_int c1
      have vm := val_mem ek k
      refine iteF ⟨_, rfl, rfl, _, rfl, ?_⟩
      rcases hwd with rfl | rfl
      · refine iteE (c := false) (by decide +kernel) (iteF ⟨_, rfl, g, t', rfl, th', _, rfl, ?_⟩)
        cases c2 : keyV g with
        | false => exact iteT ⟨_, rfl, (by show 2 ≤ sizeLine; decide), fun l fl => b3 c1 rfl c2 l _ fl (Same.upd fl) upd_same⟩
        | true =>
          refine iteF ⟨_, rfl, _, rfl, kd, _, rfl, DGet.k (k := Sum.inl k) hk, _, rfl, ?_⟩
          rw [vm]
          by_cases cm : k ∈ ks
          · rw [decide_eq_true cm]
            exact iteF (iteF (b6 k rfl c1 rfl c2 (.inl cm)))
          · rw [decide_eq_false cm]
            refine iteT ⟨_, rfl, kd, kvs, rfl, hk, rfl, _, rfl, ?_⟩
            by_cases c6 : ks.length = 6
            · refine iteE (c := true) (decide_eq_true (by rw [ln, c6]; rfl)) (iteT ⟨(by show 2 ≤ sizeLine; decide), fun l fl => b4 k rfl c1 rfl c2 cm c6 l _ fl (Same.upd fl) upd_same⟩)
            · refine iteE (c := false) (decide_eq_false (fun z => c6 ?_)) (iteF (b6 k rfl c1 rfl c2 (.inr c6)))
              injection z with z
              omega
      · refine iteE (c := true) (decide_eq_true rfl) (iteT ⟨_, rfl, _, rfl, kd, _, rfl, DGet.k (k := Sum.inl k) hk, _, rfl, ?_⟩)
        rw [vm]
        by_cases cm : k ∈ ks
        · rw [decide_eq_true cm]
          exact iteT (b5 k rfl c1 rfl cm)
        · rw [decide_eq_false cm]
          exact iteF ⟨_, rfl, (by show 2 ≤ sizeLine; decide), fun l fl => b2 k rfl c1 rfl cm l _ fl (Same.upd fl) upd_same⟩
end
end K12

set_option Elab.async false
set_option linter.all false
set_option maxRecDepth 100000
set_option maxHeartbeats 1000000
namespace K12
open PySem L2
theorem sorted_eq : ∀ {a b : List Int}, a.Perm b → a.Pairwise (· ≤ ·) → b.Pairwise (· ≤ ·) → a = b
  | [], b, h, _, _ => h.nil_eq
  | x :: a, [], h, _, _ => nomatch h.eq_nil
  | x :: a, y :: b, h, ha, hb => by
    have h1 : x ≤ y := by
      have := h.symm.subset (List.mem_cons_self ..)
      rcases List.mem_cons.mp this with e | m
      · omega
      · exact (List.pairwise_cons.mp ha).1 y m
    have h2 : y ≤ x := by
      have := h.subset (List.mem_cons_self ..)
      rcases List.mem_cons.mp this with e | m
      · omega
      · exact (List.pairwise_cons.mp hb).1 x m
    have e : x = y := by omega
    subst e
    rw [sorted_eq (List.perm_cons x |>.mp h) (List.pairwise_cons.mp ha).2 (List.pairwise_cons.mp hb).2]
def Knows (kvs : List (Key × V)) (ks gs : List Int) : Prop := (∃ ks0 : List Int, kvs.map (·.1) = ks0.map Sum.inl ∧ ks0.Perm ks) ∧ ∀ (j : Nat) (k g : Int), ks[j]? = some k → gs[j]? = some g → valV kvs (Sum.inl k) = some (.int g)
theorem Up.le {ks : List Int} (h : Up ks) : ks.Pairwise (· ≤ ·) := h.1.imp fun h => Int.le_of_lt h
end K12

set_option Elab.async false
set_option linter.all false
set_option maxRecDepth 100000
set_option maxHeartbeats 1000000
namespace K12
open PySem L2
theorem bt_sorted : bootBuiltins "sorted" = some (.builtin "sorted") := by decide +kernel
theorem smalls_row : ∀ {ds : List PyData}, (∀ d ∈ ds, Small d) → PyData.showableAll ds = true ∧ PyData.leavesShortAll 40 ds = true ∧ PyData.depthAll ds ≤ 2 ∧ PyData.weightAll ds ≤ 151 * ds.length
  | [], _ => ⟨rfl, rfl, by simp [PyData.depthAll], by simp [PyData.weightAll]⟩
  | d :: ds, h => by
    obtain ⟨a, b, c, e⟩ := smalls_row fun y hy => h y (List.mem_cons_of_mem _ hy)
    have s := h d (List.mem_cons_self ..)
    refine ⟨?_, ?_, ?_, ?_⟩
    · simp only [PyData.showableAll, s.ok.sh, a, Bool.and_self]
    · simp only [PyData.leavesShortAll, s.ok.lv, b, Bool.and_self]
    · simp only [PyData.depthAll]
      have := s.dp
      omega
    · simp only [PyData.weightAll, List.length_cons]
      have := s.ok.wt
      omega
theorem okd_ints {gs : List Int} (h : ∀ g ∈ gs, -999999999 ≤ g ∧ g ≤ 999999999) (hz : gs.length ≤ 6) : Okd 100000 (.list (gs.map PyData.int)) := by
  obtain ⟨a, b, c, e⟩ := smalls_row (ds := gs.map PyData.int) fun d hd => by
    obtain ⟨g, hg, rfl⟩ := List.mem_map.mp hd
    have := h g hg
    exact small_int (by omega)
  rw [List.length_map] at e
  refine ⟨a, b, ?_, ?_⟩
  · simp only [PyData.depth]; omega
  · simp only [PyData.weight]; omega
theorem plain_ints {ns : List Int} : (ns.map V.int).all plainV = true := by
  rw [List.all_eq_true]
  intro y hy
  obtain ⟨j, _, rfl⟩ := List.mem_map.mp hy
  rfl
def getV (kvs : List (Key × V)) : V → V
  | .int k => (valV kvs (Sum.inl k)).getD .non
  | _ => .non
theorem get_all {kvs : List (Key × V)} {ks gs : List Int} (kn : ∀ (j : Nat) (k g : Int), ks[j]? = some k → gs[j]? = some g → valV kvs (Sum.inl k) = some (.int g)) (hl : gs.length = ks.length) : ((ks.map V.int).filter fun _ => true).map (getV kvs) = gs.map V.int := by
  rw [List.filter_eq_self.mpr fun _ _ => rfl, List.map_map]
  refine List.ext_getElem (by simp [hl]) fun j h1 h2 => ?_
  simp only [List.length_map] at h1 h2
  simp only [List.getElem_map, Function.comp_apply, getV]
  rw [kn j ks[j] gs[j] (by simp [h1]) (by simp [h2])]
  rfl
section
variable {P : Program} {w : World} {K : PySem.W.Frag} {mg : Str → Option Value} {base : Heap}
abbrev s__law_stands : Stmt := top 41
theorem sc__law_stands : FnScope ["_law_page", "_law_known", "_law_keys_here"] ["_law_page", "_law_known"] (defScope s__law_stands) := ⟨rfl, rfl, rfl, by decide +kernel, rfl, by decide +kernel, by decide +kernel⟩
def spStands (C : Addr) : Sp := fun vs H Q _ => ∃ (x dx kd : Addr) (kvs : List (Key × V)) (ks gs : List Int), vs = [.ref x, .ref kd] ∧ PgI C dx H x ks gs ∧ H kd = some (.dK kvs) ∧ Knows kvs ks gs ∧ ∀ H', Same H H' → Q (.bl true) H'
theorem ok_stands {C f fK fG : Addr} {fd fdK fdG : FuncData} (hd : ∃ f fd, Dn K mg "_law_stands" "_law_stands" s__law_stands ["_law_page", "_law_known"] f fd) (T : Txt K mg) (X : KdN K mg "Leaf" "Leaf.__init__" (inClass (top 28) 0) C f fd fK fG) (kk : PySem.W.kitOne K (.ref C) (.ref C) = some true)
    (gK : FnOk P w K mg base CX0 1 fK fdK ["self"] (spRow C true)) (gG : FnOk P w K mg base CX0 1 fG fdG ["self"] (spRow C false)) (bK : Binds K fdK ["self"] []) (bG : Binds K fdG ["self"] []) : OkD P w K mg base "_law_stands" s__law_stands ["_law_page", "_law_known"] 2 (spStands C) := by
  obtain ⟨f1, fd1, D⟩ := hd
  refine ⟨f1, fd1, D, D.fn.ok sc__law_stands (fun vs H Q E h => ?_) (fun cdv A outer s H vs Q E hr h => ?_)⟩
  · obtain ⟨_, _, _, _, _, _, rfl, _⟩ := h
    rfl
  · obtain ⟨x, dx, kd, kvs, ks, gs, rfl, pg, hk, kn, k⟩ := h
    have sc := sc__law_stands
    have hu := hr.units0
    refine' ⟨_, pss_cons (ps_set (i := 2) sc.nd rfl (Or.inl rfl) (pe_callB (call_sortD hr.hd) rfl T.n_sorted bt_sorted (pa_c (pv 1) pa_nil)))
      (pss_cons (ps_if (PW.pt (pw_or (pt_not (pt_val (pe_callB call_instO rfl T.n_isinstance bt_isinstance (pa_c (pv 0) (pa_c (pe_glob (v := .ref C) rfl X.m rfl) pa_nil))))) (pw_or1 (pt_cmpR (op_neL hu) (pe_meth0 (pv 0) X.ins.cl X.k gK (hr.mono (by decide)) bK .nil pass0) (pv 2) (nomark _))))) (pss_one (ps_ret pe_bl)) pss_nil)
      (pss_one (ps_ret (pe_cmpR op_eq (pe_callB (call_reprD hr.gd hr.units) rfl T.n_repr bt_repr (pa_c (pe_meth0 (pv 0) X.ins.cl X.g gG (hr.mono (by decide)) bG .nil pass0) pa_nil))
        (pe_callB (call_reprD hr.gd hr.units) rfl T.n_repr bt_repr (pa_c (pe_comp (blk_mk ["_law_known"] [1]) rfl (pi_list (pv 2)) (fun _ _ _ _ _ => PTs.nil) (fun _ _ _ _ _ => pe_dget (hu_of hr) (pv 1) (pv 0) (fun _ _ => rfl))) pa_nil)) (nomark _))))), ?_⟩
    obtain ⟨ks0, e0, pm⟩ := kn.1
    have l0 := pm.length_eq
    have fw := pg.few
    refine ⟨_, rfl, kd, kvs, ks0, rfl, .inl hk, e0, by omega, fun ns p1 p2 l fl => ?_⟩
    have en : ns = ks := sorted_eq (p1.trans pm) p2 pg.up.le
    subst en
    have S1 := Same.upd (o := .lst (ns.map V.int)) fl
    have el := upd_same (H := H) (a := l) (o := .lst (ns.map V.int))
    have pg1 := pg.keep S1
    have hk1 := S1 _ _ hk
    generalize upd H l (.lst (ns.map V.int)) = H1 at *
    obtain ⟨tk, tg, hx, hkr, hgr⟩ := pg1.pg
    refine ⟨_, rfl, x, C, C, dx, _, true, rfl, hx, X.ins, kk, _, rfl, iteF ?_⟩
    refine ⟨_, rfl, x, dx, _, rfl, hx, rfl, x, dx, _, _, rfl, pg1.pg, fun l2 f2 => ?_⟩
    have S2 := Same.upd (o := .lst (if true = true then ns.map V.int else gs.map V.int)) f2
    refine ⟨_, rfl, _, _, _, _, rfl, rfl, SqL.of upd_same, SqL.of (S2 _ _ el), okPs_self plain_ints, _, rfl, iteE (c := false) (by rw [if_pos rfl]; show (!eqPs (ns.map V.int) (ns.map V.int)) = false; rw [eqPs_self]; rfl) (iteF ?_)⟩
    have pg2 := pg1.keep S2
    have hk2 := S2 _ _ hk1
    have el2 := S2 _ _ el
    have S02 := S1.trans S2
    generalize upd H1 l2 _ = H2 at *
    obtain ⟨tk2, tg2, hx2, hkr2, hgr2⟩ := pg2.pg
    refine ⟨_, rfl, x, dx, _, rfl, hx2, rfl, x, dx, _, _, rfl, pg2.pg, fun l3 f3 => ?_⟩
    have S3 := Same.upd (o := .lst (if false = true then ns.map V.int else gs.map V.int)) f3
    have ok := okd_ints pg.ok (by have := pg.len; omega)
    refine ⟨.ref l3, fun _ => False, .list (gs.map PyData.int), rfl, .lst (fun z => z) upd_same (dvs_ints gs), ok, ?_⟩
    have el3 := S3 _ _ el2
    have hk3 := S3 _ _ hk2
    have S03 := S02.trans S3
    generalize upd H2 l3 _ = H3 at *
    have ra : RowAt false H3 l (ns.map V.int) := el3
    refine tcb1 (comp_f (ns.map V.int) (fun _ => true) (getV kvs) (J := ItB K false l) (H1 := H3) (fun R r => ⟨_, rfl, l, rfl, ⟨_, SqL.of el3⟩, r⟩) (it_row ra) (fun y hy H4 R S r => r H4 (Same.refl _)) ?_ (by rw [List.length_map]; omega) ?_)
    · intro y hy _ H4 R S4 r
      obtain ⟨k', hk', rfl⟩ := List.mem_map.mp hy
      obtain ⟨j, hj⟩ := List.getElem?_of_mem hk'
      have jl : j < gs.length := by rw [pg.len]; exact (List.getElem?_eq_some_iff.mp hj).1
      have ev := kn.2 j k' gs[j] hj (List.getElem?_eq_getElem jl)
      have dg := DGet.k (k := Sum.inl k') (S4 _ _ hk3)
      rw [ev] at dg
      have r' := r H4 (Same.refl _)
      simp only [getV, ev, Option.getD_some] at r'
      exact ⟨_, rfl, _, rfl, kd, _, rfl, dg, r'⟩
    · intro d H4 f4 S4 e4
      rw [get_all kn.2 pg.len] at e4
      refine ⟨.ref d, fun _ => False, .list (gs.map PyData.int), rfl, .lst (fun z => z) e4 (dvs_ints gs), ok, rfl, ?_⟩
      rw [decide_eq_true rfl]
      exact k H4 (S03.trans S4)
end
end K12

set_option Elab.async false
set_option linter.all false
set_option maxRecDepth 100000
set_option maxHeartbeats 2000000
namespace K12
open PySem L2
section
variable {P : Program} {w : World} {K : PySem.W.Frag} {mg : Str → Option Value} {base : Heap}
def spKeysU : Sp := fun vs H Q _ => ∃ (p : Addr) (m : Int) (n : Nat), vs = [.ref p, .int m] ∧ Box H p n ∧ n ≤ 950000 ∧ 0 ≤ m ∧ m ≤ 6 ∧
  ∀ (l : Addr) (H' : Hp) (ns : List Int), H l = none → l ≠ p → H' l = some (.lst (ns.map V.int)) → (ns.length : Int) = m → Up ns → Box H' p (n + 10) → KB p H H' → Q (.ref l) H'
theorem ok_keysU (hd : ∃ f fd, Dn K mg "_law_keys" "_law_keys" s__law_keys ["_law_box_here", "_law_many"] f fd) (T : Txt K mg) (h1 : OkD P w K mg base "_law_take" s__law_take ["_law_box_here", "_law_many"] 1 spTake) :
    OkD P w K mg base "_law_keys" s__law_keys ["_law_box_here", "_law_many"] 3 spKeysU := by
  obtain ⟨f, fd, D⟩ := hd
  obtain ⟨f1, fd1, D_law_take, G_law_take⟩ := h1
  refine ⟨f, fd, D, D.fn.ok sc__law_keys (fun vs H Q E h => ?_) (fun cdv A outer s H vs Q E hr h => ?_)⟩
  · obtain ⟨_, _, _, rfl, _⟩ := h
    rfl
  · obtain ⟨p, m, n, rfl, B, hn, m0, m1, k⟩ := h
    have sc := sc__law_keys
    refine ⟨_, (pss_cons (ps_set (i := 2) sc.nd rfl (Or.inl rfl) (pe_call G_law_take (hr.mono (by decide)) rfl D_law_take.m D_law_take.fn.kp D_law_take.b .nil pass0 (pa_c (pv 0) (pa_c pe_int pa_nil))))
    (pss_cons (ps_set (i := 3) sc.nd rfl (Or.inl rfl) (pe_ix ix_list (pe_lst (pa_c pe_int (pa_c pe_int (pa_c pe_int (pa_c (pe_op op_mul pe_int (pe_op op_pow pe_int pe_int)) pa_nil))))) (pe_call G_law_take (hr.mono (by decide)) rfl D_law_take.m D_law_take.fn.kp D_law_take.b .nil pass0 (pa_c (pv 0) (pa_c pe_int pa_nil))) (fun _ _ => rfl)))
    (pss_cons (ps_set (i := 4) sc.nd rfl (Or.inl rfl) (pe_op op_sub (pe_call G_law_take (hr.mono (by decide)) rfl D_law_take.m D_law_take.fn.kp D_law_take.b .nil pass0 (pa_c (pv 0) (pa_c pe_int pa_nil))) pe_int))
    (pss_cons (ps_if (pt_cmpR op_eq (pv 2) pe_int (nomark _))
      (pss_one (ps_set (i := 4) sc.nd rfl (Or.inl rfl) (pe_un un_neg (pe_op op_pow pe_int pe_int))))
      pss_nil)
    (pss_cons (ps_if (pt_cmpR op_eq (pv 2) pe_int (nomark _))
      (pss_one (ps_set (i := 4) sc.nd rfl (Or.inl rfl) (pe_op op_sub (pe_op op_sub (pe_op op_pow pe_int pe_int) pe_int) (pe_op op_mul (pv 1) (pv 3)))))
      pss_nil)
    (pss_cons (ps_set (i := 5) sc.nd rfl (Or.inl rfl) (pe_lst pa_nil))
    (pss_cons (ps_for PassesOwn.never rfl (pi_range1 rfl T.n_range (pa_c (pv 1) pa_nil)) (pg_name (i := 6) sc.nd rfl (Or.inl rfl))
      (pss_cons (ps_set (i := 4) sc.nd rfl (Or.inl rfl) (pe_op op_add (pe_op op_add (pv 4) pe_int) (pe_call G_law_take (hr.mono (by decide)) rfl D_law_take.m D_law_take.fn.kp D_law_take.b .nil pass0 (pa_c (pv 0) (pa_c (pv 3) pa_nil)))))
    (pss_one (ps_expr (pe_bm PySem.F.plainAttrs_list PySem.F.slot_list_append PySem.F.type_list_append mt_append (pv 5) (pa_c (pv 4) pa_nil))))))
    (pss_one (ps_ret (pv 5)))))))))), ?_⟩
    refine ⟨_, rfl, p, 4, n, rfl, B, by omega, by decide, by decide, fun way H1 a0 a1 B1 k1 => ?_⟩
    refine ⟨_, _, rfl, rfl, cp (by decide) (by decide), _, _, rfl, rfl, .inl ⟨by decide, by decide⟩, (by show 4 ≤ sizeLine; decide), fun l0 f0 => ?_⟩
    refine ⟨_, rfl, p, 4, n + 1, rfl, B1.upd f0, by omega, by decide, by decide, fun r2 H2 b0 b1 B2 k2 => ?_⟩
    obtain ⟨st, hst, e⟩ := atI_ints (ns := [1, 2, 5, 5 * 10 ^ (7 : Int).toNat]) (r := r2) b0 (by show r2 < 4; exact b1)
    have s0 : 0 < st ∧ st ≤ 50000000 := by
      have e7 : (10 : Int) ^ (7 : Int).toNat = 10000000 := by decide +kernel
      rw [e7] at hst
      simp only [List.mem_cons, List.not_mem_nil, or_false] at hst
      omega
    refine ⟨_, _, _, _, rfl, rfl, SqL.of (k2 l0 _ upd_same (B1.ne (H1 := H1) f0)), e, ?_⟩
    refine ⟨_, rfl, p, 60, n + 2, rfl, B2, by omega, by decide, by decide, fun r3 H3 c0 c1 B3 k3 => ⟨_, _, rfl, rfl, ?_⟩⟩
    have K3 : KB p H H3 := ((k1.updN f0).trans k2).trans k3
    have e9 : (10 : Int) ^ (9 : Int).toNat = 1000000000 := by decide +kernel
    have ms := mul7 m0 (by omega) (Int.le_of_lt s0.1) s0.2
    refine ⟨_, rfl, rfl, _, rfl, ite2 (fun _ => ⟨_, _, rfl, rfl, cp (by decide) (by decide), _, rfl, _, rfl, rfl, _, rfl, ite2 (fun _ => ⟨_, _, rfl, rfl, cp (by decide) (by decide), _, _, rfl, rfl, _, rfl, _, rfl, _, _, rfl, rfl, .inl ⟨by omega, by omega⟩, _, _, rfl, rfl, ?_⟩) (fun _ => ?_)⟩) (fun _ => ⟨_, rfl, rfl, _, rfl, ite2 (fun _ => ⟨_, _, rfl, rfl, cp (by decide) (by decide), _, _, rfl, rfl, _, rfl, _, rfl, _, _, rfl, rfl, .inl ⟨by omega, by omega⟩, _, _, rfl, rfl, ?_⟩) (fun _ => ?_)⟩)⟩
    all_goals (
      refine ⟨(by show 0 ≤ sizeLine; decide), fun l fl => ?_⟩
      have nl : l ≠ p := B3.ne (H1 := H3) fl
      have fl' : H l = none := (kb_free K3 B3 fl).1
      refine ⟨_, rfl, m, rfl, by omega, by omega, for_range (fun i σ H4 => ∃ (x : Int) (o : Option V) (ns : List Int) (xs : Int), σ = [some (.ref p), some (.int m), some (.int way), some (.int st), some (.int x), some (.ref l), o] ∧ -1000000000 ≤ xs ∧ xs + m * st ≤ 999999999 ∧ xs ≤ x ∧ x ≤ xs + (i : Int) * st ∧ (∀ z ∈ ns, xs < z ∧ z ≤ x) ∧ ns.Pairwise (· < ·) ∧ Box H4 p (n + 3 + i) ∧ KB p H H4 ∧ ns.length = i ∧ H4 l = some (.lst (ns.map V.int))) ⟨_, none, [], _, rfl, by omega, by omega, Int.le_refl _, by omega, (fun z h => absurd h (by simp)), List.Pairwise.nil, B3.upd fl, fun b u z nb => by rw [upd_ne (fun e => by rw [e, fl'] at z; cases z)]; exact K3 b u z nb, rfl, upd_same⟩ ?_ ?_⟩
      · rintro i σ H4 hi ⟨x, o, ns, xs, rfl, x0, x1, x2, x3, z4, w4, B4, k4, l4, e4⟩
        refine ⟨_, rfl, _, _, rfl, rfl, _, rfl, _, rfl, p, st, n + 3 + i, rfl, B4, by omega, s0.1, by omega, fun r5 H5 d0 d1 B5 k5 => ⟨_, _, rfl, rfl, ?_⟩⟩
        have e5 : H5 l = some (.lst (ns.map V.int)) := k5 l _ e4 nl
        have mul : ((i + 1 : Nat) : Int) * st = (i : Int) * st + st := by rw [show ((i + 1 : Nat) : Int) = (i : Int) + 1 by omega, Int.add_mul, Int.one_mul]
        refine ⟨_, rfl, .inl ⟨rfl, _, SqL.of e5⟩, _, rfl, l, _, _, rfl, rfl, e5, (by rw [List.length_map]; have := big1000; omega), _, _, ns ++ [x + 1 + r5], xs, rfl, x0, x1, by omega, by rw [mul]; omega, ?_, ?_, ?_, ?_, by simp [l4], by rw [upd_same]; simp⟩
        · intro z hz
          rcases List.mem_append.mp hz with hz | hz
          · have := z4 z hz; omega
          · rw [List.mem_singleton.mp hz]; omega
        · rw [List.pairwise_append]
          refine ⟨w4, List.pairwise_singleton .., fun a ha b hb => ?_⟩
          have := z4 a ha
          rw [List.mem_singleton.mp hb]
          omega
        · exact (box_updQ B5 nl).mono (by omega)
        · exact fun b u z nb => by rw [upd_ne (fun e => by rw [e, fl'] at z; cases z)]; exact k5 _ _ (k4 b u z nb) nb
      · rintro σ H4 ⟨x, o, ns, xs, rfl, x0, x1, x2, x3, z4, w4, B4, k4, l4, e4⟩
        have em : ((m.toNat : Nat) : Int) * st = m * st := by rw [Int.toNat_of_nonneg m0]
        rw [em] at x3
        exact ⟨_, rfl, k l H4 ns fl' nl e4 (by omega) ⟨w4, fun z hz => by have := z4 z hz; omega⟩ (B4.mono (by omega)) k4⟩)
end
end K12

set_option Elab.async false
set_option linter.all false
set_option maxRecDepth 100000
set_option maxHeartbeats 1000000
namespace K12
open PySem L2
theorem nodup_perm {a b : List Int} (ha : a.Nodup) (hb : b.Nodup) (h : ∀ x, x ∈ a ↔ x ∈ b) : a.Perm b :=
  List.perm_iff_count.mpr fun x => by
    rw [ha.count, hb.count]
    by_cases q : x ∈ a
    · rw [if_pos q, if_pos ((h x).mp q)]
    · rw [if_neg q, if_neg fun z => q ((h x).mpr z)]
theorem Up.nd {ks : List Int} (h : Up ks) : ks.Nodup := h.1.imp fun h => Int.ne_of_lt h
theorem inl_keys {ks : List Int} {kvs : List (Key × V)} (e : kvs.map (·.1) = ks.map Sum.inl) (k : Int) : (Sum.inl k : Key) ∈ kvs.map (·.1) ↔ k ∈ ks := by
  rw [e]
  constructor
  · intro h
    obtain ⟨a, h1, h2⟩ := List.mem_map.mp h
    cases h2
    exact h1
  · exact fun h => List.mem_map.mpr ⟨k, h, rfl⟩
theorem mem_zip_ix {ks gs : List Int} {a b : Int} : (a, b) ∈ ks.zip gs ↔ ∃ j : Nat, ks[j]? = some a ∧ gs[j]? = some b := by
  rw [List.mem_iff_getElem?]
  constructor
  · rintro ⟨j, h⟩
    exact ⟨j, List.getElem?_zip_eq_some.mp h⟩
  · rintro ⟨j, h⟩
    exact ⟨j, List.getElem?_zip_eq_some.mpr h⟩
theorem mem_ix {ks gs : List Int} (hl : gs.length = ks.length) {a : Int} (h : a ∈ ks) : ∃ b, (a, b) ∈ ks.zip gs := by
  obtain ⟨j, hj⟩ := List.getElem?_of_mem h
  have jl : j < gs.length := by rw [hl]; exact (List.getElem?_eq_some_iff.mp hj).1
  exact ⟨gs[j], mem_zip_ix.mpr ⟨j, hj, List.getElem?_eq_getElem jl⟩⟩
theorem zip_fst {ks gs : List Int} {a b : Int} (h : (a, b) ∈ ks.zip gs) : a ∈ ks := (List.of_mem_zip h).1
theorem knows_iff {kvs : List (Key × V)} {ks gs : List Int} (kn : Knows kvs ks gs) (hl : gs.length = ks.length) (a b : Int) : valV kvs (Sum.inl a) = some (.int b) ↔ (a, b) ∈ ks.zip gs := by
  constructor
  · intro h
    obtain ⟨ks0, e0, pm⟩ := kn.1
    have m : a ∈ ks := pm.mem_iff.mp ((inl_keys e0 a).mp (valV_in h))
    obtain ⟨b', hb⟩ := mem_ix hl m
    obtain ⟨j, h1, h2⟩ := mem_zip_ix.mp hb
    rw [kn.2 j a b' h1 h2] at h
    cases h
    exact hb
  · intro h
    obtain ⟨j, h1, h2⟩ := mem_zip_ix.mp h
    exact kn.2 j a b h1 h2
theorem pairs_get : ∀ {ks gs : List Int}, ks.Nodup → ∀ (j : Nat) (k g : Int), ks[j]? = some k → gs[j]? = some g → valV ((ks.map (Sum.inl : Int → Key)).zip (gs.map V.int)) (Sum.inl k) = some (.int g)
  | [], _, _, _, _, _, h, _ => by simp at h
  | _ :: _, [], _, _, _, _, _, h => by simp at h
  | x :: ks, y :: gs, nd, 0, k, g, h1, h2 => by
    cases h1
    cases h2
    exact valV_pos rfl
  | x :: ks, y :: gs, nd, j + 1, k, g, h1, h2 => by
    rw [List.getElem?_cons_succ] at h1 h2
    have ne : x ≠ k := fun e => (List.nodup_cons.mp nd).1 (e ▸ List.mem_of_getElem? h1)
    rw [List.map_cons, List.map_cons, List.zip_cons_cons, valV_neg (by intro e; cases e; exact ne rfl)]
    exact pairs_get (List.nodup_cons.mp nd).2 j k g h1 h2
theorem knows_zip {ks gs : List Int} (nd : ks.Nodup) (hl : gs.length = ks.length) : Knows ((ks.map (Sum.inl : Int → Key)).zip (gs.map V.int)) ks gs := by
  refine ⟨⟨ks, List.map_fst_zip (by simp [hl]), List.Perm.refl _⟩, pairs_get nd⟩
theorem keys_put {kvs : List (Key × V)} {ks0 : List Int} (e0 : kvs.map (·.1) = ks0.map Sum.inl) (k : Int) (v : V) : (putK kvs (Sum.inl k) v).map (·.1) = (if k ∈ ks0 then ks0 else ks0 ++ [k]).map Sum.inl := by
  unfold putK
  by_cases h : k ∈ ks0
  · have : (kvs.any fun kv => decide (kv.1 = Sum.inl k)) = true := by
      rw [valV_any, val_mem e0, decide_eq_true h]
    rw [if_pos this, if_pos h, ← e0, List.map_map]
    refine List.map_congr_left fun kv _ => ?_
    show (if kv.1 = Sum.inl k then (kv.1, v) else kv).1 = kv.1
    split <;> rfl
  · have : ¬ (kvs.any fun kv => decide (kv.1 = Sum.inl k)) = true := by
      rw [valV_any, val_mem e0, decide_eq_false h]; exact Bool.false_ne_true
    rw [if_neg this, if_neg h, List.map_append, e0, List.map_append]
    rfl
theorem mem_put {ks0 : List Int} {k a : Int} : a ∈ (if k ∈ ks0 then ks0 else ks0 ++ [k]) ↔ a = k ∨ a ∈ ks0 := by
  split
  · constructor
    · exact .inr
    · rintro (rfl | h)
      · assumption
      · exact h
  · rw [List.mem_append, List.mem_singleton]
    exact Or.comm
theorem nd_put {ks0 : List Int} {k : Int} (h : ks0.Nodup) : (if k ∈ ks0 then ks0 else ks0 ++ [k]).Nodup := by
  split
  · exact h
  · rename_i q
    rw [List.nodup_append]
    refine ⟨h, by simp, fun a ha b hb => ?_⟩
    rw [List.mem_singleton.mp hb]
    exact fun e => q (e ▸ ha)
theorem len_put {ks0 : List Int} {k : Int} : (if k ∈ ks0 then ks0 else ks0 ++ [k]).length = if k ∈ ks0 then ks0.length else ks0.length + 1 := by
  split <;> simp
theorem put_mem {ks gs ks' gs' : List Int} {k m : Int} (pu : Put ks gs k m ks' gs') (hl : gs.length = ks.length) (hl' : gs'.length = ks'.length) (a : Int) : a ∈ ks' ↔ a = k ∨ a ∈ ks := by
  constructor
  · intro h
    obtain ⟨b, hb⟩ := mem_ix hl' h
    rcases (pu a b).mp hb with ⟨e, _⟩ | ⟨_, z⟩
    · exact .inl e
    · exact .inr (zip_fst z)
  · intro h
    by_cases e : a = k
    · exact zip_fst ((pu a m).mpr (.inl ⟨e, rfl⟩))
    · rcases h with h | h
      · exact absurd h e
      · obtain ⟨b, hb⟩ := mem_ix hl h
        exact zip_fst ((pu a b).mpr (.inr ⟨e, hb⟩))
theorem knows_put {kvs : List (Key × V)} {ks gs ks' gs' : List Int} {k m : Int} (kn : Knows kvs ks gs) (u : Up ks) (u' : Up ks') (hl : gs.length = ks.length) (hl' : gs'.length = ks'.length) (pu : Put ks gs k m ks' gs') : Knows (putK kvs (Sum.inl k) (.int m)) ks' gs' := by
  obtain ⟨ks0, e0, pm⟩ := kn.1
  refine ⟨⟨_, keys_put e0 k (.int m), nodup_perm (nd_put (pm.nodup_iff.mpr u.nd)) u'.nd fun a => ?_⟩, fun j a b h1 h2 => ?_⟩
  · rw [mem_put, put_mem pu hl hl', pm.mem_iff]
  · rw [valV_put]
    rcases (pu a b).mp (mem_zip_ix.mpr ⟨j, h1, h2⟩) with ⟨rfl, rfl⟩ | ⟨ne, z⟩
    · rw [if_pos rfl]
    · rw [if_neg (by intro e; cases e; exact ne rfl)]
      exact (knows_iff kn hl a b).mpr z
theorem knows_drop {kvs : List (Key × V)} {ks gs : List Int} {k : Int} {j : Nat} (kn : Knows kvs ks gs) (u : Up ks) (hl : gs.length = ks.length) (hj : ks[j]? = some k) : Knows (dropK kvs (Sum.inl k)) (ks.eraseIdx j) (gs.eraseIdx j) := by
  obtain ⟨ks0, e0, pm⟩ := kn.1
  obtain ⟨jl, ej⟩ := List.getElem?_eq_some_iff.mp hj
  have mem : ∀ a, a ∈ ks.eraseIdx j ↔ a ∈ ks ∧ a ≠ k := fun a => by
    rw [List.mem_eraseIdx_iff_getElem?]
    constructor
    · rintro ⟨i, ne, h⟩
      refine ⟨List.mem_of_getElem? h, fun e => ne ?_⟩
      obtain ⟨il, ei⟩ := List.getElem?_eq_some_iff.mp h
      exact (List.getElem?_inj il u.nd).mp (by rw [h, hj, e])
    · rintro ⟨h, ne⟩
      obtain ⟨i, hi⟩ := List.getElem?_of_mem h
      refine ⟨i, fun e => ne ?_, hi⟩
      rw [e, hj] at hi
      cases hi
      rfl
  have ek : (dropK kvs (Sum.inl k)).map (·.1) = (ks0.filter fun a => decide (a ≠ k)).map Sum.inl := by
    clear kn pm
    unfold dropK
    induction kvs generalizing ks0 with
    | nil =>
      cases ks0 with
      | nil => rfl
      | cons _ _ => cases e0
    | cons p r ih =>
      cases ks0 with
      | nil => cases e0
      | cons a r0 =>
        rw [List.map_cons, List.map_cons] at e0
        injection e0 with q1 q2
        rw [List.filter_cons, List.filter_cons]
        by_cases e : a = k
        · rw [if_neg (by rw [q1, e]; simp), if_neg (by simp [e])]
          exact ih r0 q2
        · rw [if_pos (by rw [q1]; exact decide_eq_true (by intro z; cases z; exact e rfl)), if_pos (by simp [e]), List.map_cons, List.map_cons, q1, ih r0 q2]
  refine ⟨⟨_, ek, nodup_perm ((pm.nodup_iff.mpr u.nd).filter _) ((List.eraseIdx_sublist ks j).nodup u.nd) fun a => ?_⟩, fun i a b h1 h2 => ?_⟩
  · rw [List.mem_filter, mem, pm.mem_iff]
    simp
  · have m : a ∈ ks.eraseIdx j := List.mem_of_getElem? h1
    have ne := ((mem a).mp m).2
    have v : valV (dropK kvs (Sum.inl k)) (Sum.inl a) = valV kvs (Sum.inl a) := by
      unfold valV dropK
      rw [List.find?_filter]
      congr 2
      funext kv
      by_cases e : kv.1 = Sum.inl a
      · have : (Sum.inl a : Key) ≠ Sum.inl k := by intro z; cases z; exact ne rfl
        simp [e, this]
      · simp [e]
    rw [v]
    rw [List.getElem?_eraseIdx] at h1 h2
    by_cases c : i < j
    · rw [if_pos c] at h1 h2
      exact kn.2 i a b h1 h2
    · rw [if_neg c] at h1 h2
      exact kn.2 (i + 1) a b h1 h2
def gOf (kvs : List (Key × V)) (a : Int) : Int := match valV kvs (Sum.inl a) with | some (.int b) => b | _ => 0
theorem put_of {ks gs ns : List Int} {kvs : List (Key × V)} {k m : Int} (kn : Knows kvs ks gs) (hl : gs.length = ks.length) (hm : ∀ a, a ∈ ns ↔ a = k ∨ a ∈ ks) :
    (∀ a ∈ ns, valV (putK kvs (Sum.inl k) (.int m)) (Sum.inl a) = some (.int (gOf (putK kvs (Sum.inl k) (.int m)) a))) ∧ Put ks gs k m ns (ns.map (gOf (putK kvs (Sum.inl k) (.int m)))) := by
  have key : ∀ a ∈ ns, ∀ b, valV (putK kvs (Sum.inl k) (.int m)) (Sum.inl a) = some (.int b) ↔ (a = k ∧ b = m) ∨ (a ≠ k ∧ (a, b) ∈ ks.zip gs) := fun a ha b => by
    rw [valV_put]
    by_cases e : a = k
    · subst e
      rw [if_pos rfl]
      constructor
      · intro h
        cases h
        exact .inl ⟨rfl, rfl⟩
      · rintro (⟨_, rfl⟩ | ⟨z, _⟩)
        · rfl
        · exact absurd rfl z
    · rw [if_neg (by intro z; cases z; exact e rfl), knows_iff kn hl]
      constructor
      · exact fun h => .inr ⟨e, h⟩
      · rintro (⟨z, _⟩ | ⟨_, h⟩)
        · exact absurd z e
        · exact h
  have v : ∀ a ∈ ns, valV (putK kvs (Sum.inl k) (.int m)) (Sum.inl a) = some (.int (gOf (putK kvs (Sum.inl k) (.int m)) a)) := fun a ha => by
    have : ∃ b, valV (putK kvs (Sum.inl k) (.int m)) (Sum.inl a) = some (.int b) := by
      by_cases e : a = k
      · exact ⟨m, (key a ha m).mpr (.inl ⟨e, rfl⟩)⟩
      · rcases (hm a).mp ha with z | z
        · exact absurd z e
        · obtain ⟨b, hb⟩ := mem_ix hl z
          exact ⟨b, (key a ha b).mpr (.inr ⟨e, hb⟩)⟩
    obtain ⟨b, hb⟩ := this
    unfold gOf
    rw [hb]
  refine ⟨v, fun a b => ?_⟩
  constructor
  · intro h
    obtain ⟨j, h1, h2⟩ := mem_zip_ix.mp h
    have ha := List.mem_of_getElem? h1
    rw [List.getElem?_map, h1] at h2
    cases h2
    exact (key a ha _).mp (v a ha)
  · intro h
    have ha : a ∈ ns := (hm a).mpr (h.elim (fun z => .inl z.1) fun z => .inr (zip_fst z.2))
    obtain ⟨j, hj⟩ := List.getElem?_of_mem ha
    have := (key a ha b).mpr h
    rw [v a ha] at this
    cases this
    exact mem_zip_ix.mpr ⟨j, hj, by rw [List.getElem?_map, hj]; rfl⟩
end K12

set_option Elab.async false
set_option linter.all false
set_option maxRecDepth 100000
set_option maxHeartbeats 1000000
namespace K12
open PySem L2
theorem bt_dict : bootBuiltins "dict" = some (.type "dict") := by decide +kernel
theorem bt_zip : bootBuiltins "zip" = some (.type "zip") := by decide +kernel
theorem keysL_page {ks : List Int} (h : Up ks) (hz : ks.length ≤ 6) : PageKeys (.list (ks.map PyData.int)) := ⟨_, rfl, up_rises h, by rw [List.length_map]; exact hz⟩
theorem goodsL_page {gs : List Int} {n : Int} (h : ∀ g ∈ gs, -999999999 ≤ g ∧ g ≤ 999999999) (hz : (gs.length : Int) = n) : PageGoods (.list (gs.map PyData.int)) n := ⟨_, rfl, by rw [List.length_map]; exact hz, fun x hx => by
  obtain ⟨g, hg, rfl⟩ := List.mem_map.mp hx
  have := h g hg
  show (decide (-999999999 ≤ g) && decide (g ≤ 999999999)) = true
  rw [decide_eq_true this.1, decide_eq_true this.2]
  rfl⟩
theorem row_lst {H : Hp} {a : Addr} {tp : Bool} {xs ys : List V} (r : RowAt tp H a xs) (e : H a = some (.lst ys)) : xs = ys := by
  have r' : H a = some (if tp then .tup xs else .lst xs) := r
  rw [e] at r'
  cases tp with
  | true => cases r'
  | false => cases r'; rfl
theorem kv_ints {ks : List Int} : (ks.map (Sum.inl : Int → Key)).map kV = ks.map V.int := by
  rw [List.map_map]
  rfl
theorem inl_nd {ks : List Int} (h : ks.Nodup) : (ks.map (Sum.inl : Int → Key)).Nodup := by
  refine List.Pairwise.map _ (fun a b ne e => ?_) h
  cases e
  exact ne rfl
theorem rises_of {ns : List Int} (h : ns.Pairwise (· ≤ ·)) (nd : ns.Nodup) : ns.Pairwise (· < ·) := by
  have := h.and nd
  exact this.imp fun q => by have := q.1; have := q.2; omega
section
variable {P : Program} {w : World} {K : PySem.W.Frag} {mg : Str → Option Value} {base : Heap}
theorem sc_with : FnScope ["self", "key", "good", "goods", "keys"] ["self", "key", "good"] (defScope (inClass (top 28) 2)) := ⟨rfl, rfl, rfl, by decide +kernel, rfl, by decide +kernel, by decide +kernel⟩
theorem ok_with {C f fK fG cP cE TT fI cK fIK cG fIG cM fIM fW : Addr} {fd fdI fdK fdG fdM fdW : FuncData} (hf : Fun K "with_good" "Leaf.with_good" (inClass (top 28) 2) fW fdW) (T : Txt K mg) (X : KdN K mg "Leaf" "Leaf.__init__" (inClass (top 28) 0) C f fd fK fG)
    (xG : ErN K mg "NoGood" "NoGood.__init__" (inClass (top 4) 0) "found" cG TT fIG fdG) (xM : ErN K mg "TooMany" "TooMany.__init__" (inClass (top 7) 0) "count" cM TT fIM fdM)
    (h1 : OkX P w K mg base "need_key" s_need_key ["thing"] 4 (spNeed K cK)) (h2 : OkD P w K mg base "is_good" s_is_good ["thing"] 3 (spIsK K))
    (gL : FnOk P w K mg base (CXo P w) 8 f fd ["self", "keys", "goods"] (spMake C cE fun dk dg => PageGoods dg (lenD dk))) :
    FnOk P w K mg base (CXo P w) 12 fW fdW ["self", "key", "good"] (spWith K C cK cG cM) := by
  obtain ⟨f1, fd1, D1, G1⟩ := h1
  obtain ⟨f2, fd2, D2, G2⟩ := h2
  have GG : FnOk P w K mg base CX0 1 fIG fdG ["self", "found"] (spErr cG "found") := ok_NoGood xG
  have GM : FnOk P w K mg base CX0 1 fIM fdM ["self", "count"] (spErr cM "count") := ok_TooMany xM
  obtain ⟨t_MOST_KEYS, c_MOST_KEYS⟩ := T.c_most
  refine Fun_okX hf sc_with (fun vs H Q E h => ?_) (fun cdv A outer s H vs Q E hr h => ?_)
  · obtain ⟨_, _, _, _, _, _, _, _, rfl, _⟩ := h
    rfl
  · obtain ⟨x, dx, v, g, t, t', ks, gs, rfl, pg, th, th', b1, b2, b3, b4⟩ := h
    have sc := sc_with
    have hu := hu_of hr
    refine' ⟨_, pss_cons (ps_expr (pe_call G1 (hr.mono (by decide)) rfl D1.m D1.fn.kp D1.b .nil outs_def.pass (pa_c (pv 1) pa_nil)))
      (pss_cons (ps_if (pt_not (pt_val (pe_call G2 (hr.mono (by decide)) rfl D2.m D2.fn.kp D2.b .nil pass0 (pa_c (pv 2) pa_nil)))) (pss_one (ps_raise outs_def rfl (pe_exc xG.f GG (hr.mono (by decide)) rfl xG.mC xG.bi (pa_c (pv 2) pa_nil)))) pss_nil)
      (pss_cons (ps_set (i := 3) sc.nd rfl (Or.inr rfl) (pe_dictZip (tp := true) hr.hd rfl T.n_dict rfl T.n_zip bt_dict bt_zip (pa_c (pe_fld (pv 0) rfl) (pa_c (pe_fld (pv 0) rfl) pa_nil))))
      (pss_cons (ps_dput hu (pv 3) (pv 1) (pv 2) rfl)
      (pss_cons (ps_if (pt_cmpR op_gt (pe_callB call_lenD rfl T.n_len bt_len (pa_c (pv 3) pa_nil)) (pe_glob (v := .int 6) rfl c_MOST_KEYS ⟨t_MOST_KEYS, rfl⟩) (nomark _)) (pss_one (ps_raise outs_def rfl (pe_exc xM.f GM (hr.mono (by decide)) rfl xM.mC xM.bi (pa_c (pe_callB call_lenD rfl T.n_len bt_len (pa_c (pv 3) pa_nil)) pa_nil)))) pss_nil)
      (pss_cons (ps_set (i := 4) sc.nd rfl (Or.inl rfl) (pe_callB (call_sortD hr.hd) rfl T.n_sorted bt_sorted (pa_c (pv 3) pa_nil)))
      (pss_one (ps_ret (pe_make X.mak gL (hr.mono (by decide)) rfl X.m X.bi .nil outs_def.pass (pa_c (pv 4) (pa_c (pe_comp (blk_mk ["goods"] [3]) rfl (pi_list (pv 4)) (fun _ _ _ _ _ => PTs.nil) (fun _ _ _ _ _ => pe_dget (hu_of hr) (pv 1) (pv 0) (fun _ _ => rfl))) pa_nil)))))))))), ?_⟩
    obtain ⟨tk, tg, hx, hk, hg⟩ := pg.pg
    refine ⟨_, rfl, v, t, rfl, th, fun c1 => ?_, fun c1 e H' he S r => err_on he S r fun H2 S2 r2 => b1 c1 e H2 he S2 r2⟩
    obtain ⟨k, rfl, k0, k1⟩ := keyV_int c1
    refine ⟨_, rfl, g, t', rfl, th', _, rfl, ?_⟩
    cases c2 : keyV g with
    | false => exact iteT (raise_err xG (v := g) (fun R r => ⟨_, rfl, r⟩) fun e H' he S r => b2 c1 c2 e H' he S r)
    | true =>
      obtain ⟨m, rfl, m0, m1⟩ := keyV_int c2
      refine iteF ⟨_, rfl, x, C, dx, _, _, rfl, hx, X.ins.cl, X.n1, rfl, _, rfl, x, C, dx, _, _, rfl, hx, X.ins.cl, X.n2, rfl, tk, tg, ks.map Sum.inl, gs.map V.int, rfl, ?_, SqT.of hg, by rw [List.length_map, List.length_map, pg.len], inl_nd pg.up.nd, fun d fd => ?_⟩
      · rw [kv_ints]; exact SqT.of hk
      have kn := knows_zip pg.up.nd pg.len
      have l0 : ((ks.map (Sum.inl : Int → Key)).zip (gs.map V.int)).length ≤ 6 := by rw [List.length_zip, List.length_map, List.length_map, pg.len, Nat.min_self]; exact pg.few
      generalize (ks.map (Sum.inl : Int → Key)).zip (gs.map V.int) = kvs0 at *
      refine ⟨_, rfl, _, rfl, _, rfl, d, _, rfl, DPut.k (k := Sum.inl k) upd_same (by have := big1000; omega), ?_⟩
      rw [upd_upd]
      have S1 := Same.upd (o := .dK (putK kvs0 (Sum.inl k) (.int m))) fd
      have ed := upd_same (H := H) (a := d) (o := .dK (putK kvs0 (Sum.inl k) (.int m)))
      obtain ⟨ks0, e0, pm⟩ := kn.1
      have e1 := keys_put e0 k (.int m)
      have n1 : (if k ∈ ks0 then ks0 else ks0 ++ [k]).Nodup := nd_put (pm.nodup_iff.mpr pg.up.nd)
      have mm : ∀ a, a ∈ (if k ∈ ks0 then ks0 else ks0 ++ [k]) ↔ a = k ∨ a ∈ ks := fun a => by rw [mem_put, pm.mem_iff]
      have ln : (if k ∈ ks0 then ks0 else ks0 ++ [k]).length = if k ∈ ks then ks.length else ks.length + 1 := by
        rw [len_put, pm.length_eq]
        by_cases q : k ∈ ks
        · rw [if_pos q, if_pos (pm.mem_iff.mpr q)]
        · rw [if_neg q, if_neg fun z => q (pm.mem_iff.mp z)]
      generalize (if k ∈ ks0 then ks0 else ks0 ++ [k]) = ks1 at *
      have ln1 : (putK kvs0 (Sum.inl k) (.int m)).length = ks1.length := by have := congrArg List.length e1; simpa using this
      generalize hH : upd H d (.dK (putK kvs0 (Sum.inl k) (.int m))) = H1 at *
      refine ⟨_, rfl, d, _, rfl, ed, _, _, rfl, rfl, _, rfl, ?_⟩
      have fw := pg.few
      by_cases c6 : k ∈ ks ∨ ks.length ≠ 6
      · have l6 : ks1.length ≤ 6 := by
          rw [ln]
          split
          · exact fw
          · rename_i q
            rcases c6 with c | c
            · exact absurd c q
            · omega
        refine iteE (c := false) (decide_eq_false (by rw [ln1]; omega)) (iteF ?_)
        refine ⟨_, rfl, d, _, ks1, rfl, .inl ed, e1, by omega, fun ns p1 p2 l fl => ?_⟩
        have nn : ns.Nodup := p1.nodup_iff.mpr n1
        have mn : ∀ a, a ∈ ns ↔ a = k ∨ a ∈ ks := fun a => by rw [p1.mem_iff, mm]
        have un : Up ns := ⟨rises_of p2 nn, fun a ha => by
          rcases (mn a).mp ha with rfl | z
          · omega
          · exact pg.up.2 a z⟩
        obtain ⟨vv, pu⟩ := put_of (m := m) kn pg.len mn
        have lns : ns.length ≤ 6 := by rw [p1.length_eq]; exact l6
        have gok : ∀ b ∈ ns.map (gOf (putK kvs0 (Sum.inl k) (.int m))), -999999999 ≤ b ∧ b ≤ 999999999 := fun b hb => by
          obtain ⟨j, hj⟩ := List.getElem?_of_mem hb
          have hj' := hj
          rw [List.getElem?_map] at hj'
          obtain ⟨a, ha, _⟩ := Option.map_eq_some_iff.mp hj'
          rcases (pu a b).mp (mem_zip_ix.mpr ⟨j, ha, hj⟩) with ⟨_, rfl⟩ | ⟨_, z⟩
          · omega
          · exact pg.ok b (List.of_mem_zip z).2
        have S2 := Same.upd (o := .lst (ns.map V.int)) fl
        have el := upd_same (H := H1) (a := l) (o := .lst (ns.map V.int))
        have ed2 := S2 _ _ ed
        generalize upd H1 l (.lst (ns.map V.int)) = H2 at *
        refine ⟨_, rfl, ?_⟩
        have ra : RowAt false H2 l (ns.map V.int) := el
        refine comp_f (ns.map V.int) (fun _ => true) (getV (putK kvs0 (Sum.inl k) (.int m))) (J := ItB K false l) (H1 := H2) (fun R r => ⟨_, rfl, l, rfl, ⟨_, SqL.of el⟩, r⟩) (it_row ra) (fun y hy H4 R S r => r H4 (Same.refl _)) ?_ (by rw [List.length_map]; omega) ?_
        · intro y hy _ H4 R S4 r
          obtain ⟨k', hk', rfl⟩ := List.mem_map.mp hy
          have ev := vv k' hk'
          have dg := DGet.k (k := Sum.inl k') (S4 _ _ ed2)
          rw [ev] at dg
          have r' := r H4 (Same.refl _)
          simp only [getV, ev, Option.getD_some] at r'
          exact ⟨_, rfl, _, rfl, d, _, rfl, dg, r'⟩
        · intro l2 H4 f4 S4 e4
          have eg : ((ns.map V.int).filter fun _ => true).map (getV (putK kvs0 (Sum.inl k) (.int m))) = (ns.map (gOf (putK kvs0 (Sum.inl k) (.int m)))).map V.int := by
            rw [List.filter_eq_self.mpr fun _ _ => rfl, List.map_map, List.map_map]
            refine List.map_congr_left fun a ha => ?_
            simp only [Function.comp_apply, getV, vv a ha]
            rfl
          rw [eg] at e4
          have lg : (ns.map (gOf (putK kvs0 (Sum.inl k) (.int m)))).length = ns.length := List.length_map _
          generalize ns.map (gOf (putK kvs0 (Sum.inl k) (.int m))) = gs1 at *
          intro y dy fy fdy nd
          have e1' := S4 _ _ el
          have K1 : Same H4 (upd (upd H4 dy (.own y)) y (.ins C dy [])) := fun c o hc => by
            rw [upd_ne (ne_of_none hc fy), upd_ne (ne_of_none hc fdy)]
            exact hc
          have PK := keysL_page un lns
          have PG := goodsL_page (n := lenD (.list (ns.map PyData.int))) gok (by show _ = ((ns.map PyData.int).length : Int); rw [List.length_map, lg])
          have S04 : Same H H4 := (S1.trans S2).trans S4
          refine ⟨fun _ => False, y, dy, .ref l, .ref l2, _, _, rfl, upd_same, .lst (fun z => z) (K1 _ _ e1') (dvs_ints _), .lst (fun z => z) (K1 _ _ e4) (dvs_ints _), fun ds z => ?_, fun ds z => ?_, fun c => absurd PK c, fun _ c => absurd PG c, fun _ _ H3 a b tp tp' xs ys B ea eb ra rb pg' => ⟨rfl, ?_⟩⟩
          · cases z; rw [List.length_map]; omega
          · cases z; rw [List.length_map, lg]; omega
          · cases ea
            cases eb
            rw [row_lst ra (K1 _ _ e1'), row_lst rb (K1 _ _ e4)] at pg'
            exact b4 k m rfl rfl c1 c2 c6 H3 y dy ns gs1 (fun c o hc => B c o (K1 _ _ (S04 _ _ hc)) (ne_of_none (S04 _ _ hc) fy)) (S04.free fy) ⟨pg', lg, lns, un, gok⟩ pu
      · have c7 : k ∉ ks ∧ ks.length = 6 := ⟨fun z => c6 (.inl z), Decidable.byContradiction fun z => c6 (.inr z)⟩
        have l7 : (putK kvs0 (Sum.inl k) (.int m)).length = 7 := by rw [ln1, ln, if_neg c7.1, c7.2]
        refine iteE (c := true) (decide_eq_true (by rw [l7]; decide)) (iteT ?_)
        refine raise_err xM (v := .int 7) (fun R r => ⟨_, rfl, d, _, rfl, ed, ?_⟩) fun e H' he S r => b3 k rfl c1 c2 c7.1 c7.2 e H' (S1.free he) (S1.trans S) r
        rw [l7]
        exact r
end
end K12

set_option Elab.async false
set_option linter.all false
set_option maxRecDepth 100000
set_option maxHeartbeats 1000000
namespace K12
open PySem L2
theorem passX {X : Cx} : Passes (CXo X.prog X.w) X E0 := fun pins σ H s e s' I h => by
  obtain ⟨v, H', I', rv, q⟩ := I.after h
  exact q.2.elim
theorem keysB_page {tp : Bool} {ks : List Int} (h : Up ks) (hz : ks.length ≤ 6) : PageKeys (if tp then .tuple (ks.map PyData.int) else .list (ks.map PyData.int)) := by
  cases tp with
  | true => exact keys_page h hz
  | false => exact keysL_page h hz
theorem goodsB_page {tp : Bool} {gs : List Int} {n : Int} (h : ∀ g ∈ gs, -999999999 ≤ g ∧ g ≤ 999999999) (hz : (gs.length : Int) = n) : PageGoods (if tp then .tuple (gs.map PyData.int) else .list (gs.map PyData.int)) n := by
  cases tp with
  | true => exact goods_page h hz
  | false => exact goodsL_page h hz
theorem dv_row_ints {tp : Bool} {H : Hp} {a : Addr} {ks : List Int} (h : RowAt tp H a (ks.map V.int)) : DV (fun _ => False) H (.ref a) (if tp then .tuple (ks.map PyData.int) else .list (ks.map PyData.int)) := by
  cases tp with
  | true => exact .tup (fun z => z) h (dvs_ints _)
  | false => exact .lst (fun z => z) h (dvs_ints _)
theorem row_same {tp tp' : Bool} {H : Hp} {a : Addr} {xs ys : List V} (h : RowAt tp H a xs) (h' : RowAt tp' H a ys) : xs = ys := by
  have e := (show H a = _ from h).symm.trans (show H a = _ from h')
  cases tp <;> cases tp' <;> (injection e with e; first | (injection e) | (cases e))
theorem make_ok {C y dy cE a b : Addr} {H : Hp} {tp tp' : Bool} {ks gs : List Int} {Q : VK} {E : XK} (ha : RowAt tp H a (ks.map V.int)) (hb : RowAt tp' H b (gs.map V.int)) (u : Up ks) (few : ks.length ≤ 6) (ok : ∀ g ∈ gs, -999999999 ≤ g ∧ g ≤ 999999999) (len : gs.length = ks.length) (fy : H y = none) (fdy : H dy = none)
    (q : ∀ H3, Same H H3 → PgI C dy H3 y ks gs → Q .non H3) : spMake C cE (fun dk dg => PageGoods dg (lenD dk)) [.ref y, .ref a, .ref b] (upd (upd H dy (.own y)) y (.ins C dy [])) Q E := by
  have K1 : Same H (upd (upd H dy (.own y)) y (.ins C dy [])) := fun c o hc => by
    rw [upd_ne (ne_of_none hc fy), upd_ne (ne_of_none hc fdy)]
    exact hc
  have PK := keysB_page (tp := tp) u few
  have lk : lenD (if tp then .tuple (ks.map PyData.int) else .list (ks.map PyData.int)) = (ks.length : Int) := by
    cases tp with
    | true => show ((ks.map PyData.int).length : Int) = _; rw [List.length_map]
    | false => show ((ks.map PyData.int).length : Int) = _; rw [List.length_map]
  have PG := goodsB_page (tp := tp') (n := lenD (if tp then .tuple (ks.map PyData.int) else .list (ks.map PyData.int))) ok (by rw [lk, len])
  have ha' : RowAt tp (upd (upd H dy (.own y)) y (.ins C dy [])) a (ks.map V.int) := K1 _ _ ha
  have hb' : RowAt tp' (upd (upd H dy (.own y)) y (.ins C dy [])) b (gs.map V.int) := K1 _ _ hb
  have sh : ∀ (tp : Bool) (ns : List Int), ns.length ≤ 6 → Short (if tp then .tuple (ns.map PyData.int) else .list (ns.map PyData.int)) := fun tp ns hn ds z => by
    cases tp <;> (cases z; rw [List.length_map]; omega)
  refine ⟨fun _ => False, y, dy, .ref a, .ref b, _, _, rfl, upd_same, dv_row_ints ha', dv_row_ints hb', sh _ _ few, sh _ _ (by omega), fun c => absurd PK c, fun _ c => absurd PG c, fun _ _ H3 a' b' t1 t2 xs ys B ea eb ra rb pg' => ?_⟩
  cases ea
  cases eb
  rw [row_same ra ha', row_same rb hb'] at pg'
  exact q H3 (fun c o hc => B c o (K1 _ _ hc) (ne_of_none hc fy)) ⟨pg', len, few, u, ok⟩
section
variable {P : Program} {w : World} {K : PySem.W.Frag} {mg : Str → Option Value} {base : Heap}
def spGoodU : Sp := fun vs H Q _ => ∃ (p : Addr) (n : Nat), vs = [.ref p] ∧ Box H p n ∧ n ≤ 950000 ∧ ∀ (i : Int) (H' : Hp), -999999999 ≤ i ∧ i ≤ 999999999 → Box H' p (n + 2) → KB p H H' → Q (.int i) H'
theorem ok_goodU (hd : ∃ f fd, Dn K mg "_law_good" "_law_good" s__law_good ["_law_box_here"] f fd) (T : Txt K mg) (h1 : OkD P w K mg base "_law_take" s__law_take ["_law_box_here", "_law_many"] 1 spTake) :
    OkD P w K mg base "_law_good" s__law_good ["_law_box_here"] 2 spGoodU := by
  obtain ⟨f, fd, D⟩ := hd
  obtain ⟨f1, fd1, D_law_take, G_law_take⟩ := h1
  refine ⟨f, fd, D, D.fn.ok sc__law_good (fun vs H Q E h => ?_) (fun cdv A outer s H vs Q E hr h => ?_)⟩
  · obtain ⟨_, _, rfl, _⟩ := h
    rfl
  · obtain ⟨p, n, rfl, B, hn, k⟩ := h
    have sc := sc__law_good
    refine ⟨_, (pss_cons (ps_set (i := 1) sc.nd rfl (Or.inl rfl) (pe_call G_law_take (hr.mono (by decide)) rfl D_law_take.m D_law_take.fn.kp D_law_take.b .nil pass0 (pa_c (pv 0) (pa_c pe_int pa_nil))))
    (pss_one (ps_ret (pe_ifExp (pt_cmpR op_lt (pv 1) pe_int (nomark _)) (pe_ix ix_list (pe_lst (pa_c (pe_op op_sub (pe_op op_pow pe_int pe_int) pe_int) (pa_c (pe_op op_sub pe_int (pe_op op_pow pe_int pe_int)) (pa_c pe_int pa_nil)))) (pv 1) (fun _ _ => rfl)) (pe_op op_sub (pe_call G_law_take (hr.mono (by decide)) rfl D_law_take.m D_law_take.fn.kp D_law_take.b .nil pass0 (pa_c (pv 0) (pa_c pe_int pa_nil))) pe_int))))), ?_⟩
    refine ⟨_, rfl, p, 5, n, rfl, B, by omega, by decide, by decide, fun way H1 a0 a1 B1 k1 => ?_⟩
    have e9 : (10 : Int) ^ (9 : Int).toNat = 1000000000 := by decide +kernel
    refine ⟨_, rfl, _, _, rfl, rfl, _, rfl, ite2 (fun hw => ?_) (fun hw => ?_)⟩
    · have hw' : way < 3 := of_decide_eq_true hw
      refine ⟨_, _, rfl, rfl, cp (by decide) (by decide), _, _, rfl, rfl, _, _, rfl, rfl, cp (by decide) (by decide), _, _, rfl, rfl, (by show 3 ≤ sizeLine; decide), fun l fl => ?_⟩
      obtain ⟨z, hz, e⟩ := atI_ints (ns := [10 ^ (9 : Int).toNat - 1, 1 - 10 ^ (9 : Int).toNat, 0]) (r := way) a0 (by show way < 3; exact hw')
      refine ⟨_, rfl, _, _, _, _, rfl, rfl, SqL.of upd_same, e, k z _ ?_ ((B1.upd fl).mono (by omega)) (k1.updN fl)⟩
      rw [e9] at hz
      simp only [List.mem_cons, List.not_mem_nil, or_false] at hz
      omega
    · refine ⟨_, rfl, p, 41, n + 1, rfl, B1, by omega, by decide, by decide, fun r2 H2 b0 b1 B2 k2 => ⟨_, _, rfl, rfl, k _ H2 (by omega) B2 (k1.trans k2)⟩⟩
abbrev s__law_leaf : Stmt := top 35
theorem sc__law_leaf : FnScope ["_law_box_here", "_law_way", "_law_many", "_law_keys_here", "_law_goods", "_law_one", "_law_other", "_law_page"] ["_law_box_here"] (defScope s__law_leaf) := ⟨rfl, rfl, rfl, by decide +kernel, rfl, by decide +kernel, by decide +kernel⟩
def spLeaf (C : Addr) : Sp := fun vs H Q _ => ∃ (p : Addr) (n : Nat), vs = [.ref p] ∧ Box H p n ∧ n ≤ 900000 ∧
  ∀ (t l1 l2 x dx : Addr) (ks gs : List Int) (H' : Hp), H' t = some (.tup [.ref x, .ref l1, .ref l2]) → PgI C dx H' x ks gs → H' l1 = some (.lst (ks.map V.int)) → H' l2 = some (.lst (gs.map V.int)) → KB p H H' → Q (.ref t) H'
end
end K12

set_option Elab.async false
set_option linter.all false
set_option maxRecDepth 100000
set_option maxHeartbeats 1000000
namespace K12
open PySem L2
theorem kb_back {H H1 : Hp} {p l : Addr} (k : KB p H H1) (h : H1 l = none) (n : l ≠ p) : H l = none := by
  cases c : H l with
  | none => rfl
  | some o => rw [k l o c n] at h; cases h
theorem tseq1 {t u : TS} {D : Ends} {σ : St} {H : Hp} (h : t { D with nx := fun σ' H' => u D σ' H' } σ H) : tSeq t u D σ H := h
theorem both2 {tA : TT} {ta tb : TE} {σ : St} {H : Hp} {Q : VK} (R : V → Hp → Prop) (mk : ∀ Q : VK, (∀ v H', R v H' → Q v H') → tIf tA ta tb σ H Q) (q : ∀ v H', R v H' → Q v H') : tIf tA ta tb σ H Q := mk Q q
theorem seq2 {t u : TS} {D : Ends} {σ : St} {H : Hp} (R : St → Hp → Prop) (mk : ∀ N : St → Hp → Prop, (∀ σ' H', R σ' H' → N σ' H') → t { D with nx := N } σ H) (q : ∀ σ' H', R σ' H' → u D σ' H') : tSeq t u D σ H := tseq1 (mk _ q)
theorem ints_of {p : Int → Prop} : ∀ {vs : List V}, (∀ v ∈ vs, ∃ i : Int, p i ∧ v = .int i) → ∃ gs : List Int, vs = gs.map V.int ∧ ∀ g ∈ gs, p g
  | [], _ => ⟨[], rfl, fun g h => nomatch h⟩
  | v :: vs, h => by
    obtain ⟨i, hi, rfl⟩ := h v (List.mem_cons_self ..)
    obtain ⟨gs, rfl, hg⟩ := ints_of fun u hu => h u (List.mem_cons_of_mem _ hu)
    refine ⟨i :: gs, rfl, fun g hm => ?_⟩
    rcases List.mem_cons.mp hm with rfl | z
    · exact hi
    · exact hg g z
theorem PgI.updL {C dx x l : Addr} {H : Hp} {ks gs : List Int} {xs ys : List V} (p : PgI C dx H x ks gs) (h : H l = some (.lst xs)) : PgI C dx (upd H l (.lst ys)) x ks gs := by
  obtain ⟨⟨tk, tg, a, b, c⟩, p2, p3, p4, p5⟩ := p
  refine ⟨⟨tk, tg, ?_, ?_, ?_⟩, p2, p3, p4, p5⟩
  · rw [upd_ne (ne_of a h (by intro z; cases z))]; exact a
  · rw [upd_ne (ne_of b h (by intro z; cases z))]; exact b
  · rw [upd_ne (ne_of c h (by intro z; cases z))]; exact c
section
variable {P : Program} {w : World} {K : PySem.W.Frag} {mg : Str → Option Value} {base : Heap}
theorem ok_lleaf {C f fK fG cE : Addr} {fd : FuncData} (hd : ∃ f fd, Dn K mg "_law_leaf" "_law_leaf" s__law_leaf ["_law_box_here"] f fd) (T : Txt K mg) (XLeaf : KdN K mg "Leaf" "Leaf.__init__" (inClass (top 28) 0) C f fd fK fG)
    (h1 : OkD P w K mg base "_law_take" s__law_take ["_law_box_here", "_law_many"] 1 spTake) (h2 : OkD P w K mg base "_law_keys" s__law_keys ["_law_box_here", "_law_many"] 3 spKeysU) (h3 : OkD P w K mg base "_law_good" s__law_good ["_law_box_here"] 2 spGoodU)
    (GLeaf : FnOk P w K mg base (CXo P w) 8 f fd ["self", "keys", "goods"] (spMake C cE fun dk dg => PageGoods dg (lenD dk))) : OkD P w K mg base "_law_leaf" s__law_leaf ["_law_box_here"] 10 (spLeaf C) := by
  obtain ⟨f0, fd0, D⟩ := hd
  obtain ⟨f1, fd1, D_law_take, G_law_take⟩ := h1
  obtain ⟨f2, fd2, D_law_keys, G_law_keys⟩ := h2
  obtain ⟨f3, fd3, D_law_good, G_law_good⟩ := h3
  refine ⟨f0, fd0, D, D.fn.ok sc__law_leaf (fun vs H Q E h => ?_) (fun cdv A outer s H vs Q E hr h => ?_)⟩
  · obtain ⟨_, _, rfl, _⟩ := h
    rfl
  · obtain ⟨p, n, rfl, B, hn, k⟩ := h
    have sc := sc__law_leaf
    refine ⟨_, (pss_cons (ps_set (i := 1) sc.nd rfl (Or.inl rfl) (pe_call G_law_take (hr.mono (by decide)) rfl D_law_take.m D_law_take.fn.kp D_law_take.b .nil pass0 (pa_c (pv 0) (pa_c pe_int pa_nil))))
    (pss_cons (ps_set (i := 2) sc.nd rfl (Or.inl rfl) (pe_ifExp (pt_cmpR op_eq (pv 1) pe_int (nomark _)) pe_int (pe_call G_law_take (hr.mono (by decide)) rfl D_law_take.m D_law_take.fn.kp D_law_take.b .nil pass0 (pa_c (pv 0) (pa_c pe_int pa_nil)))))
    (pss_cons (ps_set (i := 3) sc.nd rfl (Or.inl rfl) (pe_call G_law_keys (hr.mono (by decide)) rfl D_law_keys.m D_law_keys.fn.kp D_law_keys.b .nil pass0 (pa_c (pv 0) (pa_c (pv 2) pa_nil))))
    (pss_cons (ps_setComp (i := 4) (blk_mk ["_law_box_here"] [0]) rfl (pi_range1 rfl T.n_range (pa_c (pv 2) pa_nil)) (fun _ _ _ _ _ => PTs.nil) (fun _ _ _ _ _ => (pe_call G_law_good (hr.mono (by decide)) rfl D_law_good.m D_law_good.fn.kp D_law_good.b .nil pass0 (pa_c (pv 1) pa_nil))) sc.nd rfl rfl)
    (pss_cons (ps_if (pt_cmpR op_eq (pe_call G_law_take (hr.mono (by decide)) rfl D_law_take.m D_law_take.fn.kp D_law_take.b .nil pass0 (pa_c (pv 0) (pa_c pe_int pa_nil))) pe_int (nomark _))
      (pss_one (ps_ret (pe_tup (pa_c (pe_make XLeaf.mak GLeaf (hr.mono (by decide)) rfl XLeaf.m XLeaf.bi .nil passX (pa_c (pe_callTy call_tuple_of rfl T.n_tuple bt_tuple (pa_c (pv 3) pa_nil)) (pa_c (pe_callTy call_tuple_of rfl T.n_tuple bt_tuple (pa_c (pv 4) pa_nil)) pa_nil))) (pa_c (pv 3) (pa_c (pv 4) pa_nil))))))
      pss_nil)
    (pss_cons (ps_par (i := 5) (j := 6) rfl sc.nd rfl rfl (by decide) rfl rfl (pa_c (pe_callTy call_list_of rfl T.n_list bt_list (pa_c (pv 3) pa_nil)) (pa_c (pe_callTy call_list_of rfl T.n_list bt_list (pa_c (pv 4) pa_nil)) pa_nil)) rfl)
    (pss_cons (ps_set (i := 7) sc.nd rfl (Or.inl rfl) (pe_make XLeaf.mak GLeaf (hr.mono (by decide)) rfl XLeaf.m XLeaf.bi .nil passX (pa_c (pv 5) (pa_c (pv 6) pa_nil))))
    (pss_cons (ps_expr (pe_bm PySem.F.plainAttrs_list PySem.F.slot_list_append PySem.F.type_list_append mt_append (pv 5) (pa_c pe_int pa_nil)))
    (pss_cons (ps_expr (pe_bm0 PySem.F.plainAttrs_list PySem.F.slot_list_clear PySem.F.type_list_clear mt_clear (pv 6)))
    (pss_one (ps_ret (pe_tup (pa_c (pv 7) (pa_c (pv 3) (pa_c (pv 4) pa_nil))))))))))))))), ?_⟩
    refine ⟨_, rfl, p, 5, n, rfl, B, by omega, by decide, by decide, fun way H1 a0 a1 B1 k1 => ?_⟩
    dsimp only [gName, tNext]
    refine tseq1 (tasg1 (both2 (fun v H2 => ∃ m : Int, v = .int m ∧ 0 ≤ m ∧ m ≤ 6 ∧ Box H2 p (n + 2) ∧ KB p H H2) ?mk ?q))
    case mk =>
      intro Q' z
      refine ⟨_, rfl, rfl, _, rfl, ite2 (fun _ => ?_) (fun _ => ?_)⟩
      · exact z _ _ ⟨6, rfl, by decide, by decide, B1.mono (by omega), k1⟩
      · exact ⟨_, rfl, p, 7, n + 1, rfl, B1, by omega, by decide, by decide, fun m H2 b0 b1 B2 k2 => z _ _ ⟨m, rfl, b0, by omega, B2, k1.trans k2⟩⟩
    case q =>
    rintro _ H2 ⟨m, rfl, m0, m1, B2, K2⟩
    clear k1 B1
    refine ⟨_, rfl, _, rfl, p, m, n + 2, rfl, B2, by omega, m0, m1, fun lk H3 ks fl nl el ll up B3 k3 => ?_⟩
    have K3 := K2.trans k3
    have flk := kb_back K2 fl nl
    dsimp only [gName, tNext]
    refine tseq1 (tasg1 (comp_d (lo := 0) (c := 2) m.toNat (fun v => ∃ i : Int, (-999999999 ≤ i ∧ i ≤ 999999999) ∧ v = .int i) (fun R r => ⟨_, rfl, m, rfl, by omega, by omega, r⟩) B3 (by omega) ?_ ?_))
    · exact fun x H2 mm Z B2 hm z => ⟨_, rfl, p, mm, rfl, B2, by omega, fun i H' hi B' k' => z _ H' ⟨i, hi, rfl⟩ B' k'⟩
    intro lg H4 vs fg lv rv B4 k4 e4
    have ng : lg ≠ p := B3.ne (H1 := H3) fg
    obtain ⟨gs, rfl, hgs⟩ := ints_of rv
    rw [List.length_map] at lv
    have K4 := K3.trans k4
    have flg := kb_back K3 fg ng
    have el4 := k4 _ _ el nl
    have lgk : gs.length = ks.length := by omega
    have few : ks.length ≤ 6 := by omega
    clear k3 K3 K2 B2 B3 fl el fg k4
    dsimp only [gName, tNext]
    refine ⟨_, rfl, p, 2, _, rfl, B4, by omega, by decide, by decide, fun r5 H5 c0 c1 B5 k5 => ?_⟩
    have K5 := K4.trans k5
    have ek := k5 _ _ el4 nl
    have eg := k5 _ _ e4 ng
    clear K4 k5 el4 e4 B4
    refine ⟨rfl, _, rfl, ite2 (fun _ => ?_) (fun _ => ?_)⟩
    · refine ⟨_, rfl, lk, _, rfl, .inl ⟨SqL.of ek, fun t1 g1 => ?_⟩⟩
      have S1 := Same.upd (o := .tup (ks.map V.int)) g1
      have et1 := upd_same (H := H5) (a := t1) (o := .tup (ks.map V.int))
      have eg1 := S1 _ _ eg
      have ek1 := S1 _ _ ek
      have K6 := K5.trans S1.kb
      generalize upd H5 t1 (.tup (ks.map V.int)) = H6 at *
      refine ⟨_, rfl, lg, _, rfl, .inl ⟨SqL.of eg1, fun t2 g2 => ?_⟩⟩
      have S2 := Same.upd (o := .tup (gs.map V.int)) g2
      have et2 := upd_same (H := H6) (a := t2) (o := .tup (gs.map V.int))
      have eg2 := S2 _ _ eg1
      have ek2 := S2 _ _ ek1
      have K7 := K6.trans S2.kb
      have et1' := S2 _ _ et1
      generalize upd H6 t2 (.tup (gs.map V.int)) = H7 at *
      intro y dy fy fdy nd
      refine make_ok (tp := true) (tp' := true) (ks := ks) (gs := gs) et1' et2 up few hgs lgk fy fdy fun H8 S8 pg => ⟨rfl, ?_⟩
      refine ⟨_, rfl, _, rfl, (by show 3 ≤ sizeLine; decide), fun t ft => ?_⟩
      have S9 := Same.upd (o := .tup [.ref y, .ref lk, .ref lg]) ft
      exact k t lk lg y dy ks gs _ upd_same (pg.keep S9) (S9 _ _ (S8 _ _ ek2)) (S9 _ _ (S8 _ _ eg2)) ((K7.trans S8.kb).trans S9.kb)
    · refine ⟨_, rfl, lk, _, rfl, .inl (SqL.of ek), fun t1 g1 => ?_⟩
      have S1 := Same.upd (o := .lst (ks.map V.int)) g1
      have et1 := upd_same (H := H5) (a := t1) (o := .lst (ks.map V.int))
      have eg1 := S1 _ _ eg
      have ek1 := S1 _ _ ek
      have K6 := K5.trans S1.kb
      have n1 : t1 ≠ p := B5.ne (H1 := H5) g1
      have z1 := kb_back K5 g1 n1
      have n1k : lk ≠ t1 := ne_of_none ek g1
      have n1g : lg ≠ t1 := ne_of_none eg g1
      have B6 := B5.same S1
      generalize upd H5 t1 (.lst (ks.map V.int)) = H6 at *
      refine ⟨_, rfl, lg, _, rfl, .inl (SqL.of eg1), fun t2 g2 => ?_⟩
      have S2 := Same.upd (o := .lst (gs.map V.int)) g2
      have et2 := upd_same (H := H6) (a := t2) (o := .lst (gs.map V.int))
      have eg2 := S2 _ _ eg1
      have ek2 := S2 _ _ ek1
      have K7 := K6.trans S2.kb
      have et1' := S2 _ _ et1
      have n2 : t2 ≠ p := B6.ne (H1 := H6) g2
      have z2 := kb_back K6 g2 n2
      have n2k : lk ≠ t2 := ne_of_none ek1 g2
      have n2g : lg ≠ t2 := ne_of_none eg1 g2
      have n21 : t1 ≠ t2 := ne_of_none et1 g2
      generalize upd H6 t2 (.lst (gs.map V.int)) = H7 at *
      refine ⟨_, _, rfl, ?_⟩
      refine ⟨_, rfl, _, rfl, ?_⟩
      intro y dy fy fdy nd
      refine make_ok (tp := false) (tp' := false) (ks := ks) (gs := gs) et1' et2 up few hgs lgk fy fdy fun H8 S8 pg => ⟨rfl, ?_⟩
      have et18 := S8 _ _ et1'
      have et28 := S8 _ _ et2
      refine ⟨_, rfl, .inl ⟨rfl, _, SqL.of et18⟩, t1, _, _, rfl, rfl, et18, (by rw [List.length_map]; have := big1000; omega), ?_⟩
      have et29 : upd H8 t1 (.lst (ks.map V.int ++ [.int 7])) t2 = some (.lst (gs.map V.int)) := by rw [upd_ne (Ne.symm n21)]; exact et28
      have pg9 := pg.updL (ys := ks.map V.int ++ [.int 7]) et18
      refine ⟨_, rfl, .inl ⟨rfl, _, SqL.of et29⟩, t2, _, rfl, rfl, et29, ?_⟩
      have pg10 := pg9.updL (ys := []) et29
      have ek10 : upd (upd H8 t1 (.lst (ks.map V.int ++ [.int 7]))) t2 (.lst []) lk = some (.lst (ks.map V.int)) := by rw [upd_ne n2k, upd_ne n1k]; exact S8 _ _ ek2
      have eg10 : upd (upd H8 t1 (.lst (ks.map V.int ++ [.int 7]))) t2 (.lst []) lg = some (.lst (gs.map V.int)) := by rw [upd_ne n2g, upd_ne n1g]; exact S8 _ _ eg2
      have K10 : KB p H (upd (upd H8 t1 (.lst (ks.map V.int ++ [.int 7]))) t2 (.lst [])) := fun b o z nb => by
        rw [upd_ne (ne_of_none z z2), upd_ne (ne_of_none z z1)]
        exact S8 _ _ (K7 b o z nb)
      generalize upd (upd H8 t1 (.lst (ks.map V.int ++ [.int 7]))) t2 (.lst []) = H10 at *
      refine ⟨_, rfl, _, rfl, _, rfl, (by show 3 ≤ sizeLine; decide), fun t ft => ?_⟩
      have S9 := Same.upd (o := .tup [.ref y, .ref lk, .ref lg]) ft
      exact k t lk lg y dy ks gs _ upd_same (pg10.keep S9) (S9 _ _ ek10) (S9 _ _ eg10) (K10.trans S9.kb)
end
end K12

set_option Elab.async false
set_option linter.all false
set_option maxRecDepth 100000
set_option maxHeartbeats 1000000
namespace K12
open PySem L2
theorem perm_in {a b : List Int} (p : a.Perm b) (h : ∀ k ∈ b, -999999999 ≤ k ∧ k ≤ 999999999) : ∀ k ∈ a, -999999999 ≤ k ∧ k ≤ 999999999 := fun k hk => h k (p.mem_iff.mp hk)
theorem told_int {p : Addr} {H : Hp} {i : Int} (h : i.natAbs ≤ 10 ^ 30) : Told p H (.int i) (.int i) := ⟨.int i, small_int h⟩
section
variable {P : Program} {w : World} {K : PySem.W.Frag} {mg : Str → Option Value} {base : Heap}
abbrev s__law_deed : Stmt := top 42
theorem sc__law_deed : FnScope ["_law_box_here", "_law_known", "_law_spoilt", "_law_way", "_law_word", "_law_some", "_law_key", "_law_good_here"] ["_law_box_here", "_law_known"] (defScope s__law_deed) := ⟨rfl, rfl, rfl, by decide +kernel, rfl, by decide +kernel, by decide +kernel⟩
def spDeed : Sp := fun vs H Q _ => ∃ (p kd : Addr) (n : Nat) (kvs : List (Key × V)) (ks : List Int), vs = [.ref p, .ref kd] ∧ Box H p n ∧ n ≤ 900000 ∧ H kd = some (.dK kvs) ∧ kvs.map (·.1) = ks.map Sum.inl ∧ ks.length ≤ 6 ∧ (∀ k ∈ ks, -999999999 ≤ k ∧ k ≤ 999999999) ∧
  ∀ (t : Addr) (wd : Str) (v g : V) (d d' : PyData) (H' : Hp), (wd = "with" ∨ wd = "without") → H' t = some (.tup [.str wd, v, g]) → Told p H' v d → Told p H' g d' → (∀ a, v = .ref a → H a = none) → (∀ a, g = .ref a → H a = none) → KB p H H' → Q (.ref t) H'
theorem ok_deed (hd : ∃ f fd, Dn K mg "_law_deed" "_law_deed" s__law_deed ["_law_box_here", "_law_known"] f fd) (T : Txt K mg) (h1 : OkD P w K mg base "_law_take" s__law_take ["_law_box_here", "_law_many"] 1 spTake) (h2 : OkD P w K mg base "_law_near" s__law_near ["_law_keys_here"] 1 spNear)
    (h3 : OkD P w K mg base "_law_good" s__law_good ["_law_box_here"] 2 spGoodU) (h4 : OkD P w K mg base "_law_odd" s__law_odd ["_law_box_here"] 2 spOdd) : OkD P w K mg base "_law_deed" s__law_deed ["_law_box_here", "_law_known"] 3 spDeed := by
  obtain ⟨f, fd, D⟩ := hd
  obtain ⟨f1, fd1, D_law_take, G_law_take⟩ := h1
  obtain ⟨f2, fd2, D_law_near, G_law_near⟩ := h2
  obtain ⟨f3, fd3, D_law_good, G_law_good⟩ := h3
  obtain ⟨f4, fd4, D_law_odd, G_law_odd⟩ := h4
  refine ⟨f, fd, D, D.fn.ok sc__law_deed (fun vs H Q E h => ?_) (fun cdv A outer s H vs Q E hr h => ?_)⟩
  · obtain ⟨_, _, _, _, _, rfl, _⟩ := h
    rfl
  · obtain ⟨p, kd, n, kvs, ks, rfl, B, hn, hk, ek, lk, bk, k⟩ := h
    have sc := sc__law_deed
    have nk : kd ≠ p := by
      obtain ⟨_, _, _, e, _⟩ := B
      exact ne_of hk e (by intro z; cases z)
    have lkv : kvs.length = ks.length := by have := congrArg List.length ek; simpa using this
    refine ⟨_, (pss_cons (ps_set (i := 2) sc.nd rfl (Or.inl rfl) (pe_call G_law_take (hr.mono (by decide)) rfl D_law_take.m D_law_take.fn.kp D_law_take.b .nil pass0 (pa_c (pv 0) (pa_c pe_int pa_nil))))
    (pss_cons (ps_set (i := 3) sc.nd rfl (Or.inl rfl) (pe_call G_law_take (hr.mono (by decide)) rfl D_law_take.m D_law_take.fn.kp D_law_take.b .nil pass0 (pa_c (pv 0) (pa_c pe_int pa_nil))))
    (pss_cons (ps_set (i := 4) sc.nd rfl (Or.inl rfl) (pe_ix ix_list (pe_lst (pa_c pe_str (pa_c pe_str pa_nil))) (pe_callTy call_int1 rfl T.n_int bt_int (pa_c (pe_cmpR op_gt (pv 3) pe_int (nomark _)) pa_nil)) (fun _ _ => rfl)))
    (pss_cons (ps_set (i := 5) sc.nd rfl (Or.inl rfl) (pe_op op_cat (pe_call G_law_near (hr.mono (by decide)) rfl D_law_near.m D_law_near.fn.kp D_law_near.b .nil pass0 (pa_c (pe_callB (call_sortD hr.hd) rfl T.n_sorted bt_sorted (pa_c (pv 1) pa_nil)) pa_nil)) (pe_lst (pa_c (pe_op op_sub (pe_call G_law_take (hr.mono (by decide)) rfl D_law_take.m D_law_take.fn.kp D_law_take.b .nil pass0 (pa_c (pv 0) (pa_c pe_int pa_nil))) pe_int) pa_nil))))
    (pss_cons (ps_set (i := 6) sc.nd rfl (Or.inl rfl) (pe_ix ix_list (pv 5) (pe_call G_law_take (hr.mono (by decide)) rfl D_law_take.m D_law_take.fn.kp D_law_take.b .nil pass0 (pa_c (pv 0) (pa_c (pe_callB call_len_seq rfl T.n_len bt_len (pa_c (pv 5) pa_nil)) pa_nil))) (fun _ _ => rfl)))
    (pss_cons (ps_if (PW.pt (pw_and (pt_cmpR op_eq (pv 3) pe_int (nomark _)) (pw_and1 (pt_cmpR (op_neNil hr.units0) (pv 1) pe_dnewK (nomark _)))))
      (pss_one (ps_set (i := 6) sc.nd rfl (Or.inl rfl) (pe_ix ix_list (pe_callB (call_sortD hr.hd) rfl T.n_sorted bt_sorted (pa_c (pv 1) pa_nil)) (pe_call G_law_take (hr.mono (by decide)) rfl D_law_take.m D_law_take.fn.kp D_law_take.b .nil pass0 (pa_c (pv 0) (pa_c (pe_callB call_lenD rfl T.n_len bt_len (pa_c (pv 1) pa_nil)) pa_nil))) (fun _ _ => rfl))))
      pss_nil)
    (pss_cons (ps_set (i := 7) sc.nd rfl (Or.inl rfl) (pe_call G_law_good (hr.mono (by decide)) rfl D_law_good.m D_law_good.fn.kp D_law_good.b .nil pass0 (pa_c (pv 0) pa_nil)))
    (pss_cons (ps_if (PW.pt (pw_or (pt_cmpR op_eq (pv 2) pe_int (nomark _)) (pw_or1 (pt_cmpR op_eq (pv 2) pe_int (nomark _)))))
      (pss_one (ps_set (i := 6) sc.nd rfl (Or.inl rfl) (pe_call G_law_odd (hr.mono (by decide)) rfl D_law_odd.m D_law_odd.fn.kp D_law_odd.b .nil pass0 (pa_c (pv 0) pa_nil))))
      pss_nil)
    (pss_cons (ps_if (PW.pt (pw_or (pt_cmpR op_eq (pv 2) pe_int (nomark _)) (pw_or1 (pt_cmpR op_eq (pv 2) pe_int (nomark _)))))
      (pss_one (ps_set (i := 7) sc.nd rfl (Or.inl rfl) (pe_call G_law_odd (hr.mono (by decide)) rfl D_law_odd.m D_law_odd.fn.kp D_law_odd.b .nil pass0 (pa_c (pv 0) pa_nil))))
      pss_nil)
    (pss_one (ps_ret (pe_tup (pa_c (pv 4) (pa_c (pv 6) (pa_c (pv 7) pa_nil))))))))))))))), ?_⟩
    refine ⟨_, rfl, p, 8, n, rfl, B, by omega, by decide, by decide, fun sp H1 a0 a1 B1 k1 => ?_⟩
    refine ⟨_, rfl, p, 5, n + 1, rfl, B1, by omega, by decide, by decide, fun way H2 b0 b1 B2 k2 => ?_⟩
    have K2 := k1.trans k2
    refine ⟨(by show 2 ≤ sizeLine; decide), fun l0 f0 => ⟨_, rfl, _, _, rfl, rfl, .inr ⟨_, rfl, ?_⟩⟩⟩
    obtain ⟨wd, hwd, ew⟩ : ∃ wd : Str, (wd = "with" ∨ wd = "without") ∧ atI [V.str "with", V.str "without"] (if decide (2 < way) = true then 1 else 0) = some (.str wd) := by
      by_cases c : 2 < way
      · exact ⟨"without", .inr rfl, by rw [decide_eq_true c]; rfl⟩
      · exact ⟨"with", .inl rfl, by rw [decide_eq_false c]; rfl⟩
    refine ⟨_, _, _, _, rfl, rfl, SqL.of upd_same, ew, ?_⟩
    have S0 := Same.upd (o := .lst [V.str "with", V.str "without"]) f0
    have B3 := B2.same S0
    have K3 := K2.trans S0.kb
    generalize upd H2 l0 (.lst [V.str "with", V.str "without"]) = H3 at *
    have hk3 := K3 _ _ hk nk
    refine ⟨_, rfl, kd, kvs, ks, rfl, .inl hk3, ek, by omega, fun ns p1 p2 l fl => ?_⟩
    have S4 := Same.upd (o := .lst (ns.map V.int)) fl
    have el := upd_same (H := H3) (a := l) (o := .lst (ns.map V.int))
    have B4 := B3.same S4
    have K4 := K3.trans S4.kb
    generalize upd H3 l (.lst (ns.map V.int)) = H4 at *
    have lns := p1.length_eq
    refine ⟨l, ns, rfl, el, by omega, perm_in p1 bk, fun l5 H5 ms f5 S5 e5 bm mne ml => ?_⟩
    have B5 := B4.same S5
    have K5 := K4.trans S5.kb
    have n5 : l5 ≠ p := B4.ne (H1 := H4) f5
    refine ⟨_, rfl, p, 30, n + 2, rfl, B5, by omega, by decide, by decide, fun r6 H6 c0 c1 B6 k6 => ⟨_, _, rfl, rfl, (by show 1 ≤ sizeLine; decide), fun l6 f6 => ?_⟩⟩
    have S7 := Same.upd (o := .lst [.int (r6 - 15)]) f6
    have e6 := upd_same (H := H6) (a := l6) (o := .lst [.int (r6 - 15)])
    have e5' := S7 _ _ (k6 _ _ e5 n5)
    have B7 := B6.same S7
    have K7 := (K5.trans k6).trans S7.kb
    generalize upd H6 l6 (.lst [.int (r6 - 15)]) = H7 at *
    refine ⟨l5, l6, _, _, rfl, rfl, e5', e6, by rw [List.length_map]; have := big1000; show ms.length + 1 ≤ _; omega, fun l8 f8 => ?_⟩
    have S8 := Same.upd (o := .lst (ms.map V.int ++ [.int (r6 - 15)])) f8
    have e8 := upd_same (H := H7) (a := l8) (o := .lst (ms.map V.int ++ [.int (r6 - 15)]))
    have n8 : l8 ≠ p := B7.ne (H1 := H7) f8
    have B8 := B7.same S8
    have K8 := K7.trans S8.kb
    generalize upd H7 l8 (.lst (ms.map V.int ++ [.int (r6 - 15)])) = H8 at *
    have em : ms.map V.int ++ [V.int (r6 - 15)] = (ms ++ [r6 - 15]).map V.int := by rw [List.map_append]; rfl
    rw [em] at e8
    have bs : ∀ z ∈ ms ++ [r6 - 15], z.natAbs ≤ 10 ^ 30 := fun z hz => by
      rcases List.mem_append.mp hz with h | h
      · have := bm z h; omega
      · rw [List.mem_singleton.mp h]; omega
    have ls : (ms ++ [r6 - 15]).length ≤ 64 := by rw [List.length_append]; show ms.length + 1 ≤ 64; omega
    have ls0 : 0 < (ms ++ [r6 - 15]).length := by rw [List.length_append]; show 0 < ms.length + 1; omega
    generalize ms ++ [r6 - 15] = ss at *
    clear S0 S4 S5 S7 S8 K2 K3 K4 K5 K7 B1 B2 B3 B4 B5 B6 B7 k1 k2 k6 el e5 e5' e6 hk3 p1 p2
    refine ⟨_, rfl, _, rfl, _, rfl, _, _, rfl, .inl (SqL.of e8), p, _, n + 3, rfl, B8, by omega, by rw [List.length_map]; omega, by rw [List.length_map]; omega, fun r9 H9 c2 c3 B9 k9 => ?_⟩
    rw [List.length_map] at c3
    obtain ⟨z, hz, ez⟩ := atI_ints (ns := ss) (r := r9) c2 c3
    refine ⟨_, _, _, _, rfl, rfl, SqL.of (k9 _ _ e8 n8), ez, ?_⟩
    have K9 := K8.trans k9
    have zz := bs z hz
    clear K8 k9 B8
    dsimp only [gName, tNext]
    refine seq2 (fun σ H' => ∃ i : Int, σ = [some (.ref p), some (.ref kd), some (.int sp), some (.int way), some (.str wd), some (.ref l8), some (.int i), none] ∧ i.natAbs ≤ 10 ^ 30 ∧ Box H' p (n + 10) ∧ KB p H H') ?s6 ?r6
    case s6 =>
      intro N q
      refine ⟨_, rfl, rfl, _, rfl, ite2 (fun _ => ?_) (fun _ => ?_)⟩
      · refine ⟨_, rfl, ?_⟩
        intro dd fdd
        have S10 := Same.upd (o := .dK []) fdd
        have hk10 := S10 _ _ (K9 _ _ hk nk)
        refine ⟨kd, dd, kvs, rfl, rfl, .inl hk10, .inl upd_same, _, rfl, ite2 (fun ce => ?_) (fun _ => ?_)⟩
        · have B10 := B9.same S10
          have K10 := K9.trans S10.kb
          generalize upd H9 dd (.dK []) = H10 at *
          have ne : kvs ≠ [] := by
            intro e
            rw [e] at ce
            cases ce
          have lne : 0 < ks.length := by
            rw [← lkv]
            exact List.length_pos_iff.mpr ne
          refine ⟨_, rfl, kd, kvs, ks, rfl, .inl hk10, ek, by omega, fun ns p1 p2 l fl => ?_⟩
          have S11 := Same.upd (o := .lst (ns.map V.int)) fl
          have el := upd_same (H := H10) (a := l) (o := .lst (ns.map V.int))
          have nl : l ≠ p := B10.ne (H1 := H10) fl
          have B11 := B10.same S11
          have K11 := K10.trans S11.kb
          generalize upd H10 l (.lst (ns.map V.int)) = H11 at *
          refine ⟨_, rfl, _, rfl, kd, kvs, rfl, K11 _ _ hk nk, p, _, n + 4, rfl, B11, by omega, by omega, by omega, fun r12 H12 d0 d1 B12 k12 => ?_⟩
          have lns := p1.length_eq
          obtain ⟨y, hy, ey⟩ := atI_ints (ns := ns) (r := r12) d0 (by omega)
          refine ⟨_, _, _, _, rfl, rfl, SqL.of (k12 _ _ el nl), ey, q _ _ ⟨y, rfl, ?_, B12.mono (by omega), K11.trans k12⟩⟩
          have := perm_in p1 bk y hy
          omega
        · exact q _ _ ⟨z, rfl, zz, (B9.same S10).mono (by omega), K9.trans S10.kb⟩
      · exact q _ _ ⟨z, rfl, zz, B9.mono (by omega), K9⟩
    case r6 =>
    rintro _ H10 ⟨i, rfl, hi, B10, K10⟩
    clear K9 B9
    refine ⟨_, rfl, p, n + 10, rfl, B10, by omega, fun g0 H11 hg B11 k11 => ?_⟩
    have K11 := K10.trans k11
    clear K10 k11 B10
    dsimp only [gName, tNext]
    refine seq2 (fun σ H' => ∃ v d, σ = [some (.ref p), some (.ref kd), some (.int sp), some (.int way), some (.str wd), some (.ref l8), some v, some (.int g0)] ∧ Told p H' v d ∧ (∀ a, v = .ref a → H a = none) ∧ Box H' p (n + 13) ∧ KB p H H') ?s8 ?r8
    case s8 =>
      intro N q
      have odd : ∀ (Q' : VK), (∀ v H', (∃ d, Told p H' v d ∧ (∀ a, v = .ref a → H a = none) ∧ Box H' p (n + 13) ∧ KB p H H') → Q' v H') → spOdd [.ref p] H11 Q' E0 := fun Q' z => ⟨p, n + 12, rfl, B11, by omega, fun v d H' td fv B' k' => z v H' ⟨d, td, fun a e => kb_back K11 (fv a e) (by rintro rfl; obtain ⟨xs, q⟩ := B11.lst; rw [fv _ e] at q; cases q), B', K11.trans k'⟩⟩
      refine ⟨_, rfl, rfl, _, rfl, ite2 (fun _ => iteT ?_) (fun _ => ⟨_, rfl, rfl, _, rfl, ite2 (fun _ => ?_) (fun _ => ?_)⟩)⟩
      · exact ⟨_, rfl, odd _ fun v H' ⟨d, td, fv, B', K'⟩ => q _ _ ⟨v, d, rfl, td, fv, B', K'⟩⟩
      · exact ⟨_, rfl, odd _ fun v H' ⟨d, td, fv, B', K'⟩ => q _ _ ⟨v, d, rfl, td, fv, B', K'⟩⟩
      · exact q _ _ ⟨_, _, rfl, told_int hi, (fun a e => nomatch e), B11.mono (by omega), K11⟩
    case r8 =>
    rintro _ H12 ⟨v, d, rfl, tv, fv, B12, K12⟩
    clear K11 B11
    refine seq2 (fun σ H' => ∃ g d', σ = [some (.ref p), some (.ref kd), some (.int sp), some (.int way), some (.str wd), some (.ref l8), some v, some g] ∧ Told p H' v d ∧ Told p H' g d' ∧ (∀ a, g = .ref a → H a = none) ∧ KB p H H') ?s9 ?r9
    case s9 =>
      intro N q
      have odd : ∀ (Q' : VK), (∀ g H', (∃ d', Told p H' v d ∧ Told p H' g d' ∧ (∀ a, g = .ref a → H a = none) ∧ KB p H H') → Q' g H') → spOdd [.ref p] H12 Q' E0 := fun Q' z => ⟨p, n + 13, rfl, B12, by omega, fun g d' H' td fv B' k' => z g H' ⟨d', tv.keep k', td, fun a e => kb_back K12 (fv a e) (by rintro rfl; obtain ⟨xs, q⟩ := B12.lst; rw [fv _ e] at q; cases q), K12.trans k'⟩⟩
      refine ⟨_, rfl, rfl, _, rfl, ite2 (fun _ => iteT ?_) (fun _ => ⟨_, rfl, rfl, _, rfl, ite2 (fun _ => ?_) (fun _ => ?_)⟩)⟩
      · exact ⟨_, rfl, odd _ fun g H' ⟨d', tv', td, fg, K'⟩ => q _ _ ⟨g, d', rfl, tv', td, fg, K'⟩⟩
      · exact ⟨_, rfl, odd _ fun g H' ⟨d', tv', td, fg, K'⟩ => q _ _ ⟨g, d', rfl, tv', td, fg, K'⟩⟩
      · exact q _ _ ⟨_, _, rfl, tv, told_int (by omega), (fun a e => nomatch e), K12⟩
    case r9 =>
    rintro _ H13 ⟨g, d', rfl, tv, tg, fg, K13⟩
    refine ⟨_, rfl, _, rfl, _, rfl, (by show 3 ≤ sizeLine; decide), fun t ft => ?_⟩
    have S := Same.upd (o := .tup [.str wd, v, g]) ft
    exact k t wd v g d d' _ hwd upd_same (tv.keep S.kb) (tg.keep S.kb) fv fg (K13.trans S.kb)
end
end K12

set_option Elab.async false
set_option linter.all false
set_option maxRecDepth 100000
set_option maxHeartbeats 1000000
namespace K12
open PySem L2
abbrev du (w : Str) (v : V) : Option (Str × V) := some (w, v)
def dueOf (ks : List Int) (wd : Str) (v g : V) : Option (Str × V) :=
  match v with
  | .int k =>
    if keyV (.int k) = true then
      if wd = "without" then (if k ∈ ks then none else du "lacks" (.int k))
      else if keyV g = true then (if k ∈ ks ∨ ks.length ≠ 6 then none else du "many" (.int 7)) else du "good" (g)
    else du "key" (.int k)
  | v => du "key" (v)
theorem due_perm {a b : List Int} (p : a.Perm b) (wd : Str) (v g : V) : dueOf a wd v g = dueOf b wd v g := by
  cases v with
  | int k =>
    unfold dueOf
    simp only [p.mem_iff, p.length_eq]
  | _ => rfl
theorem due_key {ks : List Int} {wd : Str} {v g : V} (h : keyV v = false) : dueOf ks wd v g = du "key" (v) := by
  cases v with
  | int k => unfold dueOf; dsimp only; rw [if_neg (by rw [h]; exact Bool.false_ne_true)]
  | _ => rfl
theorem due_lacks {ks : List Int} {k : Int} {g : V} (h : keyV (.int k) = true) (n : k ∉ ks) : dueOf ks "without" (.int k) g = du "lacks" (.int k) := by
  unfold dueOf; dsimp only; rw [if_pos h, if_pos rfl, if_neg n]
theorem due_without {ks : List Int} {k : Int} {g : V} (h : keyV (.int k) = true) (n : k ∈ ks) : dueOf ks "without" (.int k) g = none := by
  unfold dueOf; dsimp only; rw [if_pos h, if_pos rfl, if_pos n]
theorem with_ne : ("with" : Str) ≠ "without" := by decide +kernel
theorem due_good {ks : List Int} {v g : V} (h : keyV v = true) (n : keyV g = false) : dueOf ks "with" v g = du "good" (g) := by
  obtain ⟨k, rfl, _⟩ := keyV_int h
  unfold dueOf; dsimp only; rw [if_pos h, if_neg with_ne, if_neg (by rw [n]; exact Bool.false_ne_true)]
theorem due_many {ks : List Int} {k : Int} {g : V} (h : keyV (.int k) = true) (n : keyV g = true) (c : k ∉ ks) (l : ks.length = 6) : dueOf ks "with" (.int k) g = du "many" (.int 7) := by
  unfold dueOf; dsimp only; rw [if_pos h, if_neg with_ne, if_pos n, if_neg (by rintro (z | z); exact c z; exact z l)]
theorem due_with {ks : List Int} {k : Int} {g : V} (h : keyV (.int k) = true) (n : keyV g = true) (c : k ∈ ks ∨ ks.length ≠ 6) : dueOf ks "with" (.int k) g = none := by
  unfold dueOf; dsimp only; rw [if_pos h, if_neg with_ne, if_pos n, if_pos c]
def Done (ks gs : List Int) (wd : Str) (v g : V) (ks' gs' : List Int) : Prop :=
  (wd = "with" ∧ ∃ k m : Int, v = .int k ∧ g = .int m ∧ Put ks gs k m ks' gs') ∨ (wd = "without" ∧ ∃ (k : Int) (j : Nat), v = .int k ∧ ks[j]? = some k ∧ ks' = ks.eraseIdx j ∧ gs' = gs.eraseIdx j)
section
variable {K : PySem.W.Frag} {H : Hp} {Q : VK} {E : XK}
theorem due_two {kd : Addr} {kvs : List (Key × V)} {ks ks0 : List Int} {wd : Str} {v g : V} {t t' : Value} (hk : H kd = some (.dK kvs)) (e0 : kvs.map (·.1) = ks0.map Sum.inl) (pm : ks0.Perm ks) (hw : wd = "with" ∨ wd = "without") (th : Thg K H v t) (th' : Thg K H g t')
    (q1 : ∀ w u, dueOf ks wd v g = some (w, u) → ∀ l H', H l = none → Same H H' → H' l = some (.lst [.str w, u]) → Q (.ref l) H') (q2 : dueOf ks wd v g = none → Q .non H) : spDue K [.ref kd, .str wd, v, g] H Q E := by
  rw [← due_perm pm] at q1 q2
  refine ⟨kd, kvs, ks0, wd, v, g, t, t', rfl, hk, e0, hw, th, th', fun c => q1 _ _ (due_key c), ?_, ?_, ?_, ?_, ?_⟩
  · rintro k rfl hc rfl c
    exact q1 _ _ (due_lacks hc c)
  · rintro c rfl c2
    exact q1 _ _ (due_good c c2)
  · rintro k rfl hc rfl c2 c3 c4
    exact q1 _ _ (due_many hc c2 c3 c4)
  · rintro k rfl c rfl c2
    exact q2 (due_without c c2)
  · rintro k rfl c rfl c2 c3
    exact q2 (due_with c c2 c3)
theorem told_two {C x dx : Addr} {ks gs : List Int} {wd : Str} {v g : V} {t t' : Value} (pg : PgI C dx H x ks gs) (hw : wd = "with" ∨ wd = "without") (th : Thg K H v t) (th' : Thg K H g t')
    (q1 : ∀ w u, dueOf ks wd v g = some (w, u) → ∀ l H', H l = none → Same H H' → H' l = some (.lst [.str w, u]) → Q (.ref l) H')
    (q2 : dueOf ks wd v g = none → ∀ l H' y dy ks' gs', H l = none → Same H H' → H' l = some (.lst [.str "page", .ref y]) → PgI C dy H' y ks' gs' → Done ks gs wd v g ks' gs' → Q (.ref l) H') : spTold K C [.ref x, .str wd, v, g] H Q E := by
  refine ⟨x, dx, wd, v, g, t, t', ks, gs, rfl, hw, pg, th, th', fun c => q1 _ _ (due_key c), ?_, ?_, ?_, ?_, ?_⟩
  · rintro k rfl hc rfl c
    exact q1 _ _ (due_lacks hc c)
  · rintro c rfl c2
    exact q1 _ _ (due_good c c2)
  · rintro k rfl hc rfl c2 c3 c4
    exact q1 _ _ (due_many hc c2 c3 c4)
  · rintro k j rfl rfl hj l H' y dy fl S e p
    have m := List.mem_of_getElem? hj
    have b := pg.up.2 k m
    have hc : keyV (.int k) = true := by
      show (decide (-999999999 ≤ k) && decide (k ≤ 999999999)) = true
      rw [decide_eq_true b.1, decide_eq_true b.2]
      rfl
    exact q2 (due_without hc m) l H' y dy _ _ fl S e p (.inr ⟨rfl, k, j, rfl, hj, rfl, rfl⟩)
  · rintro k m rfl rfl rfl hc hc2 c l H' y dy ks' gs' fl S e p pu
    exact q2 (due_with hc hc2 c) l H' y dy _ _ fl S e p (.inl ⟨rfl, k, m, rfl, rfl, pu⟩)
end
theorem due_told {ks : List Int} {wd w : Str} {v g u : V} {p : Addr} {H : Hp} {d d' : PyData} (h : dueOf ks wd v g = some (w, u)) (tv : Told p H v d) (tg : Told p H g d') : (∃ d0, Told p H u d0) ∧ (u = v ∨ u = g ∨ u = .int 7) ∧ (PyData.str w).leavesShort 40 = true ∧ w.cps.size ≤ 100 := by
  have w1 : (PyData.str "key").leavesShort 40 = true ∧ ("key" : Str).cps.size ≤ 100 := by decide +kernel
  have w2 : (PyData.str "lacks").leavesShort 40 = true ∧ ("lacks" : Str).cps.size ≤ 100 := by decide +kernel
  have w3 : (PyData.str "good").leavesShort 40 = true ∧ ("good" : Str).cps.size ≤ 100 := by decide +kernel
  have w4 : (PyData.str "many").leavesShort 40 = true ∧ ("many" : Str).cps.size ≤ 100 := by decide +kernel
  cases hc : keyV v with
  | false =>
    rw [due_key hc] at h
    cases h
    exact ⟨⟨_, tv⟩, .inl rfl, w1⟩
  | true =>
    obtain ⟨k, rfl, _⟩ := keyV_int hc
    unfold dueOf at h
    dsimp only at h
    rw [if_pos hc] at h
    split at h
    · split at h
      · cases h
      · cases h
        exact ⟨⟨_, tv⟩, .inl rfl, w2⟩
    · split at h
      · split at h
        · cases h
        · cases h
          exact ⟨⟨_, told_int (by decide)⟩, .inr (.inr rfl), w4⟩
      · cases h
        exact ⟨⟨_, tg⟩, .inr (.inl rfl), w3⟩
theorem okd_two {d d' : PyData} (x : Small d) (x' : Small d') : Okd 100000 (.list [d, d']) := by
  obtain ⟨a, b, c, e⟩ := smalls_row (ds := [d, d']) fun y hy => by
    rcases List.mem_cons.mp hy with rfl | hy
    · exact x
    · rw [List.mem_singleton.mp hy]; exact x'
  refine ⟨a, b, ?_, ?_⟩
  · simp only [PyData.depth]; omega
  · simp only [PyData.weight]
    have : ([d, d'] : List PyData).length = 2 := rfl
    omega
end K12

set_option Elab.async false
set_option linter.all false
set_option maxRecDepth 100000
set_option maxHeartbeats 1000000
namespace K12
open PySem L2
theorem dv_two {p l : Addr} {H : Hp} {v g : V} {d d' : PyData} (tv : Told p H v d) (tg : Told p H g d') (e : H l = some (.lst [v, g])) : DV (fun _ => False) H (.ref l) (.list [d, d']) :=
  .lst (fun z => z) e (.cons (tv.1.keep (fun _ _ _ z => z) fun _ z => z.elim) (.cons (tg.1.keep (fun _ _ _ z => z) fun _ z => z.elim) .nil))
theorem dv_there {N : Addr → Prop} {H : Hp} {a : Addr} {d : PyData} (x : DV N H (.ref a) d) : ∃ o, H a = some o := by
  cases x with
  | lst _ e _ => exact ⟨_, e⟩
  | tup _ e _ => exact ⟨_, e⟩
  | dct _ e _ => exact ⟨_, e⟩
theorem told_same {p : Addr} {H H' : Hp} {v : V} {d : PyData} (x : Told p H v d) (s : Same H H') : Told p H' v d := x.keep s.kb
theorem PgI.past {C dx x : Addr} {H H' : Hp} {ks gs : List Int} {u : V} (p : PgI C dx H x ks gs) (k : ∀ b o, H b = some o → u ≠ .ref b → H' b = some o) (f : ∀ a, u = .ref a → ∀ o, H a = some o → ∃ xs, o = .lst xs) : PgI C dx H' x ks gs := by
  obtain ⟨⟨tk, tg, a, b, c⟩, p2, p3, p4, p5⟩ := p
  have ne : ∀ {y : Addr} {o : HO}, H y = some o → (∀ xs, o ≠ .lst xs) → u ≠ .ref y := fun {y o} h n e => by
    obtain ⟨xs, q⟩ := f y e o h
    exact n xs q
  exact ⟨⟨tk, tg, k _ _ a (ne a fun xs z => nomatch z), k _ _ b (ne b fun xs z => nomatch z), k _ _ c (ne c fun xs z => nomatch z)⟩, p2, p3, p4, p5⟩
section
variable {P : Program} {w : World} {K : PySem.W.Frag} {mg : Str → Option Value} {base : Heap}
abbrev s__law_step : Stmt := top 44
theorem sc__law_step : FnScope ["_law_box_here", "_law_page", "_law_known", "_law_word", "_law_key", "_law_good_here", "_law_due_here", "_law_was", "_law_found", "_law_other"] ["_law_box_here", "_law_page", "_law_known"] (defScope s__law_step) := ⟨rfl, rfl, rfl, by decide +kernel, rfl, by decide +kernel, by decide +kernel⟩
def spStep (C : Addr) : Sp := fun vs H Q _ => ∃ (p x dx kd : Addr) (n : Nat) (kvs : List (Key × V)) (ks gs : List Int), vs = [.ref p, .ref x, .ref kd] ∧ Box H p n ∧ n ≤ 900000 ∧ PgI C dx H x ks gs ∧ H kd = some (.dK kvs) ∧ Knows kvs ks gs ∧
  ∀ (t x' dx' kd' : Addr) (kvs' : List (Key × V)) (ks' gs' : List Int) (H' : Hp), H' t = some (.tup [.ref x', .ref kd']) → PgI C dx' H' x' ks' gs' → H' kd' = some (.dK kvs') → Knows kvs' ks' gs' → KB p H H' → Q (.ref t) H'
theorem ok_step {C : Addr} (hd : ∃ f fd, Dn K mg "_law_step" "_law_step" s__law_step ["_law_box_here", "_law_page", "_law_known"] f fd) (T : Txt K mg) (h1 : OkD P w K mg base "_law_deed" s__law_deed ["_law_box_here", "_law_known"] 3 spDeed) (h2 : OkD P w K mg base "_law_due" s__law_due ["_law_known", "_law_word", "_law_key", "_law_good_here"] 2 (spDue K))
    (h3 : OkD P w K mg base "_law_told" s__law_told ["_law_page", "_law_word", "_law_key", "_law_good_here"] 14 (spTold K C)) (h4 : OkD P w K mg base "_law_is_due" s__law_is_due ["_law_found", "_law_due_here"] 1 spIsDue) (h5 : OkD P w K mg base "_law_stands" s__law_stands ["_law_page", "_law_known"] 2 (spStands C)) :
    OkD P w K mg base "_law_step" s__law_step ["_law_box_here", "_law_page", "_law_known"] 16 (spStep C) := by
  obtain ⟨f, fd, D⟩ := hd
  obtain ⟨f1, fd1, D_law_deed, G_law_deed⟩ := h1
  obtain ⟨f2, fd2, D_law_due, G_law_due⟩ := h2
  obtain ⟨f3, fd3, D_law_told, G_law_told⟩ := h3
  obtain ⟨f4, fd4, D_law_is_due, G_law_is_due⟩ := h4
  obtain ⟨f5, fd5, D_law_stands, G_law_stands⟩ := h5
  refine ⟨f, fd, D, D.fn.ok sc__law_step (fun vs H Q E h => ?_) (fun cdv A outer s H vs Q E hr h => ?_)⟩
  · obtain ⟨_, _, _, _, _, _, _, _, rfl, _⟩ := h
    rfl
  · obtain ⟨p, x, dx, kd, n, kvs, ks, gs, rfl, B, hn, pg, hk, kn, k⟩ := h
    have sc := sc__law_step
    obtain ⟨ks0, e0, pm⟩ := kn.1
    have fw := pg.few
    have l0 := pm.length_eq
    have npk : kd ≠ p := by
      obtain ⟨_, _, _, e, _⟩ := B
      exact ne_of hk e (by intro z; cases z)
    have kbp : ∀ {H' : Hp}, KB p H H' → PgI C dx H' x ks gs := fun {H'} kb => by
      obtain ⟨_, _, _, e, _⟩ := B
      obtain ⟨⟨tk, tg, a, b, c⟩, p2, p3, p4, p5⟩ := pg
      exact ⟨⟨tk, tg, kb _ _ a (ne_of a e (by intro z; cases z)), kb _ _ b (ne_of b e (by intro z; cases z)), kb _ _ c (ne_of c e (by intro z; cases z))⟩, p2, p3, p4, p5⟩
    refine ⟨_, (pss_cons (ps_asg (pe_call G_law_deed (hr.mono (by decide)) rfl D_law_deed.m D_law_deed.fn.kp D_law_deed.b .nil pass0 (pa_c (pv 0) (pa_c (pv 2) pa_nil))) (pg_tup rfl (pgs_cons (pg_name (i := 3) sc.nd rfl (Or.inl rfl)) (pgs_cons (pg_name (i := 4) sc.nd rfl (Or.inl rfl)) (pgs_cons (pg_name (i := 5) sc.nd rfl (Or.inl rfl)) pgs_nil)))))
    (pss_cons (ps_set (i := 6) sc.nd rfl (Or.inl rfl) (pe_call G_law_due (hr.mono (by decide)) rfl D_law_due.m D_law_due.fn.kp D_law_due.b .nil pass0 (pa_c (pv 2) (pa_c (pv 3) (pa_c (pv 4) (pa_c (pv 5) pa_nil))))))
    (pss_cons (ps_set (i := 7) sc.nd rfl (Or.inl rfl) (pe_callB (call_reprD hr.gd hr.units) rfl T.n_repr bt_repr (pa_c (pe_lst (pa_c (pv 4) (pa_c (pv 5) pa_nil))) pa_nil)))
    (pss_cons (ps_set (i := 8) sc.nd rfl (Or.inl rfl) (pe_call G_law_told (hr.mono (by decide)) rfl D_law_told.m D_law_told.fn.kp D_law_told.b .nil pass0 (pa_c (pv 1) (pa_c (pv 3) (pa_c (pv 4) (pa_c (pv 5) pa_nil))))))
    (pss_cons (ps_if (pt_cmpR op_notN (pv 6) pe_non (nomark _))
      (pss_one (ps_ret (pe_ifExp (PW.pt (pw_and (pt_cmpR op_eq (pe_callB (call_reprD hr.gd hr.units) rfl T.n_repr bt_repr (pa_c (pe_lst (pa_c (pv 4) (pa_c (pv 5) pa_nil))) pa_nil)) (pv 7) (nomark _)) (pw_and1 (pt_val (pe_call G_law_is_due (hr.mono (by decide)) rfl D_law_is_due.m D_law_is_due.fn.kp D_law_is_due.b .nil pass0 (pa_c (pv 8) (pa_c (pv 6) pa_nil))))))) (pe_tup (pa_c (pv 1) (pa_c (pv 2) pa_nil))) pe_non)))
      pss_nil)
    (pss_cons (ps_if (pt_cmpR op_ne (pe_ix ix_list (pv 8) pe_int (fun _ _ => rfl)) pe_str (nomark _))
      (pss_one (ps_ret pe_non))
      pss_nil)
    (pss_cons (ps_set (i := 9) sc.nd rfl (Or.inl rfl) (pe_callTy call_dictD rfl T.n_dict bt_dict (pa_c (pv 2) pa_nil)))
    (pss_cons (ps_if (pt_cmpR op_eq (pv 3) pe_str (nomark _))
      (pss_one (ps_dput (hu_of hr) (pv 9) (pv 4) (pv 5) rfl))
      (pss_one (ps_expr (pe_dpop1 (pv 9) (pv 4) ⟨rfl, rfl, rfl, rfl⟩))))
    (pss_one (ps_ret (pe_ifExp (PW.pt (pw_and (pt_val (pe_call G_law_stands (hr.mono (by decide)) rfl D_law_stands.m D_law_stands.fn.kp D_law_stands.b .nil pass0 (pa_c (pe_ix ix_list (pv 8) pe_int (fun _ _ => rfl)) (pa_c (pv 9) pa_nil)))) (pw_and1 (pt_val (pe_call G_law_stands (hr.mono (by decide)) rfl D_law_stands.m D_law_stands.fn.kp D_law_stands.b .nil pass0 (pa_c (pv 1) (pa_c (pv 2) pa_nil))))))) (pe_tup (pa_c (pe_ix ix_list (pv 8) pe_int (fun _ _ => rfl)) (pa_c (pv 9) pa_nil))) pe_non))))))))))), ?_⟩
    refine ⟨_, rfl, _, rfl, p, kd, n, kvs, ks0, rfl, B, hn, hk, e0, by omega, fun a ha => pg.up.2 a (pm.mem_iff.mp ha), fun t wd v g d d' H1 hwd et tv tg fv fg k1 => ?_⟩
    refine ⟨t, _, rfl, SqT.of et, rfl, _, _, rfl, _, _, rfl, _, _, rfl, rfl, ?_⟩
    have hk1 := k1 _ _ hk npk
    refine ⟨_, rfl, _, rfl, _, rfl, _, rfl, ?_⟩
    dsimp only [tNil, List.append_nil]
    refine due_two (ks := ks) hk1 e0 pm hwd tv.1.thg tg.1.thg ?_ ?_
    · intro wu u hdu l H2 fl S2 el
      have tv2 := told_same tv S2
      have tg2 := told_same tg S2
      refine ⟨_, rfl, _, rfl, (by show 2 ≤ sizeLine; decide), fun l3 f3 => ?_⟩
      have S3 := Same.upd (o := .lst [v, g]) f3
      refine ⟨.ref l3, fun _ => False, _, rfl, dv_two (told_same tv2 S3) (told_same tg2 S3) upd_same, okd_two tv.2 tg.2, ?_⟩
      have tv3 := told_same tv2 S3
      have tg3 := told_same tg2 S3
      have S13 := S2.trans S3
      have el3 := S3 _ _ el
      generalize upd H2 l3 (.lst [v, g]) = H3 at *
      have pg3 := kbp (k1.trans S13.kb)
      refine ⟨_, rfl, _, rfl, _, rfl, _, rfl, ?_⟩
      dsimp only [tNil, List.append_nil]
      refine told_two pg3 hwd tv3.1.thg tg3.1.thg ?_ ?_
      · intro w2 u2 hdu2 lf H4 f4 S4 e4
        rw [hdu] at hdu2
        cases hdu2
        have S14 := S13.trans S4
        have tv4 := told_same tv3 S4
        have tg4 := told_same tg3 S4
        refine ⟨_, rfl, rfl, _, rfl, iteE (c := true) (by rfl) (iteT ?_)⟩
        refine ⟨_, rfl, _, rfl, (by show 2 ≤ sizeLine; decide), fun l5 f5 => ?_⟩
        have S5 := Same.upd (o := .lst [v, g]) f5
        refine ⟨.ref l5, fun _ => False, _, rfl, dv_two (told_same tv4 S5) (told_same tg4 S5) upd_same, okd_two tv.2 tg.2, _, rfl, rfl, _, rfl, iteE (c := true) (decide_eq_true rfl) (iteT ?_)⟩
        have tv5 := told_same tv4 S5
        have tg5 := told_same tg4 S5
        have S15 := S14.trans S5
        have e5 := S5 _ _ e4
        have el5 := S5 _ _ (S4 _ _ el3)
        generalize upd H4 l5 (.lst [v, g]) = H5 at *
        obtain ⟨⟨d0, td0⟩, hu, w1, w2⟩ := due_told hdu tv5 tg5
        have flu : ∀ a, u = .ref a → H a = none := fun a e => by
          rcases hu with rfl | rfl | rfl
          · exact fv a e
          · exact fg a e
          · cases e
        have old : ∀ a, u = .ref a → H1 a ≠ none := fun a e z => by
          rcases hu with rfl | rfl | rfl
          · subst e; obtain ⟨_, q⟩ := dv_there tv.1; rw [z] at q; cases q
          · subst e; obtain ⟨_, q⟩ := dv_there tg.1; rw [z] at q; cases q
          · cases e
        refine ⟨_, rfl, _, rfl, p, lf, l, _, u, d0, rfl, e5, el5, fun e => old lf e (S13.free f4), fun e => old l e fl, td0, w1, w2, fun H6 k6 => ⟨_, rfl, iteT ?_⟩⟩
        have K6 : KB p H H6 := fun b o z nb => k6 b o (S15 _ _ (k1 b o z nb)) fun e => by rw [flu b e] at z; cases z
        refine ⟨_, rfl, _, rfl, (by show 2 ≤ sizeLine; decide), fun t7 f7 => ?_⟩
        have S7 := Same.upd (o := .tup [.ref x, .ref kd]) f7
        exact k t7 x dx kd kvs ks gs _ upd_same ((kbp K6).keep S7) (S7 _ _ (K6 _ _ hk npk)) kn (K6.trans S7.kb)
      · intro hdu2
        rw [hdu] at hdu2
        cases hdu2
    · intro hdu
      refine ⟨_, rfl, _, rfl, (by show 2 ≤ sizeLine; decide), fun l3 f3 => ?_⟩
      have S3 := Same.upd (o := .lst [v, g]) f3
      refine ⟨.ref l3, fun _ => False, _, rfl, dv_two (told_same tv S3) (told_same tg S3) upd_same, okd_two tv.2 tg.2, ?_⟩
      have tv3 := told_same tv S3
      have tg3 := told_same tg S3
      generalize upd H1 l3 (.lst [v, g]) = H3 at *
      have K3 := k1.trans S3.kb
      have pg3 := kbp K3
      refine ⟨_, rfl, _, rfl, _, rfl, _, rfl, ?_⟩
      dsimp only [tNil, List.append_nil]
      refine told_two pg3 hwd tv3.1.thg tg3.1.thg ?_ ?_
      · intro w2 u2 hdu2
        rw [hdu] at hdu2
        cases hdu2
      · intro _ lf H4 y dy ks' gs' f4 S4 e4 py dn
        have K4 := K3.trans S4.kb
        have hk4 := K4 _ _ hk npk
        refine ⟨_, rfl, rfl, _, rfl, iteE (c := false) (by rfl) (iteF ?_)⟩
        refine ⟨_, rfl, _, _, _, _, rfl, rfl, SqL.of e4, rfl, rfl, _, rfl, iteE (c := false) (by decide +kernel) (iteF ?_)⟩
        refine ⟨_, rfl, kd, kvs, rfl, .inl hk4, fun od fo => ?_⟩
        have S5 := Same.upd (o := .dK kvs) fo
        have eo := upd_same (H := H4) (a := od) (o := .dK kvs)
        have K5 := K4.trans S5.kb
        have e5 := S5 _ _ e4
        have py5 := py.keep S5
        have nlo : lf ≠ od := ne_of_none e4 fo
        generalize upd H4 od (.dK kvs) = H5 at *
        dsimp only [gName, tNext]
        refine seq2 (fun σ H6 => ∃ kvs', σ = [some (.ref p), some (.ref x), some (.ref kd), some (.str wd), some v, some g, some .non, some (.str (PyData.list [d, d']).shown), some (.ref lf), some (.ref od)] ∧ H6 od = some (.dK kvs') ∧ Knows kvs' ks' gs' ∧ KB p H H6 ∧ PgI C dy H6 y ks' gs' ∧ H6 lf = some (.lst [.str "page", .ref y])) ?s8 ?r8
        case s8 =>
          intro N q
          refine ⟨_, rfl, rfl, _, rfl, ?_⟩
          have pyU : ∀ kv, PgI C dy (upd H5 od (.dK kv)) y ks' gs' := fun kv => by
            obtain ⟨⟨tk, tg, a, b, c⟩, p2, p3, p4, p5⟩ := py5
            exact ⟨⟨tk, tg, by rw [upd_ne (ne_of a eo (by intro z; cases z))]; exact a, by rw [upd_ne (ne_of b eo (by intro z; cases z))]; exact b, by rw [upd_ne (ne_of c eo (by intro z; cases z))]; exact c⟩, p2, p3, p4, p5⟩
          have kU : ∀ kv, KB p H (upd H5 od (.dK kv)) := fun kv b o z nb => by
            rw [upd_ne (ne_of_none (K4 b o z nb) fo)]
            exact K5 b o z nb
          have lU : ∀ kv, upd H5 od (.dK kv) lf = some (.lst [.str "page", .ref y]) := fun kv => by rw [upd_ne nlo]; exact e5
          have lkv : kvs.length < sizeLine := by
            have := congrArg List.length e0
            simp only [List.length_map] at this
            have := big1000
            omega
          rcases dn with ⟨rfl, a, m, rfl, rfl, pu⟩ | ⟨rfl, a, j, rfl, hj, rfl, rfl⟩
          · refine iteE (c := true) (decide_eq_true rfl) (iteT ⟨_, rfl, _, rfl, _, rfl, od, _, rfl, DPut.k (k := Sum.inl a) eo lkv, ?_⟩)
            exact q _ _ ⟨_, rfl, upd_same, knows_put kn pg.up py.up pg.len py.len pu, kU _, pyU _, lU _⟩
          · refine iteE (c := false) (by decide +kernel) (iteF ⟨_, rfl, od, rfl, .inl ⟨_, .inl eo⟩, _, rfl, kvs, Sum.inl a, _, eo, rfl, kn.2 j a (gs[j]'(by rw [pg.len]; exact (List.getElem?_eq_some_iff.mp hj).1)) hj (List.getElem?_eq_getElem _), ?_⟩)
            exact q _ _ ⟨_, rfl, upd_same, knows_drop kn pg.up pg.len hj, kU _, pyU _, lU _⟩
        case r8 =>
        rintro _ H6 ⟨kvs', rfl, eo6, kn6, K6, py6, e6⟩
        refine ⟨_, rfl, _, _, _, _, rfl, rfl, SqL.of e6, rfl, _, rfl, y, dy, od, kvs', ks', gs', rfl, py6, eo6, kn6, fun H7 S7 => ⟨_, rfl, iteT ?_⟩⟩
        have K7 := K6.trans S7.kb
        refine ⟨_, rfl, _, rfl, x, dx, kd, kvs, ks, gs, rfl, kbp K7, K7 _ _ hk npk, kn, fun H8 S8 => ⟨_, rfl, iteT ?_⟩⟩
        have S68 := S7.trans S8
        refine ⟨_, rfl, _, _, _, _, rfl, rfl, SqL.of (S68 _ _ e6), rfl, _, rfl, (by show 2 ≤ sizeLine; decide), fun t9 f9 => ?_⟩
        have S9 := Same.upd (o := .tup [.ref y, .ref od]) f9
        exact k t9 y dy od kvs' ks' gs' _ upd_same ((py6.keep S68).keep S9) (S9 _ _ (S68 _ _ eo6)) kn6 ((K6.trans S68.kb).trans S9.kb)
end
end K12

set_option Elab.async false
set_option linter.all false
set_option maxRecDepth 100000
set_option maxHeartbeats 1000000
namespace K12
open PySem L2
theorem sq_same {K : PySem.W.Frag} {H H' : Hp} {a : Addr} {xs : List V} (h : SqL K H a xs) (s : Same H H') : SqL K H' a xs := by
  rcases h with (h | ⟨o, h⟩) | h
  · exact .inl (.inl (s _ _ h))
  · exact .inl (.inr ⟨o, s _ _ h⟩)
  · exact .inr h
theorem kb_same {H H1 H2 : Hp} {p : Addr} (f : H p = none) (s : Same H H1) (k : KB p H1 H2) : Same H H2 := fun b o h => k b o (s b o h) (ne_of_none h f)
theorem atI_back {xs : List V} {z : Int} (h0 : 0 ≤ z) (h1 : z < xs.length) : ∃ v, v ∈ xs ∧ atI xs (-1 - z) = some v := by
  have hj : (xs.length - 1 - z.toNat) < xs.length := by omega
  refine ⟨xs[xs.length - 1 - z.toNat], List.getElem_mem hj, ?_⟩
  unfold atI ixN
  rw [if_neg (by omega), if_pos (by omega), Option.bind_some, show ((-1 - z + (xs.length : Int)).toNat) = xs.length - 1 - z.toNat by omega]
  exact List.getElem?_eq_getElem hj
def Kept (C : Addr) (H : Hp) (t : Addr) : Prop := ∃ (x dx kd : Addr) (kvs : List (Key × V)) (ks gs : List Int), H t = some (.tup [.ref x, .ref kd]) ∧ PgI C dx H x ks gs ∧ H kd = some (.dK kvs) ∧ Knows kvs ks gs
theorem Kept.past {C : Addr} {H H' : Hp} {t : Addr} (x : Kept C H t) (k : ∀ b o, H b = some o → (∀ xs, o ≠ .lst xs) → H' b = some o) : Kept C H' t := by
  obtain ⟨x, dx, kd, kvs, ks, gs, h1, ⟨⟨tk, tg, a, b, c⟩, p2, p3, p4, p5⟩, h3, h4⟩ := x
  exact ⟨x, dx, kd, kvs, ks, gs, k _ _ h1 (fun _ z => nomatch z), ⟨⟨tk, tg, k _ _ a (fun _ z => nomatch z), k _ _ b (fun _ z => nomatch z), k _ _ c (fun _ z => nomatch z)⟩, p2, p3, p4, p5⟩, k _ _ h3 (fun _ z => nomatch z), h4⟩
theorem Kept.same {C : Addr} {H H' : Hp} {t : Addr} (x : Kept C H t) (s : Same H H') : Kept C H' t := x.past fun b o h _ => s b o h
theorem Kept.kb {C p : Addr} {n : Nat} {H H' : Hp} {t : Addr} (x : Kept C H t) (B : Box H p n) (k : KB p H H') : Kept C H' t := x.past fun b o h nl => k b o h fun e => by
  subst e
  obtain ⟨_, q⟩ := B.lst
  rw [h] at q
  cases q
  exact nl _ rfl
theorem Kept.updL {C l : Addr} {H : Hp} {xs ys : List V} {t : Addr} (x : Kept C H t) (h : H l = some (.lst xs)) : Kept C (upd H l (.lst ys)) t := x.past fun b o hb nl => by
  rw [upd_ne]
  · exact hb
  · rintro rfl
    rw [h] at hb
    cases hb
    exact nl _ rfl
def spLaw (K : PySem.W.Frag) : Sp := fun vs H Q _ => ∃ (a : Addr) (ns : List Int), vs = [.ref a] ∧ SqL K H a (ns.map V.int) ∧ ns.length ≤ 63 ∧ ∀ H', Q (.bl true) H'
section
variable {P : Program} {w : World} {K : PySem.W.Frag} {mg : Str → Option Value} {base : Heap}
abbrev s_law : Stmt := top 45
theorem sc_law : FnScope ["_law_script", "_law_box_here", "_law_page", "_law_keys_here", "_law_goods", "_law_kept", "_law_k", "_law_at", "_law_known", "_law_step_here"] ["_law_script"] (defScope s_law) := ⟨rfl, rfl, rfl, by decide +kernel, rfl, by decide +kernel, by decide +kernel⟩
theorem ok_law {C : Addr} (hd : ∃ f fd, Dn K mg "law" "law" s_law ["_law_script"] f fd) (T : Txt K mg) (h1 : OkD P w K mg base "_law_cell" s__law_cell ["_law_script", "_law_k"] 1 (spCell K)) (h2 : OkD P w K mg base "_law_box" s__law_box ["_law_cell_here"] 1 spBox)
    (h3 : OkD P w K mg base "_law_leaf" s__law_leaf ["_law_box_here"] 10 (spLeaf C)) (h4 : OkD P w K mg base "_law_take" s__law_take ["_law_box_here", "_law_many"] 1 spTake) (h5 : OkD P w K mg base "_law_step" s__law_step ["_law_box_here", "_law_page", "_law_known"] 16 (spStep C)) (h6 : OkD P w K mg base "_law_stands" s__law_stands ["_law_page", "_law_known"] 2 (spStands C)) :
    OkD P w K mg base "law" s_law ["_law_script"] 18 (spLaw K) := by
  obtain ⟨f, fd, D⟩ := hd
  obtain ⟨f1, fd1, D_law_cell, G_law_cell⟩ := h1
  obtain ⟨f2, fd2, D_law_box, G_law_box⟩ := h2
  obtain ⟨f3, fd3, D_law_leaf, G_law_leaf⟩ := h3
  obtain ⟨f4, fd4, D_law_take, G_law_take⟩ := h4
  obtain ⟨f5, fd5, D_law_step, G_law_step⟩ := h5
  obtain ⟨f6, fd6, D_law_stands, G_law_stands⟩ := h6
  refine ⟨f, fd, D, D.fn.ok sc_law (fun vs H Q E h => ?_) (fun cdv A outer s H vs Q E hr h => ?_)⟩
  · obtain ⟨_, _, rfl, _⟩ := h
    rfl
  · obtain ⟨a, ns, rfl, hS, hz, k⟩ := h
    have sc := sc_law
    refine' ⟨_, (pss_cons (ps_set (i := 1) sc.nd rfl (Or.inl rfl) (pe_call G_law_box (hr.mono (by decide)) rfl D_law_box.m D_law_box.fn.kp D_law_box.b .nil pass0 (pa_c (pe_call G_law_cell (hr.mono (by decide)) rfl D_law_cell.m D_law_cell.fn.kp D_law_cell.b .nil pass0 (pa_c (pv 0) (pa_c pe_int pa_nil))) pa_nil)))
    (pss_cons (ps_asg (pe_call G_law_leaf (hr.mono (by decide)) rfl D_law_leaf.m D_law_leaf.fn.kp D_law_leaf.b .nil pass0 (pa_c (pv 1) pa_nil)) (pg_tup rfl (pgs_cons (pg_name (i := 2) sc.nd rfl (Or.inl rfl)) (pgs_cons (pg_name (i := 3) sc.nd rfl (Or.inl rfl)) (pgs_cons (pg_name (i := 4) sc.nd rfl (Or.inl rfl)) pgs_nil)))))
    (pss_cons (ps_set (i := 5) sc.nd rfl (Or.inl rfl) (pe_lst (pa_c (pe_tup (pa_c (pv 2) (pa_c (pe_dictZip (tp := false) hr.hd rfl T.n_dict rfl T.n_zip bt_dict bt_zip (pa_c (pv 3) (pa_c (pv 4) pa_nil))) pa_nil))) pa_nil)))
    (pss_cons (ps_for PassesOwn.never rfl (pi_range2 rfl T.n_range (pa_c pe_int (pa_c (pe_callB (call_max2 rfl) rfl T.n_max bt_max (pa_c pe_int (pa_c (pe_callB (call_min2 rfl) rfl T.n_min bt_min (pa_c pe_int (pa_c (pe_callB call_len_seq rfl T.n_len bt_len (pa_c (pv 0) pa_nil)) pa_nil))) pa_nil))) pa_nil))) (pg_name (i := 6) sc.nd rfl (Or.inl rfl))
      (pss_cons (ps_set (i := 1) sc.nd rfl (Or.inl rfl) (pe_call G_law_box (hr.mono (by decide)) rfl D_law_box.m D_law_box.fn.kp D_law_box.b .nil pass0 (pa_c (pe_call G_law_cell (hr.mono (by decide)) rfl D_law_cell.m D_law_cell.fn.kp D_law_cell.b .nil pass0 (pa_c (pv 0) (pa_c (pv 6) pa_nil))) pa_nil)))
    (pss_cons (ps_set (i := 7) sc.nd rfl (Or.inl rfl) (pe_ix ix_list (pe_lst (pa_c pe_int (pa_c pe_int (pa_c pe_int (pa_c pe_int (pa_c pe_int (pa_c pe_int pa_nil))))))) (pe_call G_law_take (hr.mono (by decide)) rfl D_law_take.m D_law_take.fn.kp D_law_take.b .nil pass0 (pa_c (pv 1) (pa_c pe_int pa_nil))) (fun _ _ => rfl)))
    (pss_cons (ps_asg (pe_ix ix_list (pv 5) (pe_op op_sub (pe_un un_neg pe_int) (pe_op op_mod (pv 7) (pe_callB call_len_seq rfl T.n_len bt_len (pa_c (pv 5) pa_nil)))) (fun _ _ => rfl)) (pg_tup rfl (pgs_cons (pg_name (i := 2) sc.nd rfl (Or.inl rfl)) (pgs_cons (pg_name (i := 8) sc.nd rfl (Or.inl rfl)) pgs_nil))))
    (pss_cons (ps_set (i := 9) sc.nd rfl (Or.inl rfl) (pe_call G_law_step (hr.mono (by decide)) rfl D_law_step.m D_law_step.fn.kp D_law_step.b .nil pass0 (pa_c (pv 1) (pa_c (pv 2) (pa_c (pv 8) pa_nil)))))
    (pss_cons (ps_if (pt_cmpR op_isN (pv 9) pe_non (nomark _))
      (pss_one (ps_ret pe_bl))
      pss_nil)
    (pss_one (ps_expr (pe_bm PySem.F.plainAttrs_list PySem.F.slot_list_append PySem.F.type_list_append mt_append (pv 5) (pa_c (pv 9) pa_nil))))))))))
    (pss_cons (ps_for PassesOwn.never rfl (pi_list (pv 5)) (pg_tup rfl (pgs_cons (pg_name (i := 2) sc.nd rfl (Or.inl rfl)) (pgs_cons (pg_name (i := 8) sc.nd rfl (Or.inl rfl)) pgs_nil)))
      (pss_one (ps_if (pt_not (pt_val (pe_call G_law_stands (hr.mono (by decide)) rfl D_law_stands.m D_law_stands.fn.kp D_law_stands.b .nil pass0 (pa_c (pv 2) (pa_c (pv 8) pa_nil)))))
      (pss_one (ps_ret pe_bl))
      pss_nil)))
    (pss_one (ps_ret pe_bl))))))), ?_⟩
    refine ⟨_, rfl, a, 0, ns, rfl, hS, fun c' => ⟨c', rfl, fun p H1 fp Bp S1 => ?_⟩⟩
    refine ⟨_, rfl, p, 0, rfl, Bp, by decide, fun t l1 l2 x dx ks gs H2 et pg e1 e2 k2 => ?_⟩
    refine ⟨t, _, rfl, SqT.of et, rfl, _, _, rfl, _, _, rfl, _, _, rfl, rfl, ?_⟩
    have S2 := kb_same fp S1 k2
    refine ⟨_, rfl, _, rfl, _, rfl, l1, l2, ks.map Sum.inl, gs.map V.int, rfl, (by rw [kv_ints]; exact SqL.of e1), SqL.of e2, (by rw [List.length_map, List.length_map, pg.len]), inl_nd pg.up.nd, fun d fd => ?_⟩
    have kn := knows_zip pg.up.nd pg.len
    generalize (ks.map (Sum.inl : Int → Key)).zip (gs.map V.int) = kvs0 at *
    have S3 := Same.upd (o := .dK kvs0) fd
    have ed := upd_same (H := H2) (a := d) (o := .dK kvs0)
    have pg3 := pg.keep S3
    replace S3 := S2.trans S3
    generalize upd H2 d (.dK kvs0) = H3 at *
    refine ⟨(by show 2 ≤ sizeLine; decide), fun t4 f4 => ?_⟩
    have S4 := Same.upd (o := .tup [.ref x, .ref d]) f4
    have kp4 : Kept C (upd H3 t4 (.tup [.ref x, .ref d])) t4 := ⟨x, dx, d, kvs0, ks, gs, upd_same, pg3.keep S4, S4 _ _ ed, kn⟩
    replace S4 := S3.trans S4
    generalize upd H3 t4 (.tup [.ref x, .ref d]) = H4 at *
    refine ⟨(by show 1 ≤ sizeLine; decide), fun lk fl => ?_⟩
    have flH := S4.free fl
    have S5 := Same.upd (o := .lst [.ref t4]) fl
    refine ⟨_, rfl, a, _, rfl, .inl (sq_same hS (S4.trans S5)), _, _, rfl, _, _, rfl, 1, _, rfl, ⟨by decide, by decide, by rw [List.length_map]; split <;> split <;> omega, by rw [List.length_map]; split <;> split <;> omega⟩,
      for_range (fun i σ H6 => ∃ (ts : List Addr) (o1 o2 o3 o4 o6 o7 o8 o9 : Option V), σ = [some (.ref a), o1, o2, o3, o4, some (.ref lk), o6, o7, o8, o9] ∧ H6 lk = some (.lst (ts.map V.ref)) ∧ ts.length = i + 1 ∧ (∀ t ∈ ts, Kept C H6 t) ∧ Same H H6) ⟨[t4], _, _, _, _, _, _, _, _, rfl, upd_same, rfl, fun t ht => by rw [List.mem_singleton.mp ht]; exact kp4.same S5, S4.trans S5⟩ ?_ ?_⟩
    · rintro i σ H6 hi ⟨ts, o1, o2, o3, o4, o6, o7, o8, o9, rfl, el, lts, kp, S6⟩
      have hi40 : i < 63 := by
        rw [List.length_map] at hi
        revert hi
        split <;> split <;> (intro hi; omega)
      refine ⟨_, rfl, _, rfl, a, i + 1, ns, (by show [V.ref a, V.int (1 + (i : Int))] = _; rw [show (1 : Int) + (i : Int) = ((i + 1 : Nat) : Int) by omega]), sq_same hS S6, fun c' => ⟨c', rfl, fun p H7 fp Bp S7 => ?_⟩⟩
      have fpH := S6.free fp
      have elk : lk ≠ p := ne_of_none el fp
      refine ⟨(by show 6 ≤ sizeLine; decide), fun l8 f8 => ?_⟩
      have S8 := Same.upd (o := .lst [.int 0, .int 0, .int 1, .int 2, .int 3, .int 4]) f8
      have e8 := upd_same (H := H7) (a := l8) (o := .lst [.int 0, .int 0, .int 1, .int 2, .int 3, .int 4])
      have n8 : l8 ≠ p := Bp.ne (H1 := H7) f8
      refine ⟨_, rfl, p, 6, 0, rfl, Bp.same S8, by decide, by decide, by decide, fun r H9 r0 r1 B9 k9 => ?_⟩
      obtain ⟨z, hz', ez⟩ := atI_ints (ns := [0, 0, 1, 2, 3, 4]) (r := r) r0 (by show r < 6; exact r1)
      refine ⟨_, _, _, _, rfl, rfl, SqL.of (k9 _ _ e8 n8), ez, ?_⟩
      have S79 := S7.trans S8
      have kp9 : ∀ t ∈ ts, Kept C H9 t := fun t ht => ((kp t ht).same S79).kb (Bp.same S8) k9
      have el9 := k9 _ _ (S79 _ _ el) elk
      have S9 : Same H H9 := kb_same fpH (S6.trans S79) k9
      have z0 : 0 ≤ z := by
        simp only [List.mem_cons, List.not_mem_nil, or_false] at hz'
        omega
      have lp : (0 : Int) < ((ts.map V.ref).length : Nat) := by rw [List.length_map]; omega
      refine ⟨_, rfl, _, rfl, _, rfl, _, rfl, lk, _, rfl, .inl (SqL.of el9), _, _, rfl, rfl, lp, _, _, rfl, rfl, ?_⟩
      obtain ⟨v, hv, ev⟩ := atI_back (xs := ts.map V.ref) (Int.emod_nonneg z (Int.ne_of_gt lp)) (Int.emod_lt_of_pos z lp)
      obtain ⟨t5, ht5, rfl⟩ := List.mem_map.mp hv
      obtain ⟨x', dx', kd', kvs', ks', gs', et5, pg5, hk5, kn5⟩ := kp9 t5 ht5
      refine ⟨lk, _, _, _, rfl, rfl, SqL.of el9, ev, ?_⟩
      refine ⟨t5, _, rfl, SqT.of et5, rfl, _, _, rfl, _, _, rfl, rfl, ?_⟩
      refine ⟨_, rfl, _, rfl, _, rfl, p, x', dx', kd', 1, kvs', ks', gs', rfl, B9, by decide, pg5, hk5, kn5, fun t6 x6 dx6 kd6 kvs6 ks6 gs6 H10 et6 pg6 hk6 kn6 k10 => ?_⟩
      have el10 := k10 _ _ el9 elk
      have kp10 : ∀ t ∈ ts, Kept C H10 t := fun t ht => (kp9 t ht).kb B9 k10
      have S10 : Same H H10 := kb_same fpH S9 k10
      refine ⟨_, rfl, rfl, _, rfl, iteE (c := false) (by rfl) (iteF ?_)⟩
      refine ⟨_, rfl, .inl ⟨rfl, _, SqL.of el10⟩, _, rfl, lk, _, _, rfl, rfl, el10, (by rw [List.length_map]; have := big1000; omega), ts ++ [t6], _, _, _, _, _, _, _, _, rfl, by rw [upd_same, List.map_append]; rfl, by rw [List.length_append, lts]; rfl, fun t ht => ?_, fun b o h => ?_⟩
      · rcases List.mem_append.mp ht with q | q
        · exact (kp10 t q).updL el10
        · rw [List.mem_singleton.mp q]
          exact Kept.updL ⟨x6, dx6, kd6, kvs6, ks6, gs6, et6, pg6, hk6, kn6⟩ el10
      · rw [upd_ne (ne_of_none h flH)]
        exact S10 _ _ h
    · rintro σ H6 ⟨ts, o1, o2, o3, o4, o6, o7, o8, o9, rfl, el, lts, kp, S6⟩
      refine ⟨_, rfl, lk, rfl, ⟨_, SqL.of el⟩, for_list (xs := ts.map V.ref) (fun i σ H7 => (∃ o1 o2 o3 o4 o6 o7 o8 o9, σ = [some (.ref a), o1, o2, o3, o4, some (.ref lk), o6, o7, o8, o9]) ∧ Same H6 H7) ⟨⟨_, _, _, _, _, _, _, _, rfl⟩, Same.refl _⟩ (fun i σ H7 _ ⟨_, S⟩ => SqL.of (S _ _ el)) ?_ ?_⟩
      · rintro i v σ H7 hi ⟨⟨o1, o2, o3, o4, o6, o7, o8, o9, rfl⟩, S7⟩
        obtain ⟨t5, ht5, rfl⟩ := List.mem_map.mp (List.mem_of_getElem? hi)
        obtain ⟨x', dx', kd', kvs', ks', gs', et5, pg5, hk5, kn5⟩ := (kp t5 ht5).same S7
        refine ⟨t5, _, rfl, SqT.of et5, rfl, _, _, rfl, _, _, rfl, rfl, ?_⟩
        refine ⟨_, rfl, _, rfl, x', dx', kd', kvs', ks', gs', rfl, pg5, hk5, kn5, fun H8 S8 => ⟨_, rfl, iteF ⟨⟨_, _, _, _, _, _, _, _, rfl⟩, S7.trans S8⟩⟩⟩
      · rintro σ H7 _
        exact k _
end
end K12

set_option Elab.async false
set_option linter.all false
set_option maxRecDepth 100000
set_option maxHeartbeats 1000000
namespace K12
open PySem L2
structure CF (K : PySem.W.Frag) (mg : Str → Option Value) (T C : Addr) (x q : Str) (st : Stmt) (ps : List Str) : Prop where
  lk : ∃ (qn : Str) (N : Addr) (bs : List Value) (sn : List Str) (sub : List Value) (ab : Bool) (col : Option Bool) (dd : Option Addr) (k0 k1 k2 k3 k5 : Option Value), K.lookup C = some (excClassObj x qn C N bs (.ref T :: bmV) true sn sub ab col dd k0 k1 k2 k3 k5 "ValueError.__new__")
  ini : ∃ fI fd, PySem.W.findIn K (.ref C) "__init__" = some (some (.ref fI)) ∧ PySem.W.isFn K (.ref fI) = true ∧ Fun K "__init__" q st fI fd ∧ Binds K fd ("self" :: ps) []
  kp : PySem.W.keepIn K (.ref C) = true
  sa : PySem.W.findIn K (.ref C) "__setattr__" = some (some (.builtin "object.__setattr__"))
  ga : PySem.W.findIn K (.ref C) "__getattribute__" = some (some (.builtin "BaseException.__getattribute__"))
  no : PySem.W.findIn K (.ref C) "__getattr__" = some none
  ca : PySem.W.findIn K (.ref C) "__class__" = some (some (.builtin "object.__class__"))
  mC : mg x = some (.ref C)
  na : ∀ f ∈ ps, NoAttr K C f
structure TF (K : PySem.W.Frag) (mg : Str → Option Value) (T : Addr) : Prop where
  lk : ∃ (qn : Str) (N : Addr) (bs : List Value) (sn : List Str) (sub : List Value) (ab : Bool) (col : Option Bool) (dd : Option Addr) (k0 k1 k2 k3 k5 : Option Value), K.lookup T = some (excClassObj "TreeError" qn T N bs bmV true sn sub ab col dd k0 k1 k2 k3 k5 "ValueError.__new__") ∧
    ∃ (d0 : Value) (d1 : Option Addr) (es : Array DictEntry) (n : Nat) (sl' : Array (Option Value)), K.lookup N = some ⟨d0, d1, .dict es n, sl'⟩ ∧ strK es = true ∧ nsFind es "__init__" = none
  b : BaseInit K T
  init : PySem.W.findIn K (.ref T) "__init__" = some (some (.builtin "ValueError.__init__"))
  kp : PySem.W.keepIn K (.ref T) = true
  ga : PySem.W.findIn K (.ref T) "__getattribute__" = some (some (.builtin "BaseException.__getattribute__"))
  no : PySem.W.findIn K (.ref T) "__getattr__" = some none
  ca : PySem.W.findIn K (.ref T) "__class__" = some (some (.builtin "object.__class__"))
  cn : PySem.W.specialIn K (.builtin "object.__class__") "__get__" = some (some (.builtin "getset_descriptor.__get__"))
  ct : PySem.W.takesIn K (.builtin "object.__class__") = some true
  mT : mg "TreeError" = some (.ref T)
section
variable {K : PySem.W.Frag} {mg : Str → Option Value} {T C : Addr} {x q : Str} {st : Stmt} {ps : List Str}
theorem cls_in {nm qn : Str} {N : Addr} {bs bm : List Value} {sn : List Str} {sub : List Value} {ab : Bool} {col : Option Bool} {dd : Option Addr} {k0 k1 k2 k3 k5 : Option Value} {id : String} (h : K.lookup C = some (excClassObj nm qn C N bs bm true sn sub ab col dd k0 k1 k2 k3 k5 id)) :
    ∃ cd, PySem.W.clsIn K C = some cd ∧ cd.name = nm ∧ cd.hasDict = true ∧ cd.mro = .ref C :: bm ∧ PySem.W.typeIn K (.ref C) = some (.type "type") := by
  refine ⟨_, by unfold PySem.W.clsIn; rw [h], rfl, rfl, rfl, ?_⟩
  show (K.lookup C).map (·.cls) = _
  rw [h]
  rfl
theorem CF.cd (c : CF K mg T C x q st ps) : ∃ cd, PySem.W.clsIn K C = some cd ∧ cd.name = x ∧ cd.hasDict = true ∧ cd.mro = .ref C :: .ref T :: bmV ∧ PySem.W.typeIn K (.ref C) = some (.type "type") := by
  obtain ⟨_, _, _, _, _, _, _, _, _, _, _, _, _, h⟩ := c.lk
  exact cls_in h
theorem TF.cd (t : TF K mg T) : ∃ cd, PySem.W.clsIn K T = some cd ∧ cd.name = "TreeError" ∧ cd.hasDict = true ∧ cd.mro = .ref T :: bmV ∧ PySem.W.typeIn K (.ref T) = some (.type "type") := by
  obtain ⟨_, _, _, _, _, _, _, _, _, _, _, _, _, h, _⟩ := t.lk
  exact cls_in h
theorem mro_cd {cd : ClassData} {l : List Value} {b : Value} (h : PySem.W.clsIn K C = some cd) (m : cd.mro = .ref C :: l) : PySem.W.mroIn K C b = some ((Value.ref C :: l).contains b) := by
  unfold PySem.W.mroIn
  rw [h, Option.bind_some, m]
  rfl
theorem hd_cd {cd : ClassData} (h : PySem.W.clsIn K C = some cd) (d : cd.hasDict = true) : PySem.W.hasDictIn K C = true := by
  unfold PySem.W.hasDictIn
  rw [h]
  exact d
theorem TF.g (t : TF K mg T) : ExG K T := by
  obtain ⟨cd, h, _, d, m, _⟩ := t.cd
  exact ⟨t.ga, t.no, (mro_cd h m).trans rfl, hd_cd h d, t.ca, t.cn, t.ct, (mro_cd h m).trans rfl, (mro_cd h m).trans rfl, (mro_cd h m).trans rfl, (mro_cd h m).trans rfl, (mro_cd h m).trans rfl⟩
theorem CF.g (c : CF K mg T C x q st ps) (t : TF K mg T) : ExG K C := by
  obtain ⟨cd, h, _, d, m, _⟩ := c.cd
  exact ⟨c.ga, c.no, (mro_cd h m).trans rfl, hd_cd h d, c.ca, t.cn, t.ct, (mro_cd h m).trans rfl, (mro_cd h m).trans rfl, (mro_cd h m).trans rfl, (mro_cd h m).trans rfl, (mro_cd h m).trans rfl⟩
theorem CF.er {C : Addr} {nm q fld : Str} {st : Stmt} (c : CF K mg T C nm q st [fld]) (t : TF K mg T) : ∃ fI fd, ErN K mg nm q st fld C T fI fd := by
  obtain ⟨cd, h, _, d, m, ty⟩ := c.cd
  obtain ⟨fI, fd, i1, i2, i3, i4⟩ := c.ini
  obtain ⟨qn, N, bs, sn, sub, ab, col, dd, k0, k1, k2, k3, k5, l⟩ := c.lk
  obtain ⟨_, TN, _, _, _, _, _, _, _, _, _, _, _, tl, d0, d1, es, n, sl', l2, s1, s2⟩ := t.lk
  exact ⟨fI, fd, { f := ⟨⟨⟨_, _, _, _, _, _, _, _, _, _, _, _, _, _, _, l⟩, ⟨_, _, _, _, tl, d0, d1, es, n, sl', l2, s1, s2⟩, i1, i2, c.kp⟩, hd_cd h d, c.sa⟩, g := c.g t, b := t.b, r := ⟨(mro_cd h m).trans rfl, ty⟩, fn := i3, bi := i4, mC := c.mC, mT := t.mT, no := c.na _ (List.mem_singleton.mpr rfl), xC := ⟨(mro_cd h m).trans rfl, ty, by rw [h]; rfl⟩, self := (mro_cd h m).trans (by rw [List.contains_cons]; simp) }⟩
theorem TF.xm (t : TF K mg T) : ExM K T := by
  obtain ⟨cdT, hT, _, dT, mT, tyT⟩ := t.cd
  exact ⟨(mro_cd hT mT).trans rfl, tyT, by rw [hT]; rfl⟩
theorem CF.apart {C D : Addr} {x y q q' : Str} {st st' : Stmt} {ps ps' : List Str} (c : CF K mg T C x q st ps) (d : CF K mg T D y q' st' ps') (t : TF K mg T) (n1 : x ≠ y) (n2 : y ≠ "TreeError") : PySem.W.mroIn K C (.ref D) = some false := by
  obtain ⟨cd, h, nm, _, m, _⟩ := c.cd
  obtain ⟨cd', h', nm', _, m', _⟩ := d.cd
  obtain ⟨cdT, hT, nmT, _, _, _⟩ := t.cd
  have e1 : D ≠ C := by
    rintro rfl
    rw [h] at h'
    cases h'
    exact n1 (nm.symm.trans nm')
  have e2 : D ≠ T := by
    rintro rfl
    rw [h'] at hT
    cases hT
    exact n2 (nm'.symm.trans nmT)
  rw [mro_cd h m]
  congr 1
  rw [List.contains_cons, List.contains_cons, show (Value.ref D == Value.ref C) = false from beq_eq_false_iff_ne.mpr (fun z => e1 (Value.ref.inj z)), show (Value.ref D == Value.ref T) = false from beq_eq_false_iff_ne.mpr (fun z => e2 (Value.ref.inj z))]
  rfl
theorem cls_mk {h : Heap} (X : K.In h) (G : h.Ns mainGlobals mg) {fI N : Addr} {qn : Str} {bs : List Value} {sn : List Str} {sub : List Value} {ab : Bool} {col : Option Bool} {dd : Option Addr} {k0 k1 k2 k3 k5 : Option Value} {od an : Option Addr} {osl : Array (Option Value)} {kV doc pm cdv ct : Value}
    (aC : PySem.W.nsIn K mainGlobals x = some (some (.ref C))) (aT : PySem.W.nsIn K mainGlobals "TreeError" = some (some (.ref T))) (lC : K.lookup C = some (excClassObj x qn C N bs (.ref T :: bmV) true sn sub ab col dd k0 k1 k2 k3 k5 "ValueError.__new__"))
    (i1 : PySem.W.findIn K (.ref C) "__init__" = some (some (.ref fI))) (i3 : PySem.W.keepIn K (.ref C) = true) (i5 : PySem.W.findIn K (.ref C) "__setattr__" = some (some (.builtin "object.__setattr__")))
    (g1 : PySem.W.findIn K (.ref C) "__getattribute__" = some (some (.builtin "BaseException.__getattribute__"))) (g2 : PySem.W.findIn K (.ref C) "__getattr__" = some none) (g4 : PySem.W.findIn K (.ref C) "__class__" = some (some (.builtin "object.__class__")))
    (l1 : K.lookup fI = some ⟨.type "function", od, .func (PySem.W.fnOf "__init__" q (defArgs st) (defBody st) (defScope st) .none kV doc pm an cdv ct), osl⟩) (c1 : PySem.W.codeIn K cdv q = true) (na : ∀ f ∈ ps, NoAttr K C f)
    (hb : ∀ (kV doc pm : Value) (an : Option Addr) (cdv ct : Value) (us : List Value), us.length = (("self" : Str) :: ps).length → bindArgs (PySem.W.fnOf "__init__" q (defArgs st) (defBody st) (defScope st) .none kV doc pm an cdv ct) ⟨us, []⟩ = pure ((("self" : Str) :: ps).zip us)) :
    ∃ C T, mg "TreeError" = some (.ref T) ∧ CF K mg T C x q st ps := by
  have kf : PySem.W.keepIn K (.ref fI) = true := by unfold PySem.W.keepIn; dsimp only; rw [l1]
  have ff : PySem.W.isFn K (.ref fI) = true := by
    unfold PySem.W.isFn
    rw [show PySem.W.typeIn K (.ref fI) = (K.lookup fI).map (·.cls) from rfl, l1]
    rfl
  exact ⟨C, T, PySem.W.mg_of X G aT, ⟨⟨qn, N, bs, sn, sub, ab, col, dd, k0, k1, k2, k3, k5, lC⟩, ⟨fI, _, i1, ff, fun_mk (st := st) l1 c1 kf, (fun_mk (st := st) l1 c1 kf).binds hb⟩, i3, i5, g1, g2, g4, PySem.W.mg_of X G aC, na⟩⟩
theorem na1 {f : Str} (h : PySem.W.findIn K (.ref C) f = some none) : ∀ g ∈ [f], NoAttr K C g := fun g hg => by rw [List.mem_singleton.mp hg]; exact h
theorem tf_mk {h : Heap} (X : K.In h) (G : h.Ns mainGlobals mg) {N : Addr} {qn : Str} {bs : List Value} {sn : List Str} {sub : List Value} {ab : Bool} {col : Option Bool} {dd : Option Addr} {k0 k1 k2 k3 k5 : Option Value} {d0 : Value} {d1 : Option Addr} {es : Array DictEntry} {n : Nat} {sl' : Array (Option Value)}
    (aT : PySem.W.nsIn K mainGlobals "TreeError" = some (some (.ref T))) (lT : K.lookup T = some (excClassObj "TreeError" qn T N bs bmV true sn sub ab col dd k0 k1 k2 k3 k5 "ValueError.__new__")) (lN : K.lookup N = some ⟨d0, d1, .dict es n, sl'⟩) (s1 : strK es = true) (s2 : nsFind es "__init__" = none)
    (b1 : PySem.W.specialIn K (.ref T) "__getattribute__" = some (some (.builtin "type.__getattribute__"))) (b2 : PySem.W.readsIn K T (.type "type") = true) (b3 : PySem.W.findCls K (.ref T) (.type "type") "__init__" = some (.val (.builtin "ValueError.__init__")))
    (i1 : PySem.W.findIn K (.ref T) "__init__" = some (some (.builtin "ValueError.__init__"))) (i3 : PySem.W.keepIn K (.ref T) = true)
    (g1 : PySem.W.findIn K (.ref T) "__getattribute__" = some (some (.builtin "BaseException.__getattribute__"))) (g2 : PySem.W.findIn K (.ref T) "__getattr__" = some none) (g4 : PySem.W.findIn K (.ref T) "__class__" = some (some (.builtin "object.__class__")))
    (g5 : PySem.W.specialIn K (.builtin "object.__class__") "__get__" = some (some (.builtin "getset_descriptor.__get__"))) (g6 : PySem.W.takesIn K (.builtin "object.__class__") = some true) : ∃ T, TF K mg T :=
  ⟨T, ⟨⟨qn, N, bs, sn, sub, ab, col, dd, k0, k1, k2, k3, k5, lT, d0, d1, es, n, sl', lN, s1, s2⟩, ⟨b1, b2, b3⟩, i1, i3, g1, g2, g4, g5, g6, PySem.W.mg_of X G aT⟩⟩
theorem fn_facts {fI : Addr} {od : Option Addr} {d : FuncData} {osl : Array (Option Value)} (l1 : K.lookup fI = some ⟨.type "function", od, .func d, osl⟩) : PySem.W.keepIn K (.ref fI) = true ∧ PySem.W.isFn K (.ref fI) = true := by
  refine ⟨by unfold PySem.W.keepIn; dsimp only; rw [l1], ?_⟩
  unfold PySem.W.isFn
  rw [show PySem.W.typeIn K (.ref fI) = (K.lookup fI).map (·.cls) from rfl, l1]
  rfl
theorem pg_mk {h : Heap} (X : K.In h) (G : h.Ns mainGlobals mg) {cP fP : Addr} {od an : Option Addr} {osl : Array (Option Value)} {kV doc pm cdv ct : Value}
    (aP : PySem.W.nsIn K mainGlobals "Page" = some (some (.ref cP))) (b1 : PySem.W.specialIn K (.ref cP) "__getattribute__" = some (some (.builtin "type.__getattribute__"))) (b2 : PySem.W.readsIn K cP (.type "type") = true) (b3 : PySem.W.findCls K (.ref cP) (.type "type") "__init__" = some (.val (.ref fP)))
    (l1 : K.lookup fP = some ⟨.type "function", od, .func (PySem.W.fnOf "__init__" "Page.__init__" (defArgs (inClass (top 27) 0)) (defBody (inClass (top 27) 0)) (defScope (inClass (top 27) 0)) .none kV doc pm an cdv ct), osl⟩) (c1 : PySem.W.codeIn K cdv "Page.__init__" = true)
    (hb : ∀ (kV doc pm : Value) (an : Option Addr) (cdv ct : Value) (us : List Value), us.length = 3 → bindArgs (PySem.W.fnOf "__init__" "Page.__init__" (defArgs (inClass (top 27) 0)) (defBody (inClass (top 27) 0)) (defScope (inClass (top 27) 0)) .none kV doc pm an cdv ct) ⟨us, []⟩ = pure ((["self", "keys", "goods"] : List Str).zip us)) :
    ∃ cP fP fdP, PgN K mg cP fP fdP := by
  obtain ⟨kf, ff⟩ := fn_facts l1
  exact ⟨cP, fP, _, ⟨fun_mk l1 c1 kf, (fun_mk (st := inClass (top 27) 0) l1 c1 kf).binds hb, ⟨b1, b2, b3, kf⟩, PySem.W.mg_of X G aP⟩⟩
theorem kdn_mk {h : Heap} (X : K.In h) (G : h.Ns mainGlobals mg) {nm : Str} {C f fK fG : Addr} {od an odK anK odG anG : Option Addr} {osl oslK oslG : Array (Option Value)} {kV doc pm cdv ct kVK docK pmK cdvK ctK kVG docG pmG cdvG ctG : Value}
    (aC : PySem.W.nsIn K mainGlobals nm = some (some (.ref C))) (m1 : PySem.W.makesIn K C = true) (i1 : PySem.W.findIn K (.ref C) "__init__" = some (some (.ref f))) (i2 : PySem.W.keepIn K (.ref C) = true)
    (l1 : K.lookup f = some ⟨.type "function", od, .func (PySem.W.fnOf "__init__" q (defArgs st) (defBody st) (defScope st) .none kV doc pm an cdv ct), osl⟩) (c1 : PySem.W.codeIn K cdv q = true)
    (p1 : PySem.W.plainGet K C Str.empty = true) (p2 : PySem.W.hasDictIn K C = true) (p3 : PySem.W.plainOver K C = true) (p4 : PySem.W.findIn K (.ref C) "__setattr__" = some (some (.builtin "object.__setattr__")))
    (q1 : PySem.W.findIn K (.ref C) "__class__" = some (some (.builtin "object.__class__"))) (q2 : PySem.W.specialIn K (.builtin "object.__class__") "__get__" = some (some (.builtin "getset_descriptor.__get__"))) (q3 : PySem.W.takesIn K (.builtin "object.__class__") = some true) (q4 : PySem.W.mroIn K C (.type "object") = some true)
    (n1 : PySem.W.findIn K (.ref C) "key_row" = some none) (n2 : PySem.W.findIn K (.ref C) "good_row" = some none)
    (k1 : PySem.W.findIn K (.ref C) "all_keys" = some (some (.ref fK))) (lK : K.lookup fK = some ⟨.type "function", odK, .func (PySem.W.fnOf "all_keys" "Page.all_keys" (defArgs (inClass (top 27) 1)) (defBody (inClass (top 27) 1)) (defScope (inClass (top 27) 1)) .none kVK docK pmK anK cdvK ctK), oslK⟩) (cK : PySem.W.codeIn K cdvK "Page.all_keys" = true)
    (g1 : PySem.W.findIn K (.ref C) "goods" = some (some (.ref fG))) (lG : K.lookup fG = some ⟨.type "function", odG, .func (PySem.W.fnOf "goods" "Page.goods" (defArgs (inClass (top 27) 2)) (defBody (inClass (top 27) 2)) (defScope (inClass (top 27) 2)) .none kVG docG pmG anG cdvG ctG), oslG⟩) (cG : PySem.W.codeIn K cdvG "Page.goods" = true)
    (hb : ∀ (kV doc pm : Value) (an : Option Addr) (cdv ct : Value) (us : List Value), us.length = 3 → bindArgs (PySem.W.fnOf "__init__" q (defArgs st) (defBody st) (defScope st) .none kV doc pm an cdv ct) ⟨us, []⟩ = pure ((["self", "keys", "goods"] : List Str).zip us))
    (hbK : ∀ (kV doc pm : Value) (an : Option Addr) (cdv ct : Value) (us : List Value), us.length = 1 → bindArgs (PySem.W.fnOf "all_keys" "Page.all_keys" (defArgs (inClass (top 27) 1)) (defBody (inClass (top 27) 1)) (defScope (inClass (top 27) 1)) .none kV doc pm an cdv ct) ⟨us, []⟩ = pure ((["self"] : List Str).zip us))
    (hbG : ∀ (kV doc pm : Value) (an : Option Addr) (cdv ct : Value) (us : List Value), us.length = 1 → bindArgs (PySem.W.fnOf "goods" "Page.goods" (defArgs (inClass (top 27) 2)) (defBody (inClass (top 27) 2)) (defScope (inClass (top 27) 2)) .none kV doc pm an cdv ct) ⟨us, []⟩ = pure ((["self"] : List Str).zip us)) :
    ∃ C f fd fK fG fdK fdG, KdN K mg nm q st C f fd fK fG ∧ Fun K "all_keys" "Page.all_keys" (inClass (top 27) 1) fK fdK ∧ Fun K "goods" "Page.goods" (inClass (top 27) 2) fG fdG ∧ Binds K fdK ["self"] [] ∧ Binds K fdG ["self"] [] := by
  obtain ⟨kf, ff⟩ := fn_facts l1
  obtain ⟨kK, fK'⟩ := fn_facts lK
  obtain ⟨kG, fG'⟩ := fn_facts lG
  exact ⟨C, f, _, fK, fG, _, _, { mak := ⟨m1, i1, ff, i2⟩, fn := fun_mk (st := st) l1 c1 kf, bi := (fun_mk (st := st) l1 c1 kf).binds hb, m := PySem.W.mg_of X G aC, ins := ⟨⟨p1, p2, p3, p4⟩, q1, q2, q3, q4⟩, n1 := n1, n2 := n2, k := ⟨k1, fK', kK⟩, g := ⟨g1, fG', kG⟩ },
    fun_mk lK cK kK, fun_mk lG cG kG, (fun_mk (st := inClass (top 27) 1) lK cK kK).binds hbK, (fun_mk (st := inClass (top 27) 2) lG cG kG).binds hbG⟩
theorem meth_mk {h : Heap} (X : K.In h) (G : h.Ns mainGlobals mg) {cn nm : Str} {C f : Addr} {od an : Option Addr} {osl : Array (Option Value)} {kV doc pm cdv ct : Value}
    (aC : PySem.W.nsIn K mainGlobals cn = some (some (.ref C))) (k1 : PySem.W.findIn K (.ref C) nm = some (some (.ref f))) (l1 : K.lookup f = some ⟨.type "function", od, .func (PySem.W.fnOf nm q (defArgs st) (defBody st) (defScope st) .none kV doc pm an cdv ct), osl⟩) (c1 : PySem.W.codeIn K cdv q = true)
    (hb : ∀ (kV doc pm : Value) (an : Option Addr) (cdv ct : Value) (us : List Value), us.length = ps.length → bindArgs (PySem.W.fnOf nm q (defArgs st) (defBody st) (defScope st) .none kV doc pm an cdv ct) ⟨us, []⟩ = pure (ps.zip us)) :
    ∃ C f fd, mg cn = some (.ref C) ∧ Meth K C nm f ∧ Fun K nm q st f fd ∧ Binds K fd ps [] := by
  obtain ⟨kf, ff⟩ := fn_facts l1
  exact ⟨C, f, _, PySem.W.mg_of X G aC, ⟨k1, ff, kf⟩, fun_mk (st := st) l1 c1 kf, (fun_mk (st := st) l1 c1 kf).binds hb⟩
theorem kit_self {C : Addr} : PySem.W.kitOne K (.ref C) (.ref C) = some true := by
  unfold PySem.W.kitOne
  rw [if_pos (by simp)]
theorem int_of {h : Heap} (X : K.In h) (G : h.Ns mainGlobals mg) {x : Str} {i : Int} {t : Tok} (a : PySem.W.nsIn K mainGlobals x = some (some (.int i t))) : ∃ t, mg x = some (.int i t) := ⟨t, PySem.W.mg_of X G a⟩
theorem fun_uniq {x q : Str} {st : Stmt} {f : Addr} {fd fd' : FuncData} (a : Fun K x q st f fd) (b : Fun K x q st f fd') : fd = fd' := by
  obtain ⟨_, _, _, _, _, _, _, _, _, _, l1, _⟩ := a.ex
  obtain ⟨_, _, _, _, _, _, _, _, _, _, l2, _⟩ := b.ex
  rw [l1] at l2
  cases l2
  rfl
theorem mg_eq {x : Str} {a b : Addr} (h : mg x = some (.ref a)) (h' : mg x = some (.ref b)) : a = b := Value.ref.inj (Option.some.inj (h.symm.trans h'))
end
theorem last {P : Program} {w : World} {K : PySem.W.Frag} {mg : Str → Option Value} {fa : Addr} (T : Txt K mg) (TX : ∃ T, TF K mg T)
    (ENoKey : ∃ C T', mg "TreeError" = some (.ref T') ∧ CF K mg T' C "NoKey" "NoKey.__init__" (inClass (top 3) 0) ["found"])
    (ENoGood : ∃ C T', mg "TreeError" = some (.ref T') ∧ CF K mg T' C "NoGood" "NoGood.__init__" (inClass (top 4) 0) ["found"])
    (ENoPage : ∃ C T', mg "TreeError" = some (.ref T') ∧ CF K mg T' C "NoPage" "NoPage.__init__" (inClass (top 5) 0) ["found"])
    (ELacks : ∃ C T', mg "TreeError" = some (.ref T') ∧ CF K mg T' C "Lacks" "Lacks.__init__" (inClass (top 6) 0) ["key"])
    (ETooMany : ∃ C T', mg "TreeError" = some (.ref T') ∧ CF K mg T' C "TooMany" "TooMany.__init__" (inClass (top 7) 0) ["count"])
    (PX : ∃ cP fP fdP, PgN K mg cP fP fdP)
    (KL : ∃ C f fd fK fG fdK fdG, KdN K mg "Leaf" "Leaf.__init__" (inClass (top 28) 0) C f fd fK fG ∧ Fun K "all_keys" "Page.all_keys" (inClass (top 27) 1) fK fdK ∧ Fun K "goods" "Page.goods" (inClass (top 27) 2) fG fdG ∧ Binds K fdK ["self"] [] ∧ Binds K fdG ["self"] [])
    (Mwith_good : ∃ C f fd, mg "Leaf" = some (.ref C) ∧ Meth K C "with_good" f ∧ Fun K "with_good" "Leaf.with_good" (inClass (top 28) 2) f fd ∧ Binds K fd ["self", "key", "good"] [])
    (Mwithout : ∃ C f fd, mg "Leaf" = some (.ref C) ∧ Meth K C "without" f ∧ Fun K "without" "Leaf.without" (inClass (top 28) 3) f fd ∧ Binds K fd ["self", "key"] [])
    (d_is_number : ∃ f fd, Dn K mg "is_number" "is_number" s_is_number ["thing"] f fd) (d_is_whole : ∃ f fd, Dn K mg "is_whole" "is_whole" s_is_whole ["thing", "low", "high"] f fd) (d_is_key : ∃ f fd, Dn K mg "is_key" "is_key" s_is_key ["thing"] f fd) (d_is_good : ∃ f fd, Dn K mg "is_good" "is_good" s_is_good ["thing"] f fd) (d_is_row : ∃ f fd, Dn K mg "is_row" "is_row" s_is_row ["thing"] f fd) (d_is_rising : ∃ f fd, Dn K mg "is_rising" "is_rising" s_is_rising ["thing"] f fd) (d_need_key : ∃ f fd, Dn K mg "need_key" "need_key" s_need_key ["thing"] f fd) (d_are_page_keys : ∃ f fd, Dn K mg "are_page_keys" "are_page_keys" s_are_page_keys ["thing"] f fd) (d_are_goods : ∃ f fd, Dn K mg "are_goods" "are_goods" s_are_goods ["thing", "many"] f fd) (d_left_out : ∃ f fd, Dn K mg "left_out" "left_out" s_left_out ["row", "at"] f fd) (d__law_cell : ∃ f fd, Dn K mg "_law_cell" "_law_cell" s__law_cell ["_law_script", "_law_k"] f fd) (d__law_box : ∃ f fd, Dn K mg "_law_box" "_law_box" s__law_box ["_law_cell_here"] f fd) (d__law_take : ∃ f fd, Dn K mg "_law_take" "_law_take" s__law_take ["_law_box_here", "_law_many"] f fd) (d__law_keys : ∃ f fd, Dn K mg "_law_keys" "_law_keys" s__law_keys ["_law_box_here", "_law_many"] f fd) (d__law_good : ∃ f fd, Dn K mg "_law_good" "_law_good" s__law_good ["_law_box_here"] f fd) (d__law_leaf : ∃ f fd, Dn K mg "_law_leaf" "_law_leaf" s__law_leaf ["_law_box_here"] f fd) (d__law_near : ∃ f fd, Dn K mg "_law_near" "_law_near" s__law_near ["_law_keys_here"] f fd) (d__law_odd : ∃ f fd, Dn K mg "_law_odd" "_law_odd" s__law_odd ["_law_box_here"] f fd) (d__law_is_number : ∃ f fd, Dn K mg "_law_is_number" "_law_is_number" s__law_is_number ["_law_thing"] f fd) (d__law_due : ∃ f fd, Dn K mg "_law_due" "_law_due" s__law_due ["_law_known", "_law_word", "_law_key", "_law_good_here"] f fd) (d__law_told : ∃ f fd, Dn K mg "_law_told" "_law_told" s__law_told ["_law_page", "_law_word", "_law_key", "_law_good_here"] f fd) (d__law_stands : ∃ f fd, Dn K mg "_law_stands" "_law_stands" s__law_stands ["_law_page", "_law_known"] f fd) (d__law_deed : ∃ f fd, Dn K mg "_law_deed" "_law_deed" s__law_deed ["_law_box_here", "_law_known"] f fd) (d__law_is_due : ∃ f fd, Dn K mg "_law_is_due" "_law_is_due" s__law_is_due ["_law_found", "_law_due_here"] f fd) (d__law_step : ∃ f fd, Dn K mg "_law_step" "_law_step" s__law_step ["_law_box_here", "_law_page", "_law_known"] f fd) (d_law : ∃ f fd, Dn K mg "law" "law" s_law ["_law_script"] f fd) (hmg : mg "law" = some (.ref fa)) :
    ∃ fd : FuncData, (∀ (s : Shared) (u : Value), BindsTo s fd ⟨[u], []⟩ [("_law_script", u)]) ∧ ∀ base : Heap, FnOk P w K mg base CX0 18 fa fd ["_law_script"] (spLaw K) := by
  obtain ⟨TT, TX⟩ := TX
  obtain ⟨cNoKey, TNoKey, eNoKey, CNoKey⟩ := ENoKey
  cases mg_eq TX.mT eNoKey
  obtain ⟨fNoKey, fdNoKey, xNoKey⟩ := CNoKey.er TX
  obtain ⟨cNoGood, TNoGood, eNoGood, CNoGood⟩ := ENoGood
  cases mg_eq TX.mT eNoGood
  obtain ⟨fNoGood, fdNoGood, xNoGood⟩ := CNoGood.er TX
  obtain ⟨cNoPage, TNoPage, eNoPage, CNoPage⟩ := ENoPage
  cases mg_eq TX.mT eNoPage
  obtain ⟨fNoPage, fdNoPage, xNoPage⟩ := CNoPage.er TX
  obtain ⟨cLacks, TLacks, eLacks, CLacks⟩ := ELacks
  cases mg_eq TX.mT eLacks
  obtain ⟨fLacks, fdLacks, xLacks⟩ := CLacks.er TX
  obtain ⟨cTooMany, TTooMany, eTooMany, CTooMany⟩ := ETooMany
  cases mg_eq TX.mT eTooMany
  obtain ⟨fTooMany, fdTooMany, xTooMany⟩ := CTooMany.er TX
  obtain ⟨cP, fP, fdP, y⟩ := PX
  obtain ⟨cL, fL, fdL, fK, fG, fdK, fdG, XL, a1, a2, a3, a4⟩ := KL
  obtain ⟨C_with_good, f_with_good, fd_with_good, m0, m_with_good, n_with_good, b_with_good⟩ := Mwith_good
  cases mg_eq XL.m m0
  obtain ⟨C_without, f_without, fd_without, m0, m_without, n_without, b_without⟩ := Mwithout
  cases mg_eq XL.m m0
  obtain ⟨f, fd, Dl⟩ := d_law
  have ef : fa = f := Value.ref.inj (Option.some.inj (hmg.symm.trans Dl.m))
  subst ef
  refine ⟨fd, ?_, fun base => ?_⟩
  · obtain ⟨oc, od, kV, doc, pm, an, cdv, ct, osl, e, lk, hcd⟩ := Dl.fn.ex
    subst e
    exact fun s u => .of_eq rfl
  · have take := ok_take (P := P) (w := w) (base := base) d__law_take T
    have cell := ok_cell (P := P) (w := w) (base := base) d__law_cell T
    have box := ok_box (P := P) (w := w) (base := base) d__law_box T
    have isN := ok_isN (P := P) (w := w) (base := base) d_is_number T
    have isW := ok_isW d_is_whole T isN
    have isK := ok_isK d_is_key T isW
    have isG := ok_isG d_is_good T isW
    have isR := ok_isR (P := P) (w := w) (base := base) d_is_row T
    have lN := ok_lN (P := P) (w := w) (base := base) d__law_is_number T
    have rise := ok_rise d_is_rising T isR isK
    have apk := ok_APK d_are_page_keys T rise
    have ag := ok_AG d_are_goods T isR isG
    have gL := ok_leaf XL xNoPage y T apk ag
    have need := ok_need d_need_key T xNoKey isK
    have left := ok_left (P := P) (w := w) (base := base) d_left_out T
    have gO := ok_without (cP := cP) (fI := fP) (fIK := fP) (fdI := fdP) (fdK := fdP) n_without T XL xLacks need left gL
    have gW := ok_with (cP := cP) (TT := TT) (fI := fP) (fIK := fP) (fdI := fdP) (fdK := fdP) n_with_good T XL xNoGood xTooMany need isG gL
    have ap : ErrApart K cNoKey cNoGood cTooMany cLacks := ⟨CNoGood.apart CNoKey TX (by decide +kernel) (by decide +kernel), CTooMany.apart CNoKey TX (by decide +kernel) (by decide +kernel), CTooMany.apart CNoGood TX (by decide +kernel) (by decide +kernel), CLacks.apart CNoKey TX (by decide +kernel) (by decide +kernel), CLacks.apart CNoGood TX (by decide +kernel) (by decide +kernel), CLacks.apart CTooMany TX (by decide +kernel) (by decide +kernel)⟩
    have told := ok_told d__law_told T XL xNoKey xNoGood xTooMany xLacks TX.xm ap m_with_good m_without b_with_good b_without gW gO
    have keys := ok_keysU d__law_keys T take
    have good := ok_goodU d__law_good T take
    have odd := ok_odd d__law_odd T take
    have near := ok_near (P := P) (w := w) (base := base) d__law_near T
    have isdue := ok_isdue (P := P) (w := w) (base := base) d__law_is_due T
    have due := ok_due d__law_due T lN
    have stands := ok_stands d__law_stands T XL kit_self (ok_ak (P := P) (w := w) (base := base) a1 T XL.ins.cl XL.n1) (ok_gs a2 T XL.ins.cl XL.n2) a3 a4
    have lleaf := ok_lleaf d__law_leaf T XL take keys good gL
    have deed := ok_deed d__law_deed T take near good odd
    have step := ok_step d__law_step T deed due told isdue stands
    obtain ⟨f', fd', D', G'⟩ := ok_law ⟨fa, fd, Dl⟩ T cell box lleaf take step stands
    have ef : fa = f' := Value.ref.inj (Option.some.inj (hmg.symm.trans D'.m))
    subst ef
    cases fun_uniq Dl.fn D'.fn
    exact G'
end K12

set_option Elab.async false
set_option linter.all false
def PySem.W.Fast.tw15313300056985877185 : Nat := 0
def PySem.W.Fast.tw16853642157310520386 : Nat := 0
def PySem.W.Fast.tw17313595288102934018 : Nat := 0
def PySem.W.Fast.tw5723572826637567300 : Nat := 0
def PySem.W.Fast.tw17757426189809475624 : Nat := 0
def PySem.W.Fast.tw11241026236809680360 : Nat := 0
def PySem.W.Fast.tw7758060379176620076 : Nat := 0
def PySem.W.Fast.tw2132164454232046416 : Nat := 0
def PySem.W.Fast.tw16844415310322997459 : Nat := 0
def PySem.W.Fast.tw10110590615527091091 : Nat := 0
def PySem.W.Fast.tw8676459953475385331 : Nat := 0
def PySem.W.Fast.tw3930573439077394870 : Nat := 0
def PySem.W.Fast.tw2392734087163122937 : Nat := 0
def PySem.W.Fast.tw12694622007560393946 : Nat := 0
def PySem.W.Fast.tw11149451373581069435 : Nat := 0
def PySem.W.Fast.tw9509064879715066491 : Nat := 0
open PySem PySem.W PyProof.Rows
set_option maxRecDepth 100000 in
set_option maxHeartbeats 0 in
theorem PySem.Challenge.cw_nolocktree_k12_goods_put_and_taken_holds : PySem.Challenge.rw_nolocktree_k12_goods_put_and_taken.Holds := by
  w_on; o_law; k_head; (case hw => w_witness2)
  k_fill
  refine L2.walk_ofK (l := PySem.Challenge.rw_nolocktree_k12_goods_put_and_taken) (n := 63) (k := 18) (x := "_law_script") (CX := L2.CX0) (sp := K12.spLaw) rfl (by decide) rfl ⟨rfl, by decide, by decide, rfl⟩ (fun w h Y => PySem.W.kIn_of Y) ?F ?S ?C
  case S => exact fun K H a ns hl hO hS => ⟨a, ns, rfl, hS, hl, fun _ => rfl⟩
  case C => exact fun _ _ _ _ z => z
  case F =>
    intro w mg fa h KX G hmg
    have TX : ∃ T, K12.TF (L2.KOf KX) mg T := by
      dsimp only [L2.KOf]
      refine' K12.tf_mk KX G ?aT ?lT ?lN ?s1 ?s2 ?b1 ?b2 ?b3 ?i1 ?i3 ?g1 ?g2 ?g4 ?g5 ?g6
      (case aT => k_is); (case lT => k_is); (case lN => k_is); (case s1 => kernel_rfl); (case s2 => kernel_rfl); (case b1 => k_is); (case b2 => k_is); (case b3 => k_is); (case i1 => k_is); (case i3 => k_is); (case g1 => k_is); (case g2 => k_is); (case g4 => k_is); (case g5 => k_is); (case g6 => k_is)
    have ENoKey : ∃ C T', mg "TreeError" = some (.ref T') ∧ K12.CF (L2.KOf KX) mg T' C "NoKey" "NoKey.__init__" (L2.inClass (K12.top 3) 0) ["found"] := by
      dsimp only [L2.KOf]
      refine' K12.cls_mk KX G ?aC ?aT ?lC ?i1 ?i3 ?i5 ?g1 ?g2 ?g4 ?l1 ?c1 (K12.na1 ?n1) (fun _ _ _ _ _ _ us hl => match us, hl with | [_, _], _ => rfl)
      (case aC => k_is); (case aT => k_is); (case lC => k_is); (case i1 => k_is); (case i3 => k_is); (case i5 => k_is); (case g1 => k_is); (case g2 => k_is); (case g4 => k_is); (case l1 => k_is); (case c1 => k_is); (case n1 => k_is)
    have ENoGood : ∃ C T', mg "TreeError" = some (.ref T') ∧ K12.CF (L2.KOf KX) mg T' C "NoGood" "NoGood.__init__" (L2.inClass (K12.top 4) 0) ["found"] := by
      dsimp only [L2.KOf]
      refine' K12.cls_mk KX G ?aC ?aT ?lC ?i1 ?i3 ?i5 ?g1 ?g2 ?g4 ?l1 ?c1 (K12.na1 ?n1) (fun _ _ _ _ _ _ us hl => match us, hl with | [_, _], _ => rfl)
      (case aC => k_is); (case aT => k_is); (case lC => k_is); (case i1 => k_is); (case i3 => k_is); (case i5 => k_is); (case g1 => k_is); (case g2 => k_is); (case g4 => k_is); (case l1 => k_is); (case c1 => k_is); (case n1 => k_is)
    have ENoPage : ∃ C T', mg "TreeError" = some (.ref T') ∧ K12.CF (L2.KOf KX) mg T' C "NoPage" "NoPage.__init__" (L2.inClass (K12.top 5) 0) ["found"] := by
      dsimp only [L2.KOf]
      refine' K12.cls_mk KX G ?aC ?aT ?lC ?i1 ?i3 ?i5 ?g1 ?g2 ?g4 ?l1 ?c1 (K12.na1 ?n1) (fun _ _ _ _ _ _ us hl => match us, hl with | [_, _], _ => rfl)
      (case aC => k_is); (case aT => k_is); (case lC => k_is); (case i1 => k_is); (case i3 => k_is); (case i5 => k_is); (case g1 => k_is); (case g2 => k_is); (case g4 => k_is); (case l1 => k_is); (case c1 => k_is); (case n1 => k_is)
    have ELacks : ∃ C T', mg "TreeError" = some (.ref T') ∧ K12.CF (L2.KOf KX) mg T' C "Lacks" "Lacks.__init__" (L2.inClass (K12.top 6) 0) ["key"] := by
      dsimp only [L2.KOf]
      refine' K12.cls_mk KX G ?aC ?aT ?lC ?i1 ?i3 ?i5 ?g1 ?g2 ?g4 ?l1 ?c1 (K12.na1 ?n1) (fun _ _ _ _ _ _ us hl => match us, hl with | [_, _], _ => rfl)
      (case aC => k_is); (case aT => k_is); (case lC => k_is); (case i1 => k_is); (case i3 => k_is); (case i5 => k_is); (case g1 => k_is); (case g2 => k_is); (case g4 => k_is); (case l1 => k_is); (case c1 => k_is); (case n1 => k_is)
    have ETooMany : ∃ C T', mg "TreeError" = some (.ref T') ∧ K12.CF (L2.KOf KX) mg T' C "TooMany" "TooMany.__init__" (L2.inClass (K12.top 7) 0) ["count"] := by
      dsimp only [L2.KOf]
      refine' K12.cls_mk KX G ?aC ?aT ?lC ?i1 ?i3 ?i5 ?g1 ?g2 ?g4 ?l1 ?c1 (K12.na1 ?n1) (fun _ _ _ _ _ _ us hl => match us, hl with | [_, _], _ => rfl)
      (case aC => k_is); (case aT => k_is); (case lC => k_is); (case i1 => k_is); (case i3 => k_is); (case i5 => k_is); (case g1 => k_is); (case g2 => k_is); (case g4 => k_is); (case l1 => k_is); (case c1 => k_is); (case n1 => k_is)
    have PX : ∃ cP fP fdP, K12.PgN (L2.KOf KX) mg cP fP fdP := by
      dsimp only [L2.KOf]
      refine' K12.pg_mk KX G ?aP ?b1 ?b2 ?b3 ?l1 ?c1 (fun _ _ _ _ _ _ us hl => match us, hl with | [_, _, _], _ => rfl)
      (case aP => k_is); (case b1 => k_is); (case b2 => k_is); (case b3 => k_is); (case l1 => k_is); (case c1 => k_is)
    have LX : ∃ C f fd fK fG fdK fdG, K12.KdN (L2.KOf KX) mg "Leaf" "Leaf.__init__" (L2.inClass (K12.top 28) 0) C f fd fK fG ∧ L2.Fun (L2.KOf KX) "all_keys" "Page.all_keys" (L2.inClass (K12.top 27) 1) fK fdK ∧ L2.Fun (L2.KOf KX) "goods" "Page.goods" (L2.inClass (K12.top 27) 2) fG fdG ∧ L2.Binds (L2.KOf KX) fdK ["self"] [] ∧ L2.Binds (L2.KOf KX) fdG ["self"] [] := by
      dsimp only [L2.KOf]
      refine' K12.kdn_mk KX G ?aC ?m1 ?i1 ?i2 ?l1 ?c1 ?p1 ?p2 ?p3 ?p4 ?q1 ?q2 ?q3 ?q4 ?n1 ?n2 ?k1 ?lK ?cK ?g1 ?lG ?cG (fun _ _ _ _ _ _ us hl => match us, hl with | [_, _, _], _ => rfl) (fun _ _ _ _ _ _ us hl => match us, hl with | [_], _ => rfl) (fun _ _ _ _ _ _ us hl => match us, hl with | [_], _ => rfl)
      (case aC => k_is); (case m1 => k_is); (case i1 => k_is); (case i2 => k_is); (case l1 => k_is); (case c1 => k_is); (case p1 => k_is); (case p2 => k_is); (case p3 => k_is); (case p4 => k_is); (case q1 => k_is); (case q2 => k_is); (case q3 => k_is); (case q4 => k_is); (case n1 => k_is); (case n2 => k_is); (case k1 => k_is); (case lK => k_is); (case cK => k_is); (case g1 => k_is); (case lG => k_is); (case cG => k_is)
    have Mwith_good : ∃ C f fd, mg "Leaf" = some (.ref C) ∧ L2.Meth (L2.KOf KX) C "with_good" f ∧ L2.Fun (L2.KOf KX) "with_good" "Leaf.with_good" (L2.inClass (K12.top 28) 2) f fd ∧ L2.Binds (L2.KOf KX) fd ["self", "key", "good"] [] := by
      dsimp only [L2.KOf]
      refine' K12.meth_mk KX G ?aC ?k1 ?l1 ?c1 (fun _ _ _ _ _ _ us hl => match us, hl with | [_, _, _], _ => rfl)
      (case aC => k_is); (case k1 => k_is); (case l1 => k_is); (case c1 => k_is)
    have Mwithout : ∃ C f fd, mg "Leaf" = some (.ref C) ∧ L2.Meth (L2.KOf KX) C "without" f ∧ L2.Fun (L2.KOf KX) "without" "Leaf.without" (L2.inClass (K12.top 28) 3) f fd ∧ L2.Binds (L2.KOf KX) fd ["self", "key"] [] := by
      dsimp only [L2.KOf]
      refine' K12.meth_mk KX G ?aC ?k1 ?l1 ?c1 (fun _ _ _ _ _ _ us hl => match us, hl with | [_, _], _ => rfl)
      (case aC => k_is); (case k1 => k_is); (case l1 => k_is); (case c1 => k_is)
    have T : K12.Txt (L2.KOf KX) mg := by
      dsimp only [L2.KOf]
      refine' ⟨PySem.W.mg_none_of KX G ?n0, PySem.W.mg_none_of KX G ?n1, PySem.W.mg_none_of KX G ?n2, PySem.W.mg_none_of KX G ?n3, PySem.W.mg_none_of KX G ?n4, PySem.W.mg_none_of KX G ?n5, PySem.W.mg_none_of KX G ?n6, PySem.W.mg_none_of KX G ?n7, PySem.W.mg_none_of KX G ?n8, PySem.W.mg_none_of KX G ?n9, PySem.W.mg_none_of KX G ?n10, PySem.W.mg_none_of KX G ?n11, PySem.W.mg_none_of KX G ?n12, PySem.W.mg_none_of KX G ?n13, PySem.W.mg_none_of KX G ?n14, PySem.W.mg_none_of KX G ?n15, K12.int_of KX G ?c0, K12.int_of KX G ?c1, K12.int_of KX G ?c2⟩
      (case n0 => k_is); (case n1 => k_is); (case n2 => k_is); (case n3 => k_is); (case n4 => k_is); (case n5 => k_is); (case n6 => k_is); (case n7 => k_is); (case n8 => k_is); (case n9 => k_is); (case n10 => k_is); (case n11 => k_is); (case n12 => k_is); (case n13 => k_is); (case n14 => k_is); (case n15 => k_is); (case c0 => k_is); (case c1 => k_is); (case c2 => k_is)
    have D_is_number : ∃ f fd, L2.Dn (L2.KOf KX) mg "is_number" "is_number" K12.s_is_number ["thing"] f fd := by
      dsimp only [L2.KOf]
      refine' L2.dn_mk KX G ?a ?l ?c ?k (fun _ _ _ _ _ _ us hl => match us, hl with | [_], _ => rfl)
      (case a => k_is); (case l => k_is); (case c => k_is); (case k => k_is)
    have D_is_whole : ∃ f fd, L2.Dn (L2.KOf KX) mg "is_whole" "is_whole" K12.s_is_whole ["thing", "low", "high"] f fd := by
      dsimp only [L2.KOf]
      refine' L2.dn_mk KX G ?a ?l ?c ?k (fun _ _ _ _ _ _ us hl => match us, hl with | [_, _, _], _ => rfl)
      (case a => k_is); (case l => k_is); (case c => k_is); (case k => k_is)
    have D_is_key : ∃ f fd, L2.Dn (L2.KOf KX) mg "is_key" "is_key" K12.s_is_key ["thing"] f fd := by
      dsimp only [L2.KOf]
      refine' L2.dn_mk KX G ?a ?l ?c ?k (fun _ _ _ _ _ _ us hl => match us, hl with | [_], _ => rfl)
      (case a => k_is); (case l => k_is); (case c => k_is); (case k => k_is)
    have D_is_good : ∃ f fd, L2.Dn (L2.KOf KX) mg "is_good" "is_good" K12.s_is_good ["thing"] f fd := by
      dsimp only [L2.KOf]
      refine' L2.dn_mk KX G ?a ?l ?c ?k (fun _ _ _ _ _ _ us hl => match us, hl with | [_], _ => rfl)
      (case a => k_is); (case l => k_is); (case c => k_is); (case k => k_is)
    have D_is_row : ∃ f fd, L2.Dn (L2.KOf KX) mg "is_row" "is_row" K12.s_is_row ["thing"] f fd := by
      dsimp only [L2.KOf]
      refine' L2.dn_mk KX G ?a ?l ?c ?k (fun _ _ _ _ _ _ us hl => match us, hl with | [_], _ => rfl)
      (case a => k_is); (case l => k_is); (case c => k_is); (case k => k_is)
    have D_is_rising : ∃ f fd, L2.Dn (L2.KOf KX) mg "is_rising" "is_rising" K12.s_is_rising ["thing"] f fd := by
      dsimp only [L2.KOf]
      refine' L2.dn_mk KX G ?a ?l ?c ?k (fun _ _ _ _ _ _ us hl => match us, hl with | [_], _ => rfl)
      (case a => k_is); (case l => k_is); (case c => k_is); (case k => k_is)
    have D_need_key : ∃ f fd, L2.Dn (L2.KOf KX) mg "need_key" "need_key" K12.s_need_key ["thing"] f fd := by
      dsimp only [L2.KOf]
      refine' L2.dn_mk KX G ?a ?l ?c ?k (fun _ _ _ _ _ _ us hl => match us, hl with | [_], _ => rfl)
      (case a => k_is); (case l => k_is); (case c => k_is); (case k => k_is)
    have D_are_page_keys : ∃ f fd, L2.Dn (L2.KOf KX) mg "are_page_keys" "are_page_keys" K12.s_are_page_keys ["thing"] f fd := by
      dsimp only [L2.KOf]
      refine' L2.dn_mk KX G ?a ?l ?c ?k (fun _ _ _ _ _ _ us hl => match us, hl with | [_], _ => rfl)
      (case a => k_is); (case l => k_is); (case c => k_is); (case k => k_is)
    have D_are_goods : ∃ f fd, L2.Dn (L2.KOf KX) mg "are_goods" "are_goods" K12.s_are_goods ["thing", "many"] f fd := by
      dsimp only [L2.KOf]
      refine' L2.dn_mk KX G ?a ?l ?c ?k (fun _ _ _ _ _ _ us hl => match us, hl with | [_, _], _ => rfl)
      (case a => k_is); (case l => k_is); (case c => k_is); (case k => k_is)
    have D_left_out : ∃ f fd, L2.Dn (L2.KOf KX) mg "left_out" "left_out" K12.s_left_out ["row", "at"] f fd := by
      dsimp only [L2.KOf]
      refine' L2.dn_mk KX G ?a ?l ?c ?k (fun _ _ _ _ _ _ us hl => match us, hl with | [_, _], _ => rfl)
      (case a => k_is); (case l => k_is); (case c => k_is); (case k => k_is)
    have D__law_cell : ∃ f fd, L2.Dn (L2.KOf KX) mg "_law_cell" "_law_cell" K12.s__law_cell ["_law_script", "_law_k"] f fd := by
      dsimp only [L2.KOf]
      refine' L2.dn_mk KX G ?a ?l ?c ?k (fun _ _ _ _ _ _ us hl => match us, hl with | [_, _], _ => rfl)
      (case a => k_is); (case l => k_is); (case c => k_is); (case k => k_is)
    have D__law_box : ∃ f fd, L2.Dn (L2.KOf KX) mg "_law_box" "_law_box" K12.s__law_box ["_law_cell_here"] f fd := by
      dsimp only [L2.KOf]
      refine' L2.dn_mk KX G ?a ?l ?c ?k (fun _ _ _ _ _ _ us hl => match us, hl with | [_], _ => rfl)
      (case a => k_is); (case l => k_is); (case c => k_is); (case k => k_is)
    have D__law_take : ∃ f fd, L2.Dn (L2.KOf KX) mg "_law_take" "_law_take" K12.s__law_take ["_law_box_here", "_law_many"] f fd := by
      dsimp only [L2.KOf]
      refine' L2.dn_mk KX G ?a ?l ?c ?k (fun _ _ _ _ _ _ us hl => match us, hl with | [_, _], _ => rfl)
      (case a => k_is); (case l => k_is); (case c => k_is); (case k => k_is)
    have D__law_keys : ∃ f fd, L2.Dn (L2.KOf KX) mg "_law_keys" "_law_keys" K12.s__law_keys ["_law_box_here", "_law_many"] f fd := by
      dsimp only [L2.KOf]
      refine' L2.dn_mk KX G ?a ?l ?c ?k (fun _ _ _ _ _ _ us hl => match us, hl with | [_, _], _ => rfl)
      (case a => k_is); (case l => k_is); (case c => k_is); (case k => k_is)
    have D__law_good : ∃ f fd, L2.Dn (L2.KOf KX) mg "_law_good" "_law_good" K12.s__law_good ["_law_box_here"] f fd := by
      dsimp only [L2.KOf]
      refine' L2.dn_mk KX G ?a ?l ?c ?k (fun _ _ _ _ _ _ us hl => match us, hl with | [_], _ => rfl)
      (case a => k_is); (case l => k_is); (case c => k_is); (case k => k_is)
    have D__law_leaf : ∃ f fd, L2.Dn (L2.KOf KX) mg "_law_leaf" "_law_leaf" K12.s__law_leaf ["_law_box_here"] f fd := by
      dsimp only [L2.KOf]
      refine' L2.dn_mk KX G ?a ?l ?c ?k (fun _ _ _ _ _ _ us hl => match us, hl with | [_], _ => rfl)
      (case a => k_is); (case l => k_is); (case c => k_is); (case k => k_is)
    have D__law_near : ∃ f fd, L2.Dn (L2.KOf KX) mg "_law_near" "_law_near" K12.s__law_near ["_law_keys_here"] f fd := by
      dsimp only [L2.KOf]
      refine' L2.dn_mk KX G ?a ?l ?c ?k (fun _ _ _ _ _ _ us hl => match us, hl with | [_], _ => rfl)
      (case a => k_is); (case l => k_is); (case c => k_is); (case k => k_is)
    have D__law_odd : ∃ f fd, L2.Dn (L2.KOf KX) mg "_law_odd" "_law_odd" K12.s__law_odd ["_law_box_here"] f fd := by
      dsimp only [L2.KOf]
      refine' L2.dn_mk KX G ?a ?l ?c ?k (fun _ _ _ _ _ _ us hl => match us, hl with | [_], _ => rfl)
      (case a => k_is); (case l => k_is); (case c => k_is); (case k => k_is)
    have D__law_is_number : ∃ f fd, L2.Dn (L2.KOf KX) mg "_law_is_number" "_law_is_number" K12.s__law_is_number ["_law_thing"] f fd := by
      dsimp only [L2.KOf]
      refine' L2.dn_mk KX G ?a ?l ?c ?k (fun _ _ _ _ _ _ us hl => match us, hl with | [_], _ => rfl)
      (case a => k_is); (case l => k_is); (case c => k_is); (case k => k_is)
    have D__law_due : ∃ f fd, L2.Dn (L2.KOf KX) mg "_law_due" "_law_due" K12.s__law_due ["_law_known", "_law_word", "_law_key", "_law_good_here"] f fd := by
      dsimp only [L2.KOf]
      refine' L2.dn_mk KX G ?a ?l ?c ?k (fun _ _ _ _ _ _ us hl => match us, hl with | [_, _, _, _], _ => rfl)
      (case a => k_is); (case l => k_is); (case c => k_is); (case k => k_is)
    have D__law_told : ∃ f fd, L2.Dn (L2.KOf KX) mg "_law_told" "_law_told" K12.s__law_told ["_law_page", "_law_word", "_law_key", "_law_good_here"] f fd := by
      dsimp only [L2.KOf]
      refine' L2.dn_mk KX G ?a ?l ?c ?k (fun _ _ _ _ _ _ us hl => match us, hl with | [_, _, _, _], _ => rfl)
      (case a => k_is); (case l => k_is); (case c => k_is); (case k => k_is)
    have D__law_stands : ∃ f fd, L2.Dn (L2.KOf KX) mg "_law_stands" "_law_stands" K12.s__law_stands ["_law_page", "_law_known"] f fd := by
      dsimp only [L2.KOf]
      refine' L2.dn_mk KX G ?a ?l ?c ?k (fun _ _ _ _ _ _ us hl => match us, hl with | [_, _], _ => rfl)
      (case a => k_is); (case l => k_is); (case c => k_is); (case k => k_is)
    have D__law_deed : ∃ f fd, L2.Dn (L2.KOf KX) mg "_law_deed" "_law_deed" K12.s__law_deed ["_law_box_here", "_law_known"] f fd := by
      dsimp only [L2.KOf]
      refine' L2.dn_mk KX G ?a ?l ?c ?k (fun _ _ _ _ _ _ us hl => match us, hl with | [_, _], _ => rfl)
      (case a => k_is); (case l => k_is); (case c => k_is); (case k => k_is)
    have D__law_is_due : ∃ f fd, L2.Dn (L2.KOf KX) mg "_law_is_due" "_law_is_due" K12.s__law_is_due ["_law_found", "_law_due_here"] f fd := by
      dsimp only [L2.KOf]
      refine' L2.dn_mk KX G ?a ?l ?c ?k (fun _ _ _ _ _ _ us hl => match us, hl with | [_, _], _ => rfl)
      (case a => k_is); (case l => k_is); (case c => k_is); (case k => k_is)
    have D__law_step : ∃ f fd, L2.Dn (L2.KOf KX) mg "_law_step" "_law_step" K12.s__law_step ["_law_box_here", "_law_page", "_law_known"] f fd := by
      dsimp only [L2.KOf]
      refine' L2.dn_mk KX G ?a ?l ?c ?k (fun _ _ _ _ _ _ us hl => match us, hl with | [_, _, _], _ => rfl)
      (case a => k_is); (case l => k_is); (case c => k_is); (case k => k_is)
    have D_law : ∃ f fd, L2.Dn (L2.KOf KX) mg "law" "law" K12.s_law ["_law_script"] f fd := by
      dsimp only [L2.KOf]
      refine' L2.dn_mk KX G ?a ?l ?c ?k (fun _ _ _ _ _ _ us hl => match us, hl with | [_], _ => rfl)
      (case a => k_is); (case l => k_is); (case c => k_is); (case k => k_is)
    obtain ⟨fd, hb, hf⟩ := K12.last (P := PySem.Challenge.rw_nolocktree_k12_goods_put_and_taken.prog) (w := w) T TX ENoKey ENoGood ENoPage ELacks ETooMany PX LX Mwith_good Mwithout D_is_number D_is_whole D_is_key D_is_good D_is_row D_is_rising D_need_key D_are_page_keys D_are_goods D_left_out D__law_cell D__law_box D__law_take D__law_keys D__law_good D__law_leaf D__law_near D__law_odd D__law_is_number D__law_due D__law_told D__law_stands D__law_deed D__law_is_due D__law_step D_law hmg
    exact ⟨fd, hb, fun base _ _ => hf base⟩
