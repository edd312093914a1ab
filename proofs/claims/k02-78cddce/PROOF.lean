import PyProof.Rows.All
import Wide.All
import OpenK.AllK
import Wide.FinOn
import Lean
import PyProof.EqAt
import PyProof.EqKinds
import PyProof.TupleCall
import PyProof.ExcInit
import PyProof.ExcClass3
import PyProof.ExcBaseAll.ValueError
import PyProof.ExcAttrAll.ValueError
import PyProof.ReprRoads
import PyProof.ReprReads
import PyProof.ExcRepr
import PyProof.ReprLen
import PySem.Challenge.RW_nolocktree_k02_refusals_made
set_option Elab.async false
set_option linter.all false
set_option maxRecDepth 100000
/-! THE HAND LAYER, for ints, bools, texts, own classes, LISTS and tuples (index, slices, in, append, pop ..), calls, loops. Paste it whole ahead of your own text; what your proof does not reach may be deleted. -/
namespace L2
open PySem PySem.Spec PyProof.Rows

/-- a key: an int or a str -/
abbrev Key := Sum Int Str
def keyIs : Key → Value → Bool
  | .inl k, v => Value.isInt k v
  | .inr x, v => Value.isStrOf x v
def keyH (w : World) : Key → Int
  | .inl k => hashInt k
  | .inr x => hashStr w x
theorem keyIs_shape : ∀ {k : Key} {v : Value}, keyIs k v = true → (∃ i t, k = Sum.inl i ∧ v = Value.int i t) ∨ (∃ x t, k = Sum.inr x ∧ v = Value.str x t)
  | .inl i, v, h => by
    obtain ⟨t, e⟩ := Value.isInt_shape (k := i) (v := v) h
    exact .inl ⟨i, t, rfl, e⟩
  | .inr x, v, h => by
    obtain ⟨t, e⟩ := Value.isStrOf_shape (x := x) (v := v) h
    exact .inr ⟨x, t, rfl, e⟩
theorem keyIs_int (i : Int) (t : Tok) : keyIs (.inl i) (.int i t) = true := by simp [keyIs, Value.isInt]
theorem keyIs_str (x : Str) (t : Tok) : keyIs (.inr x) (.str x t) = true := by simp [keyIs, Value.isStrOf]
theorem key_ll (a b : Int) : decide ((Sum.inl a : Key) = Sum.inl b) = (a == b) := by
  by_cases e : a = b
  · subst e; simp
  · have h : ¬ (Sum.inl a : Key) = Sum.inl b := fun q => e (Sum.inl.inj q)
    rw [decide_eq_false h]
    exact (beq_eq_false_iff_ne.mpr e).symm
theorem key_rr (a b : Str) : decide ((Sum.inr a : Key) = Sum.inr b) = decide (a = b) := by
  by_cases e : a = b
  · subst e; simp
  · have h : ¬ (Sum.inr a : Key) = Sum.inr b := fun q => e (Sum.inr.inj q)
    rw [decide_eq_false h, decide_eq_false e]
theorem key_lr (a : Int) (b : Str) : decide ((Sum.inl a : Key) = Sum.inr b) = false := decide_eq_false (fun q => nomatch q)
theorem key_rl (a : Str) (b : Int) : decide ((Sum.inr a : Key) = Sum.inl b) = false := decide_eq_false (fun q => nomatch q)

def mixKind (prog : Program) (w : World) : PySem.KeyKind prog w Key where
  is := keyIs
  hash := keyH w
  inj := fun v a b ha hb => by
    rcases keyIs_shape ha with ⟨i, t, rfl, rfl⟩ | ⟨x, t, rfl, rfl⟩
    · rcases keyIs_shape hb with ⟨j, u, rfl, e⟩ | ⟨y, u, rfl, e⟩
      · injection e with e1 _; rw [e1]
      · exact nomatch e
    · rcases keyIs_shape hb with ⟨j, u, rfl, e⟩ | ⟨y, u, rfl, e⟩
      · exact nomatch e
      · injection e with e1 _; rw [e1]
  byValue := fun k v h => by
    rcases keyIs_shape h with ⟨i, t, rfl, rfl⟩ | ⟨x, t, rfl, rfl⟩ <;> rfl
  pyHash := fun hv h => by
    rcases keyIs_shape hv with ⟨i, t, rfl, rfl⟩ | ⟨x, t, rfl, rfl⟩
    · exact wpAny_pyHash_int h
    · exact wpAny_pyHash_str h
  eqBool := fun hu hv h => by
    rcases keyIs_shape hu with ⟨i, t, rfl, rfl⟩ | ⟨x, t, rfl, rfl⟩
    · rcases keyIs_shape hv with ⟨j, u, rfl, rfl⟩ | ⟨y, u, rfl, rfl⟩
      · rw [key_ll] at h; exact wpAny_eqBool_int h
      · rw [key_lr] at h; exact SeqAt.EqAt.int_str i t y u _ _ _ _ h
    · rcases keyIs_shape hv with ⟨j, u, rfl, rfl⟩ | ⟨y, u, rfl, rfl⟩
      · rw [key_rl] at h; exact SeqAt.EqAt.str_int x t j u _ _ _ _ h
      · rw [key_rr] at h; exact wpAny_eqBool_str h
  «strs» := fun k x t v h => by
    rcases keyIs_shape h with ⟨i, u, rfl, e⟩ | ⟨y, u, rfl, e⟩
    · exact nomatch e
    · injection e with e1 _
      subst e1
      cases v <;> rfl

theorem mixKind_is (prog : Program) (w : World) (k : Key) (v : Value) : (mixKind prog w).is k v = keyIs k v := rfl
theorem mixKind_int (prog : Program) (w : World) (i : Int) (t : Tok) : (mixKind prog w).is (.inl i) (.int i t) = true := keyIs_int i t
theorem mixKind_str (prog : Program) (w : World) (x : Str) (t : Tok) : (mixKind prog w).is (.inr x) (.str x t) = true := keyIs_str x t
end L2

namespace L2
open PySem PySem.Spec PyProof.Rows

/-- a value, without the heap -/
inductive V where
  | non | bl (b : Bool) | int (i : Int) | str (x : Str) | byt (b : Array UInt8) | flt (b : UInt64) | ref (a : Addr) | ty (n : String)
  deriving DecidableEq

def RelV : V → Value → Prop
  | .non, u => u = Value.none
  | .bl b, u => u = Value.bool b
  | .int i, u => ∃ t, u = Value.int i t
  | .str x, u => ∃ t, u = Value.str x t
  | .byt b, u => ∃ t, u = Value.bytes b t
  | .flt b, u => ∃ t, u = Value.float b t
  | .ref a, u => u = Value.ref a
  | .ty n, u => u = Value.type n

abbrev Vals : List V → List Value → Prop := Paired RelV
theorem Vals.length {xs : List V} {us : List Value} (r : Vals xs us) : xs.length = us.length := Paired.length r
theorem Vals.get : ∀ {xs : List V} {us : List Value} {i : Nat} {x : V}, Vals xs us → xs[i]? = some x → ∃ u, us[i]? = some u ∧ RelV x u
  | _, _, _, _, .nil, e => by simp at e
  | _, _, 0, _, .cons r _, e => by simp at e; subst e; exact ⟨_, rfl, r⟩
  | _, _, i + 1, x, .cons _ t, e => by
    obtain ⟨u, h1, h2⟩ := Vals.get (i := i) (x := x) t (by simpa using e)
    exact ⟨u, by simpa using h1, h2⟩
theorem Vals.set {x : V} {u : Value} (r : RelV x u) : ∀ {xs : List V} {us : List Value} (i : Nat), Vals xs us → Vals (xs.set i x) (us.set i u)
  | _, _, _, .nil => .nil
  | _, _, 0, .cons _ t => .cons r t
  | _, _, i + 1, .cons q t => .cons q (Vals.set r i t)
theorem Vals.append : ∀ {xs ys : List V} {us ws : List Value}, Vals xs us → Vals ys ws → Vals (xs ++ ys) (us ++ ws)
  | _, _, _, _, .nil, s => s
  | _, _, _, _, .cons r t, s => .cons r (Vals.append t s)
theorem Vals.take : ∀ {xs : List V} {us : List Value} (n : Nat), Vals xs us → Vals (xs.take n) (us.take n)
  | _, _, 0, _ => .nil
  | _, _, _ + 1, .nil => .nil
  | _, _, n + 1, .cons r t => .cons r (Vals.take n t)
theorem Vals.drop : ∀ {xs : List V} {us : List Value} (n : Nat), Vals xs us → Vals (xs.drop n) (us.drop n)
  | _, _, 0, r => r
  | _, _, _ + 1, .nil => .nil
  | _, _, n + 1, .cons _ t => Vals.drop n t
theorem Vals.none_of : ∀ {xs : List V} {us : List Value} {i : Nat}, Vals xs us → xs[i]? = none → us[i]? = none := fun {xs us i} r e => by
  have h1 := r.length
  have h2 : xs.length ≤ i := List.getElem?_eq_none_iff.mp e
  exact List.getElem?_eq_none_iff.mpr (by omega)

def RelO : Option V → Option Value → Prop
  | some v, some u => RelV v u
  | none, none => True
  | _, _ => False
def KV {κ : Type} : List (κ × V) → List (κ × Value) → Prop := Paired fun (p : κ × V) (q : κ × Value) => p.1 = q.1 ∧ RelV p.2 q.2

/-- a key of a dict (00_mix): an int or a text -/
def kV : Key → V
  | .inl i => .int i
  | .inr x => .str x

/-- what stands at a tracked address -/
inductive HO where
  /-- a list -/
  | lst (xs : List V)
  /-- a tuple (never changes) -/
  | tup (xs : List V)
  /-- a dict whose keys are ints and texts; one whose keys are tuples of ints and texts (the empty one is both) -/
  | dK (kvs : List (Key × V)) | dT (kvs : List (List Key × V))
  /-- a set of ints: its members, its size -/
  | set (S : Int → Bool) (n : Nat)
  /-- an instance of the class at C, its dict at dx, its attributes -/
  | ins (C dx : Addr) (fs : List (Str × V))
  /-- the dict of the instance at x -/
  | own (x : Addr)
  /-- the dict of an exception -/
  | xd (fs : List (Str × V))
  /-- a bound method, f of x -/
  | met (f x : Addr)
  /-- a range object lo, lo + 1, .. below hi -/
  | rng (lo hi : Int)
  /-- a thing that is known to the object (the script; a dict while a loop walks it): read, never written while it is so -/
  | frz (o : Obj) (u : HO)
  /-- a code object's table -/
  | tbl (ps : Array Value)
  /-- any other thing, by what is true of its one object (a def of one's own: SetO a S n := HO.ext fun h => ..) -/
  | ext (φ : Heap → Prop)

abbrev Hp := Addr → Option HO
def upd (H : Hp) (a : Addr) (o : HO) : Hp := fun b => if b = a then some o else H b
theorem upd_same {H : Hp} {a : Addr} {o : HO} : upd H a o a = some o := by unfold upd; rw [if_pos rfl]
theorem upd_ne {H : Hp} {a b : Addr} {o : HO} (h : b ≠ a) : upd H a o b = H b := by unfold upd; rw [if_neg h]
theorem upd_upd {H : Hp} {a : Addr} {o u : HO} : upd (upd H a o) a u = upd H a u := by
  funext b; unfold upd; split <;> rfl
/-- two objects of different content stand apart -/
theorem ne_of {H : Hp} {a b : Addr} {o u : HO} (h : H a = some o) (h' : H b = some u) (d : o ≠ u) : a ≠ b := by
  intro e; subst e; rw [h] at h'; exact d (Option.some.inj h')
theorem ne_of_none {H : Hp} {a b : Addr} {o : HO} (h : H a = some o) (h' : H b = none) : a ≠ b := by
  intro e; subst e; rw [h] at h'; cases h'

section
variable (P : Program) (w : World)
def ObjOk (H : Hp) (h : Heap) (a : Addr) : HO → Prop
  | .lst xs => xs.length ≤ sizeLine ∧ ∃ (its : List Value) (n : Nat), Vals xs its ∧ h.get? a = some { cls := .type "list", data := .seq its.toArray n }
  | .tup xs => xs.length ≤ sizeLine ∧ ∃ its : List Value, Vals xs its ∧ IsTup h a its.toArray
  | .dK kvs => kvs.length ≤ sizeLine ∧ (a == sysModules) = false ∧ ∃ vs, KV kvs vs ∧ h.DictOf (mixKind P w) a vs
  | .dT kvs => kvs.length ≤ sizeLine ∧ (a == sysModules) = false ∧ ∃ xs : List (List Key × Addr × Value),
      Paired (fun (p : List Key × V) (q : List Key × Addr × Value) => p.1 = q.1 ∧ H q.2.1 = some (.tup (p.1.map kV)) ∧ RelV p.2 q.2.2) kvs xs ∧
      ∃ o es ep, h.get? a = some o ∧ o.ExactDict ∧ o.data = .dict es ep ∧ es.toList = xs.map (entryOfKey (tupleKind (mixKind P w))) ∧ (xs.map (·.1)).Nodup
  | .set S n => h.SetOf (intKind P w) a S n
  | .ins C dx fs => H dx = some (.own a) ∧ fs.length ≤ 1000 ∧ dx ≠ a ∧ h.get? a = some (PySem.W.instObj C dx) ∧
      ∃ mA, h.Ns1 dx mA ∧ (∀ f, RelO (fs.lookup f) (mA f)) ∧ PySem.Within mA (fs.map (·.1))
  | .own _ => ∃ o, h.get? a = some o
  | .xd fs => ∃ mA, h.Ns1 a mA ∧ ∀ f, RelO (fs.lookup f) (mA f)
  | .rng lo hi => ∃ t u v, h.get? a = some { cls := .type "range", data := .fields #[.int lo t, .int hi u, .int 1 v] }
  | .frz o u => h.get? a = some o ∧ ObjOk H h a u
  | .tbl ps => h.get? a = some { cls := .none, data := .fields ps }
  | .met f x => h.get? a = some (PySem.W.methodObj (.ref f) (.ref x))
  | .ext φ => φ h ∧ (∃ o, h.get? a = some o) ∧ ∀ h1 h2 : Heap, φ h1 → (∀ o, h1.get? a = some o → h2.get? a = some o) → φ h2
/-- the abstract heap is held -/
def HOk (H : Hp) (h : Heap) : Prop := ∀ a o, H a = some o → ObjOk P w H h a o
end

section
variable {P : Program} {w : World} {H H' : Hp} {h h' : Heap} {a : Addr} {o : HO}
theorem ObjOk.lt (x : ObjOk P w H h a o) : a < h.objs.size := by
  cases o with
  | lst xs => obtain ⟨_, _, _, _, e⟩ := x; exact Heap.lt_size e
  | tup xs => obtain ⟨_, _, _, p⟩ := x; exact p.lt
  | dK kvs => obtain ⟨_, _, _, _, o, _, _, e, _⟩ := x; exact Heap.lt_size e
  | dT kvs => obtain ⟨_, _, _, _, o, _, _, e, _⟩ := x; exact Heap.lt_size e
  | set S n => obtain ⟨o, _, _, _, e, _⟩ := x; exact Heap.lt_size e
  | ins C dx fs => obtain ⟨_, _, _, e, _⟩ := x; exact Heap.lt_size e
  | own y => obtain ⟨_, e⟩ := x; exact Heap.lt_size e
  | xd fs => obtain ⟨_, ⟨_, _, _, e, _⟩, _⟩ := x; exact Heap.lt_size e
  | rng lo hi => obtain ⟨_, _, _, e⟩ := x; exact Heap.lt_size e
  | frz ob u => obtain ⟨e, _⟩ := x; exact Heap.lt_size e
  | tbl ps => exact Heap.lt_size (show h.get? a = some _ from x)
  | met f y => exact Heap.lt_size (show h.get? a = some _ from x)
  | ext φ => obtain ⟨_, ⟨_, e⟩, _⟩ := x; exact Heap.lt_size e
theorem Paired.mapP {α β : Type} {F G : α → β → Prop} : ∀ {l₁ : List α} {l₂ : List β}, Paired F l₁ l₂ → (∀ a b, F a b → G a b) → Paired G l₁ l₂
  | _, _, .nil, _ => .nil
  | _, _, .cons r t, f => .cons (f _ _ r) (Paired.mapP t f)
theorem Paired.imp' {α β : Type} {F G : α → β → Prop} (f : ∀ a b, F a b → G a b) {l₁ : List α} {l₂ : List β} (r : Paired F l₁ l₂) : Paired G l₁ l₂ := Paired.mapP r f
/-- what an object's description leans on: its own object, its own dict, the tuples -/
theorem ObjOk.stay (x : ObjOk P w H h a o) (k : ∀ b u, (b = a ∨ H b = some (.own a)) → h.get? b = some u → h'.get? b = some u)
    (ho : ∀ b, H b = some (.own a) → H' b = some (.own a)) (ht : ∀ b xs, H b = some (.tup xs) → H' b = some (.tup xs)) : ObjOk P w H' h' a o := by
  induction o with
  | lst xs => obtain ⟨z, its, n, r, e⟩ := x; exact ⟨z, its, n, r, k _ _ (.inl rfl) e⟩
  | tup xs => obtain ⟨z, its, r, ob, e, c⟩ := x; exact ⟨z, its, r, ob, k _ _ (.inl rfl) e, c⟩
  | dK kvs => obtain ⟨z, y, vs, r, ob, es, ep, e, c⟩ := x; exact ⟨z, y, vs, r, ob, es, ep, k _ _ (.inl rfl) e, c⟩
  | dT kvs =>
    obtain ⟨z, y, xs, r, ob, es, ep, e, c⟩ := x
    exact ⟨z, y, xs, Paired.mapP r fun p q z => ⟨z.1, ht _ _ z.2.1, z.2.2⟩, ob, es, ep, k _ _ (.inl rfl) e, c⟩
  | set S n => obtain ⟨ob, es, ep, t, e, c⟩ := x; exact ⟨ob, es, ep, t, k _ _ (.inl rfl) e, c⟩
  | ins C dx fs =>
    obtain ⟨d, z, ne, e, mA, ⟨od, es, ep, e2, c⟩, r⟩ := x
    exact ⟨ho _ d, z, ne, k _ _ (.inl rfl) e, mA, ⟨od, es, ep, k _ _ (.inr d) e2, c⟩, r⟩
  | own y => obtain ⟨ob, e⟩ := x; exact ⟨ob, k _ _ (.inl rfl) e⟩
  | xd fs => obtain ⟨mA, ⟨od, es, ep, e, c⟩, r⟩ := x; exact ⟨mA, ⟨od, es, ep, k _ _ (.inl rfl) e, c⟩, r⟩
  | rng lo hi => obtain ⟨t, u, v, e⟩ := x; exact ⟨t, u, v, k _ _ (.inl rfl) e⟩
  | frz ob u ih => obtain ⟨e, q⟩ := x; exact ⟨k _ _ (.inl rfl) e, ih q⟩
  | tbl ps =>
    have e : h.get? a = some { cls := .none, data := .fields ps } := x
    show h'.get? a = some { cls := .none, data := .fields ps }
    exact k a _ (.inl rfl) e
  | met f y =>
    have e : h.get? a = some (PySem.W.methodObj (.ref f) (.ref y)) := x
    show h'.get? a = some (PySem.W.methodObj (.ref f) (.ref y))
    exact k a _ (.inl rfl) e
  | ext φ => obtain ⟨p, ⟨o, e⟩, st⟩ := x; exact ⟨st _ _ p fun o q => k _ _ (.inl rfl) q, ⟨o, k _ _ (.inl rfl) e⟩, st⟩
theorem HOk.lt (x : HOk P w H h) (e : H a = some o) : a < h.objs.size := (x a o e).lt
theorem HOk.fresh (x : HOk P w H h) (e : h.objs.size ≤ a) : H a = none := by
  cases q : H a with
  | none => rfl
  | some u => exact absurd (Nat.lt_of_lt_of_le (x.lt q) e) (Nat.lt_irrefl _)
/-- every object of the heap is kept -/
theorem HOk.kept (x : HOk P w H h) (k : ∀ b u, h.get? b = some u → h'.get? b = some u) : HOk P w H h' := fun a o e =>
  (x a o e).stay (fun b u _ q => k b u q) (fun _ q => q) fun _ _ q => q
/-- a new object is laid and tracked -/
theorem HOk.laid (x : HOk P w H h) (k : ∀ b u, h.get? b = some u → h'.get? b = some u) (hp : h.objs.size ≤ a) (new : ObjOk P w (upd H a o) h' a o) : HOk P w (upd H a o) h' := fun b u e => by
  have hn := x.fresh hp
  by_cases hb : b = a
  · subst hb; rw [upd_same] at e; cases e; exact new
  · rw [upd_ne hb] at e
    exact (x b u e).stay (fun c v _ q => k c v q) (fun c q => by rw [upd_ne (ne_of_none q hn)]; exact q) fun c xs q => by rw [upd_ne (ne_of_none q hn)]; exact q
end

/-- what may be read as u: it is u, or a known u -/
def Rd (H : Hp) (a : Addr) (u : HO) : Prop := H a = some u ∨ ∃ o, H a = some (.frz o u)
theorem Rd.of {H : Hp} {a : Addr} {u : HO} (h : H a = some u) : Rd H a u := .inl h
theorem Rd.ok {P : Program} {w : World} {H : Hp} {h : Heap} {a : Addr} {u : HO} (r : Rd H a u) (x : HOk P w H h) : ObjOk P w H h a u := by
  rcases r with r | ⟨o, r⟩
  · exact x a u r
  · obtain ⟨_, q⟩ := x a _ r
    exact q
/-- what may be written -/
def Mut : Option HO → Prop
  | some (.lst _) => True
  | some (.dK _) => True
  | some (.dT _) => True
  | some (.set _ _) => True
  | some (.ins _ _ _) => True
  | some (.ext _) => True
  | _ => False
section
variable {P : Program} {w : World} {H : Hp} {h h' : Heap} {x e : Addr} {o' : HO}
/-- the object at e is changed: x itself, or the dict of the instance x -/
theorem HOk.write (ok : HOk P w H h) (mu : Mut (H x)) (he : e = x ∨ H e = some (.own x)) (k : ∀ b u, b ≠ e → h.get? b = some u → h'.get? b = some u) (heo : ∃ u, h'.get? e = some u)
    (new : ObjOk P w (upd H x o') h' x o') : HOk P w (upd H x o') h' := fun b u q => by
  have nown : ∀ c y, H c = some (.own y) → c ≠ x := fun c y r z => by subst z; rw [r] at mu; exact mu
  have ntup : ∀ c xs, H c = some (.tup xs) → c ≠ x := fun c xs r z => by subst z; rw [r] at mu; exact mu
  by_cases hb : b = x
  · subst hb; rw [upd_same] at q; cases q; exact new
  · rw [upd_ne hb] at q
    by_cases hbe : b = e
    · have q' : H b = some (.own x) := by
        rcases he with z | z
        · exact absurd (hbe.trans z) hb
        · rw [hbe]; exact z
      rw [q] at q'; cases q'
      obtain ⟨v, hv⟩ := heo
      exact ⟨v, by rw [hbe]; exact hv⟩
    · refine (ok b u q).stay (fun c v hc r => k c v ?_ r) (fun c r => by rw [upd_ne (nown c b r)]; exact r) fun c xs r => by rw [upd_ne (ntup c xs r)]; exact r
      rcases hc with rfl | hc
      · exact hbe
      · rintro rfl
        rcases he with z | z
        · exact nown c b hc z
        · rw [hc] at z; cases z; exact hb rfl
end

/-! ### kept unless tracked; of the frames at fs (the callers') the slots may change (an exception that passes writes there); of the records at ex (iterators) nothing is said -/
structure Un (fs ex : List Addr) (H H' : Hp) (h h' : Heap) : Prop where
  keep : ∀ b o, h.get? b = some o → H b = none → b ∉ fs → b ∉ ex → h'.get? b = some o
  slot : ∀ b o, h.get? b = some o → H b = none → b ∈ fs → b ∉ ex → ∃ sl, h'.get? b = some { o with slots := sl }
  free : ∀ b o, h.get? b = some o → H b = none → b ∉ ex → H' b = none
  there : ∀ b o, h.get? b = some o → b ∉ ex → ∃ o', h'.get? b = some o'
  tups : ∀ b xs, H b = some (.tup xs) → H' b = some (.tup xs)
  frzs : ∀ b o u, H b = some (.frz o u) → H' b = some (.frz o u)
  tbls : ∀ b ps, H b = some (.tbl ps) → ∃ more, H' b = some (.tbl (ps ++ more))
section
variable {fs fs' ex ex' : List Addr} {H H1 H2 : Hp} {h h1 h2 h' : Heap} {a x e : Addr} {o : HO}
theorem Un.any (u : Un fs ex H H1 h h1) {b : Addr} {ob : Obj} (q : h.get? b = some ob) (n : H b = none) (hx : b ∉ ex) : ∃ sl, h1.get? b = some { ob with slots := sl } := by
  by_cases hb : b ∈ fs
  · exact u.slot b ob q n hb hx
  · exact ⟨ob.slots, u.keep b ob q n hb hx⟩
theorem Un.trans (a : Un fs ex H H1 h h1) (b : Un fs ex H1 H2 h1 h2) : Un fs ex H H2 h h2 where
  keep := fun c ob q n hc hx => b.keep c ob (a.keep c ob q n hc hx) (a.free c ob q n hx) hc hx
  slot := fun c ob q n hc hx => by
    obtain ⟨sl, e1⟩ := a.slot c ob q n hc hx
    obtain ⟨sl', e2⟩ := b.slot c _ e1 (a.free c ob q n hx) hc hx
    exact ⟨sl', e2⟩
  free := fun c ob q n hx => by
    obtain ⟨o', e1⟩ := a.there c ob q hx
    exact b.free c o' e1 (a.free c ob q n hx) hx
  there := fun c ob q hx => by
    obtain ⟨o', e1⟩ := a.there c ob q hx
    exact b.there c o' e1 hx
  tups := fun c xs q => b.tups c xs (a.tups c xs q)
  frzs := fun c ob xs q => b.frzs c ob xs (a.frzs c ob xs q)
  tbls := fun c ps q => by
    obtain ⟨m1, e1⟩ := a.tbls c ps q
    obtain ⟨m2, e2⟩ := b.tbls c _ e1
    exact ⟨m1 ++ m2, by rw [e2, Array.append_assoc]⟩
theorem Un.kept (k : ∀ b u, h.get? b = some u → h'.get? b = some u) : Un fs ex H H h h' :=
  ⟨fun b ob q _ _ _ => k b ob q, fun b ob q _ _ _ => ⟨ob.slots, k b ob q⟩, fun _ _ _ n _ => n, fun b ob q _ => ⟨ob, k b ob q⟩, fun _ _ q => q, fun _ _ _ q => q, fun _ ps q => ⟨#[], by rw [q]; simp⟩⟩
theorem Un.refl : Un fs ex H H h h := Un.kept fun _ _ q => q
theorem Un.laid (k : ∀ b u, h.get? b = some u → h'.get? b = some u) (hp : h.objs.size ≤ a) (hn : H a = none) : Un fs ex H (upd H a o) h h' where
  keep := fun b u q _ _ _ => k b u q
  slot := fun b u q _ _ _ => ⟨u.slots, k b u q⟩
  free := fun b u q n _ => by rw [upd_ne (Nat.ne_of_lt (Nat.lt_of_lt_of_le (Heap.lt_size q) hp))]; exact n
  there := fun b u q _ => ⟨u, k b u q⟩
  tups := fun b xs q => by rw [upd_ne (ne_of_none q hn)]; exact q
  frzs := fun b u xs q => by rw [upd_ne (ne_of_none q hn)]; exact q
  tbls := fun b ps q => ⟨#[], by rw [upd_ne (ne_of_none q hn), q]; simp⟩
theorem Un.write (mu : Mut (H x)) (he : e = x ∨ H e = some (.own x)) (k : ∀ b u, b ≠ e → h.get? b = some u → h'.get? b = some u) (heo : ∃ u, h'.get? e = some u) : Un fs ex H (upd H x o) h h' := by
  have hx : ∀ b, H b = none → b ≠ x := fun b n z => by subst z; rw [n] at mu; exact mu
  have hb : ∀ b, H b = none → b ≠ e := fun b n z => by
    subst z
    rcases he with r | r
    · exact hx b n r
    · rw [n] at r; cases r
  have hm : ∀ b u, H b = some u → ¬ Mut (some u) → b ≠ x := fun b u q nm z => by subst z; rw [q] at mu; exact nm mu
  refine ⟨fun b u q n _ _ => k b u (hb b n) q, fun b u q n _ _ => ⟨u.slots, k b u (hb b n) q⟩, fun b u q n _ => by rw [upd_ne (hx b n)]; exact n, fun b u q _ => ?_,
    fun b xs q => by rw [upd_ne (hm b _ q fun z => z)]; exact q, fun b u xs q => by rw [upd_ne (hm b _ q fun z => z)]; exact q, fun b ps q => ⟨#[], by rw [upd_ne (hm b _ q fun z => z), q]; simp⟩⟩
  by_cases hbe : b = e
  · subst hbe; exact heo
  · exact ⟨u, k b u hbe q⟩
theorem Un.mono (u : Un fs ex H H1 h h1) (hs : ∀ b ∈ fs, b ∈ fs') (hx : ∀ b ∈ ex, b ∈ ex') : Un fs' ex' H H1 h h1 :=
  ⟨fun b ob q n hb he => u.keep b ob q n (fun z => hb (hs b z)) fun z => he (hx b z), fun _ _ q n _ he => u.any q n fun z => he (hx _ z), fun b ob q n he => u.free b ob q n fun z => he (hx b z), fun b ob q he => u.there b ob q fun z => he (hx b z), u.tups, u.frzs, u.tbls⟩
end

/-! ### the heap without what is tracked -/
def trk (h : Heap) (H : Hp) : List Addr := (List.range h.objs.size).filter fun a => (H a).isSome
def hidT (h : Heap) (H : Hp) : Heap := PySem.W.hideAll h (trk h H)
theorem hidT_size (h : Heap) (H : Hp) : (hidT h H).objs.size = h.objs.size := PySem.W.hideAll_size _ _
theorem hidT_get {h : Heap} {H : Hp} {b : Addr} {o : Obj} (e : h.get? b = some o) (n : H b = none) : (hidT h H).get? b = some o :=
  PySem.W.hideAll_get _ e fun hm => by
    have q : (H b).isSome = true := (List.mem_filter.mp hm).2
    rw [n] at q; simp at q
theorem of_hidT {h : Heap} {H : Hp} {b : Addr} {o : Obj} (e : (hidT h H).get? b = some o) : h.get? b = some o ∧ H b = none := by
  have e' : h.get? b = some o := PySem.W.of_hideAll (trk h H) e
  refine ⟨e', ?_⟩
  cases q : H b with
  | none => rfl
  | some x =>
    have hm : b ∈ trk h H := List.mem_filter.mpr ⟨List.mem_range.mpr (Heap.lt_size e'), by simp [q]⟩
    have z : (hidT h H).get? b = none := PySem.W.hideAll_none (trk h H) hm
    rw [z] at e; cases e

/-! ### OpenK's ledger, filled with every new object but one -/
def allNews (g h : Heap) (L : Addr) : List (Addr × Obj) := (List.range h.objs.size).filterMap fun a => if a = L ∨ (g.get? a).isSome = true then none else (h.get? a).map fun o => (a, o)
theorem mem_allNews {g h : Heap} {L a : Addr} {o : Obj} (h1 : a ≠ L) (h2 : g.get? a = none) (h3 : h.get? a = some o) : (a, o) ∈ allNews g h L :=
  List.mem_filterMap.mpr ⟨a, List.mem_range.mpr (Heap.lt_size h3), by simp [h1, h2, h3]⟩
theorem of_mem_allNews {g h : Heap} {L : Addr} {p : Addr × Obj} (hp : p ∈ allNews g h L) : p.1 ≠ L ∧ g.get? p.1 = none ∧ h.get? p.1 = some p.2 := by
  obtain ⟨b, _, e⟩ := List.mem_filterMap.mp hp
  split at e
  · cases e
  · rename_i hn
    cases q : h.get? b with
    | none => rw [q] at e; simp at e
    | some u =>
      rw [q] at e
      simp only [Option.map_some, Option.some.injEq] at e
      subst e
      refine ⟨fun z => hn (.inl z), ?_, q⟩
      show g.get? b = none
      cases r : g.get? b with
      | none => rfl
      | some v => exact (hn (.inr (by simp [r]))).elim
def rest (g h : Heap) (L d : Addr) : List (Addr × Obj) := (allNews g h L).filter fun p => decide (p.1 ≠ d)
theorem rest_ne {g h : Heap} {L d : Addr} : ∀ p ∈ rest g h L d, p.1 ≠ d := fun p hp => of_decide_eq_true (List.mem_filter.mp hp).2
theorem mem_rest {g h : Heap} {L d a : Addr} {o : Obj} (h1 : a ≠ L) (h2 : g.get? a = none) (h3 : h.get? a = some o) (h4 : a ≠ d) : (a, o) ∈ rest g h L d :=
  List.mem_filter.mpr ⟨mem_allNews h1 h2 h3, decide_eq_true h4⟩
theorem news_all {g h : Heap} {L : Addr} : News g L h (allNews g h L) := fun p hp => let ⟨a, b, c⟩ := of_mem_allNews hp; ⟨c, a, b⟩
theorem news_at {g h : Heap} {L d : Addr} {o : Obj} (h1 : d ≠ L) (h2 : g.get? d = none) (h3 : h.get? d = some o) : News g L h ((d, o) :: rest g h L d) := fun p hp => by
  rcases List.mem_cons.mp hp with rfl | hp
  · exact ⟨h3, h1, h2⟩
  · exact news_all p (List.mem_filter.mp hp).1
/-- behind a rule that changed d alone: all else but the frame is kept -/
theorem kept_of_news {g h h' : Heap} {L d : Addr} {m : Str → Option Value} (k : ∀ b o, g.get? b = some o → h.get? b = some o) (F : Fr g L h' m) (N : News g L h' (rest g h L d)) :
    ∀ b o, b ≠ L → b ≠ d → h.get? b = some o → h'.get? b = some o := fun b o h1 h2 e => by
  cases q : g.get? b with
  | some u =>
    have := k b u q
    rw [e] at this; cases this
    exact F.keep b _ q
  | none => exact (N (b, o) (mem_rest h1 q e h2)).1
end L2

namespace L2
open PySem PySem.Spec PyProof.Rows

/-- the module's facts, over the base: the heap at the law's entry without what is tracked there -/
structure Mod (K : PySem.W.Frag) (mg : Str → Option Value) (base : Heap) : Prop where
  kin : K.In base
  glob : base.Ns mainGlobals mg
  blt : ∃ mb, base.Ns builtinsNs mb ∧ ∀ x : Str, x ≠ "__name__" → mb x = bootBuiltins x
  nolimit : base.NoLimit

/-- the context: a def's body (or a comprehension's block) running. base: fixed through the whole law; s₀, H₀: the entry; outer: the frames whose slots others may change (a def's callers); stack: all frames that run;
   ex: iterators that were made ahead of the entry and are walked here (a comprehension's); fn: the names whose cells were made at the entry (a def: all; a comprehension's block: its own); calm: not within an except suite; pn: pins that every state bears; xe: what is wanted of an exception that leaves the code -/
structure Cx where
  prog : Program
  w : World
  K : PySem.W.Frag
  mg : Str → Option Value
  base : Heap
  A : Around
  N : List Str
  s₀ : Shared
  H₀ : Hp
  env : Env
  outer : List Env
  stack : List Env
  ex : List Addr
  fn : Str → Bool
  calm : Bool
  pn : List (Addr × Obj)
  xe : Value → Shared → Prop
/-- the callers' frames -/
def frs (l : List Env) : List Addr := l.filterMap (·.frame)
abbrev Cx.fs (X : Cx) : List Addr := frs X.outer

def Vis (sc : Scope) (x : Str) : Prop := sc.names.lookup x = some .local ∨ sc.names.lookup x = some .cell ∨ sc.names.lookup x = some .free
def Loc (sc : Scope) (x : Str) : Prop := sc.names.lookup x = some .local ∨ sc.names.lookup x = some .cell
def Look (env : Env) (h : Heap) (m : Str → Option Value) (x : Str) (u : Value) : Prop :=
  (env.kindOf x = some .local ∧ m x = some u) ∨ ((env.kindOf x = some .cell ∨ env.kindOf x = some .free) ∧ ∃ c, env.cells.lookup x = some c ∧ h.IsCell c (some u))

structure Cx.Ok (X : Cx) : Prop where
  mod : Mod X.K X.mg X.base
  kind : X.env.scope.kind = .function
  glob : X.env.globals = mainGlobals
  blt : X.env.builtins = builtinsNs
  above : X.s₀.heap.objs.size ≤ X.env.locals
  inj : ∀ x y c, X.env.cells.lookup x = some c → X.env.cells.lookup y = some c → x = y
  has : ∀ x, (X.env.kindOf x = some .cell ∨ X.env.kindOf x = some .free) → ∃ c, X.env.cells.lookup x = some c
  cab : ∀ x c, X.fn x = true → X.env.cells.lookup x = some c → X.s₀.heap.objs.size ≤ c
  hd : X.calm = true → X.A.handled = none
  frames : X.A.frames = some X.stack
  stk : X.stack = X.outer ∨ (X.stack = X.env :: X.outer ∧ X.env.frame = some X.env.locals)
  exf : ∀ b ∈ X.ex, b ≠ X.env.locals ∧ ∀ x c, X.env.cells.lookup x = some c → c ≠ b
  bs : ∀ b o, X.base.get? b = some o → X.s₀.heap.get? b = some o ∧ X.H₀ b = none
  bsz : X.base.objs.size ≤ X.s₀.heap.objs.size
  noex : ∀ b o, X.base.get? b = some o → b ∉ X.ex
  exfs : ∀ b ∈ X.ex, b ∉ X.fs
  funs : X.s₀.heap.FunFrames X.base X.outer
  frf : ∀ b ∈ X.fs, X.H₀ b = none

structure Inv (X : Cx) (pins : List (Addr × Obj)) (σ : List (Option V)) (H : Hp) (s : Shared) : Prop where
  ok : X.Ok
  os : s.os = X.s₀.os
  bare : AllBare s.gens
  base : Un X.fs X.ex X.H₀ H X.s₀.heap s.heap
  loc : ∃ m, s.heap.Ns X.env.locals m ∧ ∀ (i : Nat) (x : Str) (v : V), X.N[i]? = some x → σ[i]? = some (some v) → Vis X.env.scope x → ∃ u, RelV v u ∧ Look X.env s.heap m x u
  cell : ∀ x c, X.env.cells.lookup x = some c → ∃ v, s.heap.IsCell c v
  free : H X.env.locals = none
  freeC : ∀ x c, X.env.cells.lookup x = some c → H c = none
  pin : ∀ p ∈ X.pn ++ pins, s.heap.get? p.1 = some p.2 ∧ H p.1 = none ∧ p.1 ≠ X.env.locals ∧ p.1 ∉ X.fs ∧ ∀ v, p.2.data ≠ .cell v
  hok : HOk X.prog X.w H s.heap
  len : σ.length = X.N.length

section
variable {X : Cx} {pins : List (Addr × Obj)} {σ : List (Option V)} {H H' : Hp} {s : Shared} {h' : Heap}

theorem Cx.Ok.nofr (ok : X.Ok) {b : Addr} {o : Obj} (e : X.base.get? b = some o) : b ∉ X.fs := fun hb => by
  have := (ok.funs.mem hb).1
  rw [e] at this; cases this
theorem Inv.bs (I : Inv X pins σ H s) : ∀ b o, X.base.get? b = some o → s.heap.get? b = some o ∧ H b = none := fun b o e =>
  ⟨I.base.keep b o (I.ok.bs b o e).1 (I.ok.bs b o e).2 (I.ok.nofr e) (I.ok.noex b o e), I.base.free b o (I.ok.bs b o e).1 (I.ok.bs b o e).2 (I.ok.noex b o e)⟩
theorem Inv.bk (I : Inv X pins σ H s) : ∀ b o, X.base.get? b = some o → s.heap.get? b = some o := fun b o e => (I.bs b o e).1
theorem Inv.mod (I : Inv X pins σ H s) : Mod X.K X.mg X.base := I.ok.mod
theorem Inv.kIn (I : Inv X pins σ H s) : X.K.In s.heap := I.ok.mod.kin.keeps I.bk
theorem Inv.nolimit (I : Inv X pins σ H s) : s.heap.NoLimit := I.ok.mod.nolimit.keeps I.bk
/-- the frame over the base: for OpenK's rules (K.In X.base is I.mod.kin) -/
theorem Inv.fr (I : Inv X pins σ H s) : ∃ m, Fr X.base X.env.locals s.heap m :=
  let ⟨m, hn, _⟩ := I.loc
  ⟨m, hn, I.bk, Nat.le_trans I.ok.bsz I.ok.above⟩
theorem Inv.lt (I : Inv X pins σ H s) : X.env.locals < s.heap.objs.size := let ⟨_, hn, _⟩ := I.loc; hn.lt
theorem Inv.sz (I : Inv X pins σ H s) : X.s₀.heap.objs.size ≤ s.heap.objs.size := Nat.le_trans I.ok.above (Nat.le_of_lt I.lt)
theorem Inv.nofs (I : Inv X pins σ H s) {a : Addr} (h : s.heap.objs.size ≤ a) : a ∉ X.fs := fun hb => by
  obtain ⟨_, o, ho, _⟩ := I.ok.funs.mem hb
  exact absurd (Nat.lt_of_lt_of_le (Heap.lt_size ho) (Nat.le_trans I.sz h)) (Nat.lt_irrefl _)
theorem Inv.cne (I : Inv X pins σ H s) : ∀ x c, X.env.cells.lookup x = some c → c ≠ X.env.locals := fun x c e z => by
  obtain ⟨v, o, ho, hd⟩ := I.cell x c e
  obtain ⟨m, ⟨o', es, ep, ho', hd', _⟩, _⟩ := I.loc
  rw [z, ho'] at ho; cases ho; rw [hd'] at hd; cases hd
theorem Inv.funs (I : Inv X pins σ H s) : s.heap.FunFrames X.base X.outer := by
  have all : ∀ (l : List Env), (∀ b ∈ frs l, b ∈ X.fs) → X.s₀.heap.FunFrames X.base l → s.heap.FunFrames X.base l := by
    intro l
    induction l with
    | nil => intro _ _; trivial
    | cons env r ih =>
      intro hs hl
      obtain ⟨hk, ⟨L, o, hf, hn, ho, hd⟩, hr⟩ := hl
      have hL : L ∈ X.fs := hs L (by unfold frs; rw [List.filterMap_cons, hf]; exact List.mem_cons_self)
      obtain ⟨sl, e⟩ := I.base.slot L o ho (I.ok.frf L hL) hL fun z => I.ok.exfs L z hL
      exact ⟨hk, ⟨L, _, hf, hn, e, hd⟩, ih (fun b hb => hs b (by unfold frs; rw [List.filterMap_cons, hf]; exact List.mem_cons_of_mem _ hb)) hr⟩
  exact all X.outer (fun _ hb => hb) I.ok.funs

/-- the frames that run, for a call -/
theorem Inv.stack (I : Inv X pins σ H s) : s.heap.FunFrames X.base X.stack := by
  rcases I.ok.stk with e | ⟨e, hf⟩
  · rw [e]; exact I.funs
  · rw [e]
    obtain ⟨m, hn, _⟩ := I.loc
    refine .cons (by rw [I.ok.kind]; decide) hf hn ?_ I.funs
    exact Heap.get?_none_of_le (Nat.le_trans I.ok.bsz I.ok.above)
theorem Inv.stkSub (I : Inv X pins σ H s) : ∀ b ∈ frs X.stack, b ∈ X.env.locals :: X.fs := fun b hb => by
  rcases I.ok.stk with e | ⟨e, hf⟩
  · rw [e] at hb; exact List.mem_cons_of_mem _ hb
  · rw [e] at hb
    unfold frs at hb
    rw [List.filterMap_cons, hf] at hb
    exact hb
theorem Inv.stkFree (I : Inv X pins σ H s) : ∀ b ∈ frs X.stack, H b = none := fun b hb => by
  rcases List.mem_cons.mp (I.stkSub b hb) with e | hb
  · rw [e]; exact I.free
  · obtain ⟨_, o, ho, _⟩ := I.ok.funs.mem hb
    exact I.base.free b o ho (I.ok.frf b hb) fun z => I.ok.exfs b z hb

/-- THE STEP: the untracked objects but the frame and the records at ch are kept (the callers' frames up to slots), the frame's map is kept, the new abstract heap is held -/
theorem Inv.step {g' : Array GenState} {t' : Nat} {d' : Drawn} {ch : List Addr} (I : Inv X pins σ H s)
    (hch : ∀ b ∈ ch, (b ∈ X.ex ∨ X.s₀.heap.objs.size ≤ b) ∧ b ≠ X.env.locals ∧ (∀ x c, X.env.cells.lookup x = some c → c ≠ b) ∧ ∀ p ∈ X.pn ++ pins, p.1 ≠ b)
    (keep : ∀ b o, b ≠ X.env.locals → b ∉ X.fs → b ∉ ch → s.heap.get? b = some o → H b = none → h'.get? b = some o)
    (slot : ∀ b o, b ≠ X.env.locals → b ∈ X.fs → b ∉ ch → s.heap.get? b = some o → H b = none → ∃ sl, h'.get? b = some { o with slots := sl }) (free : ∀ b o, b ∉ ch → s.heap.get? b = some o → H b = none → H' b = none)
    (there : ∀ b o, b ∉ ch → s.heap.get? b = some o → ∃ o', h'.get? b = some o')
    (tups : ∀ b xs, H b = some (.tup xs) → H' b = some (.tup xs)) (frzs : ∀ b o u, H b = some (.frz o u) → H' b = some (.frz o u)) (tbls : ∀ b ps, H b = some (.tbl ps) → ∃ more, H' b = some (.tbl (ps ++ more)))
    (ns : ∀ m, s.heap.Ns X.env.locals m → h'.Ns X.env.locals m) (hok : HOk X.prog X.w H' h') (hg : AllBare g') :
    Inv X pins σ H' { s with heap := h', gens := g', drawn := d', toks := t' } := by
  have neL : ∀ b o, X.s₀.heap.get? b = some o → b ≠ X.env.locals := fun b o e => Nat.ne_of_lt (Nat.lt_of_lt_of_le (Heap.lt_size e) I.ok.above)
  have neC : ∀ b o, X.s₀.heap.get? b = some o → b ∉ X.ex → b ∉ ch := fun b o e hx hb => by
    rcases (hch b hb).1 with z | z
    · exact hx z
    · exact absurd (Nat.lt_of_lt_of_le (Heap.lt_size e) z) (Nat.lt_irrefl _)
  have cellK : ∀ x c, X.env.cells.lookup x = some c → ∀ v, s.heap.IsCell c v → h'.IsCell c v := fun x c e v ⟨o, ho, hd⟩ => by
    have nch : c ∉ ch := fun z => (hch c z).2.2.1 x c e rfl
    by_cases hc : c ∈ X.fs
    · obtain ⟨sl, q⟩ := slot c o (I.cne x c e) hc nch ho (I.freeC x c e)
      exact ⟨_, q, hd⟩
    · exact ⟨o, keep c o (I.cne x c e) hc nch ho (I.freeC x c e), hd⟩
  refine ⟨I.ok, I.os, hg, ⟨fun b o e n hb hx => ?_, fun b o e n hb hx => ?_, fun b o e n hx => ?_, fun b o e hx => ?_, fun b xs e => tups b xs (I.base.tups b xs e), fun b o xs e => frzs b o xs (I.base.frzs b o xs e), fun b ps e => ?_⟩, ?_, fun x c e => ?_, ?_, fun x c e => ?_, fun p hp => ?_, hok, I.len⟩
  · exact keep b o (neL b o e) hb (neC b o e hx) (I.base.keep b o e n hb hx) (I.base.free b o e n hx)
  · obtain ⟨sl, e1⟩ := I.base.slot b o e n hb hx
    obtain ⟨sl', e2⟩ := slot b _ (neL b o e) hb (neC b o e hx) e1 (I.base.free b o e n hx)
    exact ⟨sl', e2⟩
  · obtain ⟨o', e1⟩ := I.base.there b o e hx
    exact free b o' (neC b o e hx) e1 (I.base.free b o e n hx)
  · obtain ⟨o', e1⟩ := I.base.there b o e hx
    exact there b o' (neC b o e hx) e1
  · obtain ⟨m1, e1⟩ := I.base.tbls b ps e
    obtain ⟨m2, e2⟩ := tbls b _ e1
    exact ⟨m1 ++ m2, by rw [e2, Array.append_assoc]⟩
  · obtain ⟨m, hn, hl⟩ := I.loc
    refine ⟨m, ns m hn, fun i x v e1 e2 e3 => ?_⟩
    obtain ⟨u, r, l⟩ := hl i x v e1 e2 e3
    refine ⟨u, r, ?_⟩
    rcases l with l | ⟨k, c, e, z⟩
    · exact .inl l
    · exact .inr ⟨k, c, e, cellK x c e _ z⟩
  · obtain ⟨v, z⟩ := I.cell x c e
    exact ⟨v, cellK x c e v z⟩
  · obtain ⟨m, ⟨o, _, _, ho, _⟩, _⟩ := I.loc
    exact free _ o (fun z => (hch _ z).2.1 rfl) ho I.free
  · obtain ⟨v, o, ho, hd⟩ := I.cell x c e
    exact free c o (fun z => (hch c z).2.2.1 x c e rfl) ho (I.freeC x c e)
  · obtain ⟨e, n, ne, nf, d⟩ := I.pin p hp
    have nch : p.1 ∉ ch := fun z => (hch p.1 z).2.2.2 p hp rfl
    exact ⟨keep p.1 p.2 ne nf nch e n, free p.1 p.2 nch e n, ne, nf, d⟩
/-- .. where the frame's own object is kept too -/
theorem Inv.un {t' : Nat} (I : Inv X pins σ H s) (u : Un X.fs [] H H' s.heap h') (hok : HOk X.prog X.w H' h') : Inv X pins σ H' { s with heap := h', toks := t' } := by
  obtain ⟨m, ⟨o, es, ep, ho, r⟩, _⟩ := id I.loc
  obtain ⟨sl, hL⟩ := u.any ho I.free (by simp)
  exact I.step (g' := s.gens) (d' := s.drawn) (ch := []) (fun _ z => nomatch z) (fun b o _ hb _ e n => u.keep b o e n hb (by simp)) (fun b o _ hb _ e n => u.slot b o e n hb (by simp)) (fun b o _ e n => u.free b o e n (by simp)) (fun b o _ e => u.there b o e (by simp)) u.tups u.frzs u.tbls (fun m' hm => by
    obtain ⟨o', es', ep', ho', r'⟩ := hm
    rw [ho] at ho'; cases ho'
    exact ⟨_, es', ep', hL, r'⟩) hok I.bare
/-- behind a call (or a comprehension's block): the slots of this frame may have changed too, the records at ch may have turned -/
theorem Inv.call {g' : Array GenState} {t' : Nat} {d' : Drawn} {ch : List Addr} (I : Inv X pins σ H s) (u : Un (frs X.stack) ch H H' s.heap h') (hok : HOk X.prog X.w H' h') (hg : AllBare g')
    (hch : ∀ b ∈ ch, (b ∈ X.ex ∨ X.s₀.heap.objs.size ≤ b) ∧ b ≠ X.env.locals ∧ (∀ x c, X.env.cells.lookup x = some c → c ≠ b) ∧ ∀ p ∈ X.pn ++ pins, p.1 ≠ b) :
    Inv X pins σ H' { s with heap := h', gens := g', drawn := d', toks := t' } := by
  obtain ⟨m, ⟨o, es, ep, ho, r⟩, _⟩ := id I.loc
  obtain ⟨sl, hL⟩ := u.any ho I.free fun z => (hch _ z).2.1 rfl
  exact I.step (ch := ch) hch (fun b o hL hb hc e n => u.keep b o e n (fun z => (List.mem_cons.mp (I.stkSub b z)).elim hL hb) hc) (fun b o _ _ hc e n => u.any e n hc) (fun b o hc e n => u.free b o e n hc) (fun b o hc e => u.there b o e hc) u.tups u.frzs u.tbls (fun m' hm => by
    obtain ⟨o', es', ep', ho', r'⟩ := hm
    rw [ho] at ho'; cases ho'
    exact ⟨_, es', ep', hL, r'⟩) hok hg
/-- an untracked record of ours (an iterator) has turned -/
theorem Inv.turned {t' : Nat} {it : Addr} (I : Inv X pins σ H s) (k : ∀ b o, b ≠ it → s.heap.get? b = some o → h'.get? b = some o) (hn : H it = none) (hL : it ≠ X.env.locals)
    (h1 : it ∈ X.ex ∨ X.s₀.heap.objs.size ≤ it) (h2 : ∀ x c, X.env.cells.lookup x = some c → c ≠ it) (h3 : ∀ p ∈ X.pn ++ pins, p.1 ≠ it) : Inv X pins σ H { s with heap := h', toks := t' } := by
  have nit : ∀ b u, H b = some u → b ≠ it := fun b u e z => by rw [z, hn] at e; cases e
  refine I.step (g' := s.gens) (d' := s.drawn) (ch := [it]) (fun b hb => ?_) (fun b o _ _ hc e _ => k b o (fun z => hc (by simp [z])) e) (fun b o _ _ hc e _ => ⟨o.slots, k b o (fun z => hc (by simp [z])) e⟩) (fun _ _ _ _ n => n)
    (fun b o hc e => ⟨o, k b o (fun z => hc (by simp [z])) e⟩) (fun _ _ e => e) (fun _ _ _ e => e) (fun b ps e => ⟨#[], by rw [e]; simp⟩) (fun m hm => ?_) (fun b u e => ?_) I.bare
  · have e : b = it := by simpa using hb
    subst e
    exact ⟨h1, hL, h2, h3⟩
  · obtain ⟨o, es, ep, ho, r⟩ := hm
    exact ⟨o, es, ep, k _ o (Ne.symm hL) ho, r⟩
  · refine (I.hok b u e).stay (fun c v hc q => k c v ?_ q) (fun _ q => q) fun _ _ q => q
    rcases hc with z | z
    · rw [z]; exact nit b u e
    · exact nit c _ z
theorem Inv.tok (I : Inv X pins σ H s) (t : Nat) : Inv X pins σ H { s with toks := t } := I.un (h' := s.heap) (t' := t) Un.refl I.hok
/-- all objects kept -/
theorem Inv.kept {t' : Nat} (I : Inv X pins σ H s) (k : ∀ b u, s.heap.get? b = some u → h'.get? b = some u) : Inv X pins σ H { s with heap := h', toks := t' } := I.un (Un.kept k) (I.hok.kept k)
/-- a new object laid and tracked -/
theorem Inv.laid {a : Addr} {o : HO} {t' : Nat} (I : Inv X pins σ H s) (k : ∀ b u, s.heap.get? b = some u → h'.get? b = some u) (hp : s.heap.objs.size ≤ a) (new : ObjOk X.prog X.w (upd H a o) h' a o) :
    Inv X pins σ (upd H a o) { s with heap := h', toks := t' } := I.un (Un.laid k hp (I.hok.fresh hp)) (I.hok.laid k hp new)
/-- an object written -/
theorem Inv.write {x e : Addr} {o : HO} {t' : Nat} (I : Inv X pins σ H s) (mu : Mut (H x)) (he : e = x ∨ H e = some (.own x)) (k : ∀ b u, b ≠ e → s.heap.get? b = some u → h'.get? b = some u) (heo : ∃ u, h'.get? e = some u)
    (new : ObjOk X.prog X.w (upd H x o) h' x o) : Inv X pins σ (upd H x o) { s with heap := h', toks := t' } := I.un (Un.write mu he k heo) (I.hok.write mu he k heo new)
/-- forgetting slots, pins -/
theorem Inv.weak {σ' : List (Option V)} (I : Inv X pins σ H s) (hl : σ'.length = σ.length) (w : ∀ (i : Nat) v, σ'[i]? = some (some v) → σ[i]? = some (some v)) : Inv X pins σ' H s :=
  ⟨I.ok, I.os, I.bare, I.base, let ⟨m, hn, hl'⟩ := I.loc; ⟨m, hn, fun i x v e1 e2 e3 => hl' i x v e1 (w i v e2) e3⟩, I.cell, I.free, I.freeC, I.pin, I.hok, hl.trans I.len⟩
theorem Inv.pins_of {pins' : List (Addr × Obj)} (I : Inv X pins σ H s) (h : ∀ p ∈ pins', s.heap.get? p.1 = some p.2 ∧ H p.1 = none ∧ p.1 ≠ X.env.locals ∧ p.1 ∉ X.fs ∧ ∀ v, p.2.data ≠ .cell v) : Inv X pins' σ H s :=
  ⟨I.ok, I.os, I.bare, I.base, I.loc, I.cell, I.free, I.freeC, fun p hp => (List.mem_append.mp hp).elim (fun z => I.pin p (List.mem_append_left _ z)) (h p), I.hok, I.len⟩

theorem nodup_ix {N : List Str} (hN : N.Nodup) {i j : Nat} {x : Str} (a : N[i]? = some x) (b : N[j]? = some x) : i = j := by
  obtain ⟨h1, e1⟩ := List.getElem?_eq_some_iff.mp a
  obtain ⟨h2, e2⟩ := List.getElem?_eq_some_iff.mp b
  exact (List.getElem_inj hN).mp (e1.trans e2.symm)

/-- a name is stored; what changed -/
theorem store_ok2 {M : Model} {A : Around} {E : Value → Shared → Prop} {i : Nat} {x : Str} {v : V} {u : Value} {Q : Unit → Shared → Prop} (I : Inv X pins σ H s) (hN : X.N.Nodup) (hi : X.N[i]? = some x) (hx : Loc X.env.scope x) (r : RelV v u)
    (h : ∀ s', Inv X pins (σ.set i (some v)) H s' → (∃ a, Heap.SameBut a s.heap s'.heap ∧ (a = X.env.locals ∨ X.env.cells.lookup x = some a)) → Q () s') (hf : X.fn x = true ∨ X.env.scope.names.lookup x = some .local := by first | exact .inl rfl | exact .inr rfl | assumption) : wpAny M A (storeName X.env x u) Q E s := by
  obtain ⟨m, hn, hl⟩ := id I.loc
  have hcls : (X.env.scope.kind == .class || (X.env.scope.kind == .module && X.env.locals != X.env.globals)) = false := by rw [I.ok.kind]; rfl
  have hiσ : i < σ.length := by rw [I.len]; exact (List.getElem?_eq_some_iff.mp hi).1
  have cne := I.cne
  have tracked : ∀ {a : Addr} {h' : Heap}, (∃ o, s.heap.get? a = some o ∧ H a = none) → Heap.SameBut a s.heap h' → HOk X.prog X.w H h' := fun {a h'} ha hs b ob e => by
    obtain ⟨_, _, hfree⟩ := ha
    refine (I.hok b ob e).stay (fun c w' hc q => (hs.2 c ?_).trans q) (fun _ q => q) fun _ _ q => q
    rintro rfl
    rcases hc with rfl | hc
    · rw [hfree] at e; cases e
    · rw [hfree] at hc; cases hc
  rcases hx with hk | hk
  · refine wpAny_storeName_local hk hn (fun h' hn' hs => ?_) hcls
    obtain ⟨oL, _, _, hoL, _⟩ := id hn
    refine h _ ⟨I.ok, I.os, I.bare, ⟨fun b o e n hb hx => ?_, fun b o e n hb hx => ?_, I.base.free, fun b o e hx => ?_, I.base.tups, I.base.frzs, I.base.tbls⟩, ⟨_, hn', fun j y v' e1 e2 e3 => ?_⟩, fun y c e => ?_, I.free, I.freeC, fun p hp => ?_, tracked ⟨oL, hoL, I.free⟩ hs, by simpa using I.len⟩ ⟨_, hs, .inl rfl⟩
    · exact (hs.2 b (Nat.ne_of_lt (Nat.lt_of_lt_of_le (Heap.lt_size e) I.ok.above))).trans (I.base.keep b o e n hb hx)
    · obtain ⟨sl, e1⟩ := I.base.slot b o e n hb hx
      exact ⟨sl, (hs.2 b (Nat.ne_of_lt (Nat.lt_of_lt_of_le (Heap.lt_size e) I.ok.above))).trans e1⟩
    · obtain ⟨o', e1⟩ := I.base.there b o e hx
      exact ⟨o', (hs.2 b (Nat.ne_of_lt (Nat.lt_of_lt_of_le (Heap.lt_size e) I.ok.above))).trans e1⟩
    · by_cases hj : j = i
      · subst hj
        rw [hi] at e1; cases e1
        rw [List.getElem?_set_self hiσ] at e2
        cases e2
        exact ⟨u, r, .inl ⟨hk, by simp⟩⟩
      · rw [List.getElem?_set_ne (Ne.symm hj)] at e2
        obtain ⟨u', r', q⟩ := hl j y v' e1 e2 e3
        refine ⟨u', r', ?_⟩
        rcases q with ⟨k, e⟩ | ⟨k, c, e, z⟩
        · refine .inl ⟨k, ?_⟩
          have : y ≠ x := fun e => hj (nodup_ix hN e1 (e ▸ hi))
          simp [this, e]
        · exact .inr ⟨k, c, e, z.sameBut hs (cne y c e)⟩
    · obtain ⟨w', z⟩ := I.cell y c e
      exact ⟨w', z.sameBut hs (cne y c e)⟩
    · obtain ⟨e, n, ne, nf, d⟩ := I.pin p hp
      exact ⟨(hs.2 p.1 ne).trans e, n, ne, nf, d⟩
  · have hfn : X.fn x = true := by
      rcases hf with z | z
      · exact z
      · rw [z] at hk; cases hk
    obtain ⟨c, hc⟩ := I.ok.has x (.inl hk)
    obtain ⟨w', z⟩ := I.cell x c hc
    refine wpAny_storeName_cell I.ok.kind hk hc z (fun h' hc' hs => ?_)
    obtain ⟨oc, hoc, hocd⟩ := id z
    refine h { s with heap := h' } ⟨I.ok, I.os, I.bare, ⟨fun b o e n hb hx => ?_, fun b o e n hb hx => ?_, I.base.free, fun b o e hx => ?_, I.base.tups, I.base.frzs, I.base.tbls⟩, ⟨m, hn.sameBut hs (Ne.symm (cne x c hc)), fun j y v' e1 e2 e3 => ?_⟩, fun y c' e => ?_, I.free, I.freeC, fun p hp => ?_, tracked ⟨oc, hoc, I.freeC x c hc⟩ hs, by simpa using I.len⟩ ⟨c, hs, .inr hc⟩
    · exact (hs.2 b (Nat.ne_of_lt (Nat.lt_of_lt_of_le (Heap.lt_size e) (I.ok.cab x c hfn hc)))).trans (I.base.keep b o e n hb hx)
    · obtain ⟨sl, e1⟩ := I.base.slot b o e n hb hx
      exact ⟨sl, (hs.2 b (Nat.ne_of_lt (Nat.lt_of_lt_of_le (Heap.lt_size e) (I.ok.cab x c hfn hc)))).trans e1⟩
    · obtain ⟨o', e1⟩ := I.base.there b o e hx
      exact ⟨o', (hs.2 b (Nat.ne_of_lt (Nat.lt_of_lt_of_le (Heap.lt_size e) (I.ok.cab x c hfn hc)))).trans e1⟩
    · by_cases hj : j = i
      · subst hj
        rw [hi] at e1; cases e1
        rw [List.getElem?_set_self hiσ] at e2
        cases e2
        exact ⟨u, r, .inr ⟨.inl hk, c, hc, hc'⟩⟩
      · rw [List.getElem?_set_ne (Ne.symm hj)] at e2
        obtain ⟨u', r', q⟩ := hl j y v' e1 e2 e3
        refine ⟨u', r', ?_⟩
        rcases q with q | ⟨k, c', e, z'⟩
        · exact .inl q
        · refine .inr ⟨k, c', e, z'.sameBut hs ?_⟩
          rintro rfl
          exact hj (nodup_ix hN e1 (I.ok.inj _ _ _ e hc ▸ hi))
    · by_cases hcc : c' = c
      · subst hcc; exact ⟨_, hc'⟩
      · obtain ⟨w2, z2⟩ := I.cell y c' e
        exact ⟨w2, z2.sameBut hs hcc⟩
    · obtain ⟨e, n, ne, nf, d⟩ := I.pin p hp
      refine ⟨(hs.2 p.1 ?_).trans e, n, ne, nf, d⟩
      intro q
      rw [q, hoc] at e
      have q' : oc = p.2 := Option.some.inj e
      exact d w' (by rw [← q']; exact hocd)
theorem store_ok {M : Model} {A : Around} {E : Value → Shared → Prop} {i : Nat} {x : Str} {v : V} {u : Value} {Q : Unit → Shared → Prop} (I : Inv X pins σ H s) (hN : X.N.Nodup) (hi : X.N[i]? = some x) (hx : Loc X.env.scope x) (r : RelV v u)
    (h : ∀ s', Inv X pins (σ.set i (some v)) H s' → Q () s') (hf : X.fn x = true ∨ X.env.scope.names.lookup x = some .local := by first | exact .inl rfl | exact .inr rfl | assumption) : wpAny M A (storeName X.env x u) Q E s :=
  store_ok2 I hN hi hx r (fun s' I' _ => h s' I') hf
/-- behind a call or a block, the state as it is -/
theorem Inv.call' {s' : Shared} {ch : List Addr} (I : Inv X pins σ H s) (ho : s'.os = s.os) (u : Un (frs X.stack) ch H H' s.heap s'.heap) (hok : HOk X.prog X.w H' s'.heap) (hg : AllBare s'.gens)
    (hch : ∀ b ∈ ch, (b ∈ X.ex ∨ X.s₀.heap.objs.size ≤ b) ∧ b ≠ X.env.locals ∧ (∀ x c, X.env.cells.lookup x = some c → c ≠ b) ∧ ∀ p ∈ X.pn ++ pins, p.1 ≠ b) : Inv X pins σ H' s' := by
  obtain ⟨h', g', d', t', o'⟩ := s'
  have e : o' = s.os := ho
  subst e
  exact I.call (g' := g') (t' := t') (d' := d') u hok hg hch
end

/-! ### the judgements -/
/-- an exception: its class, its own dict's address (where it has one), the abstract heap behind it -/
abbrev XK := Value → Option Addr → Hp → Prop
abbrev St := List (Option V)
abbrev VK := V → Hp → Prop
/-- an expression's reading; a test's; an argument list's -/
abbrev TE := St → Hp → VK → Prop
abbrev TT := St → Hp → (Bool → Hp → Prop) → Prop
abbrev TA := St → Hp → (List V → Hp → Prop) → Prop
/-- what is wanted behind a statement -/
structure Ends where
  nx : St → Hp → Prop
  rt : VK
  bk : St → Hp → Prop := fun _ _ => False
  ct : St → Hp → Prop := fun _ _ => False
abbrev TS := Ends → St → Hp → Prop

def EP (X : Cx) (pins : List (Addr × Obj)) (σ : St) (Q : VK) (u : Value) (s' : Shared) : Prop := ∃ v H', Inv X pins σ H' s' ∧ RelV v u ∧ Q v H'
def TP (X : Cx) (pins : List (Addr × Obj)) (σ : St) (Q : Bool → Hp → Prop) (b : Bool) (s' : Shared) : Prop := ∃ H', Inv X pins σ H' s' ∧ Q b H'
def AP (X : Cx) (pins : List (Addr × Obj)) (σ : St) (Q : List V → Hp → Prop) (us : List Value) (s' : Shared) : Prop := ∃ vs H', Inv X pins σ H' s' ∧ Vals vs us ∧ Q vs H'
def SP (X : Cx) (pins : List (Addr × Obj)) (D : Ends) (f : Flow) (s' : Shared) : Prop :=
  match f with
  | .next => ∃ σ' H', Inv X pins σ' H' s' ∧ D.nx σ' H'
  | .brk => ∃ σ' H', Inv X pins σ' H' s' ∧ D.bk σ' H'
  | .cont => ∃ σ' H', Inv X pins σ' H' s' ∧ D.ct σ' H'
  | .ret u => ∃ v σ' H', Inv X pins σ' H' s' ∧ RelV v u ∧ D.rt v H'

def PE (X : Cx) (e : Expr) (t : TE) : Prop :=
  ∀ (pins : List (Addr × Obj)) (s : Shared) (σ : St) (H : Hp) (Q : VK), Inv X pins σ H s → t σ H Q → wpAny (model X.prog X.w) X.A (eval e X.env) (EP X pins σ Q) X.xe s
def PT (X : Cx) (e : Expr) (t : TT) : Prop :=
  ∀ (pins : List (Addr × Obj)) (s : Shared) (σ : St) (H : Hp) (Q : Bool → Hp → Prop), Inv X pins σ H s → t σ H Q → wpAny (model X.prog X.w) X.A (isTrue e X.env (eval e X.env)) (TP X pins σ Q) X.xe s
/-- a test whatever its 'whole' is (and, or) -/
def PW (X : Cx) (e : Expr) (t : TT) : Prop :=
  ∀ (whole : Sem Value) (pins : List (Addr × Obj)) (s : Shared) (σ : St) (H : Hp) (Q : Bool → Hp → Prop), Inv X pins σ H s → t σ H Q → wpAny (model X.prog X.w) X.A (isTrue e X.env whole) (TP X pins σ Q) X.xe s
theorem PW.pt {X : Cx} {e : Expr} {t : TT} (h : PW X e t) : PT X e t := h _
/-- an argument list (no star), from the left -/
def PA (X : Cx) (es : List Expr) (t : TA) : Prop :=
  ∀ (pos : Pos) (pins : List (Addr × Obj)) (s : Shared) (σ : St) (H : Hp) (Q : List V → Hp → Prop), Inv X pins σ H s → t σ H Q → wpAny (model X.prog X.w) X.A (spliced (backTo pos (starEach es X.env))) (AP X pins σ Q) X.xe s
def PS (X : Cx) (st : Stmt) (t : TS) : Prop :=
  ∀ (pins : List (Addr × Obj)) (s : Shared) (σ : St) (H : Hp) (D : Ends), Inv X pins σ H s → t D σ H → wpAny (model X.prog X.w) X.A (exec st X.env) (SP X pins D) X.xe s
def PSs (X : Cx) (st : List Stmt) (t : TS) : Prop :=
  ∀ (pins : List (Addr × Obj)) (s : Shared) (σ : St) (H : Hp) (D : Ends), Inv X pins σ H s → t D σ H → wpAny (model X.prog X.w) X.A (execs st X.env) (SP X pins D) X.xe s
/-- weaken the end -/
theorem thn {α : Type} {t : Sem α} {Q Q' : α → Shared → Prop} {M : Model} {A : Around} {E : Value → Shared → Prop} {s : Shared} (h : wpAny M A t Q E s) (hQ : ∀ a s, Q a s → Q' a s) : wpAny M A t Q' E s := wpAny_mono h hQ fun _ _ x => x
end L2

namespace L2
open PySem PySem.Spec PyProof.Rows
section
variable {X : Cx}

/-- two expressions in a row -/
theorem bin {a b : Expr} {ta tb : TE} (ha : PE X a ta) (hb : PE X b tb) {pins : List (Addr × Obj)} {s : Shared} {σ : St} {H : Hp} {R : V → V → Hp → Prop} (I : Inv X pins σ H s) (h : ta σ H fun x H1 => tb σ H1 fun y H2 => R x y H2)
    {α : Type} {Q : α → Shared → Prop} {f : Value → Value → Sem α}
    (hf : ∀ v u s2 x y H2, Inv X pins σ H2 s2 → RelV x v → RelV y u → R x y H2 → wpAny (model X.prog X.w) X.A (f v u) Q X.xe s2) :
    wpAny (model X.prog X.w) X.A (eval a X.env) (fun v s₁ => wpAny (model X.prog X.w) X.A (eval b X.env) (fun u s₂ => wpAny (model X.prog X.w) X.A (f v u) Q X.xe s₂) X.xe s₁) X.xe s := by
  refine thn (ha pins s σ H _ I h) fun v s1 ⟨x, H1, I1, r1, q1⟩ => ?_
  refine thn (hb pins s1 σ H1 _ I1 q1) fun u s2 ⟨y, H2, I2, r2, q2⟩ => ?_
  exact hf v u s2 x y H2 I2 r1 r2 q2

/-! ### names and constants -/
def tVar (i : Nat) : TE := fun σ H Q => ∃ v, σ[i]? = some (some v) ∧ Q v H
def tC (v : V) : TE := fun _ H Q => Q v H
theorem pe_var {i : Nat} {x : Str} {pos : Pos} (hN : X.N[i]? = some x) (hv : Vis X.env.scope x) (hd : (x == ("__debug__" : Str)) = false := by decide) (hcd : (x == ("__classdict__" : Str)) = false := by decide) : PE X (.Name x pos) (tVar i) := by
  intro pins s σ H Q I h
  obtain ⟨v, e, h⟩ := h
  obtain ⟨m, hn, hl⟩ := I.loc
  obtain ⟨u, r, l⟩ := hl i x v hN e hv
  have fin : EP X pins σ Q u s := ⟨v, H, I, r, h⟩
  rcases l with ⟨hk, hm⟩ | ⟨hk, c, hc, hcell⟩
  · exact wpAny_Name (wpAny_loadName_local I.ok.kind hk hn hm fin) hd
  · rcases hk with hk | hk
    · exact wpAny_Name (wpAny_loadName_cell I.ok.kind hk hc hcell fin) hd
    · exact wpAny_Name (wpAny_loadName_free I.ok.kind hk hc hcell fin hcd) hd
theorem pe_int {i j pos} : PE X (.Constant (.int i) j pos) (tC (.int i)) := fun _ _ _ H _ I h => wpAny_Constant_int ⟨.int i, H, I.tok _, ⟨_, rfl⟩, h⟩
theorem pe_bl {b j pos} : PE X (.Constant (.bool b) j pos) (tC (.bl b)) := fun _ _ _ H _ I h => Constant_bool ⟨.bl b, H, I, rfl, h⟩
theorem pe_non {j pos} : PE X (.Constant .none j pos) (tC .non) := fun _ _ _ H _ I h => Constant_none ⟨.non, H, I, rfl, h⟩
theorem pe_str {x j pos} : PE X (.Constant (.str x) j pos) (tC (.str x)) := fun _ _ _ H _ I h => Calls.Constant_str ⟨.str x, H, I.tok _, ⟨_, rfl⟩, h⟩

/-- a global name of the def -/
def Gl (X : Cx) (x : Str) : Prop := X.env.kindOf x = some .globalImplicit
theorem ld_glob {E : Value → Shared → Prop} {pins : List (Addr × Obj)} {s : Shared} {σ : St} {H : Hp} {x : Str} {u : Value} {pos : Pos} {Q : Value → Shared → Prop} (I : Inv X pins σ H s) (hg : Gl X x) (hm : X.mg x = some u) (h : Q u s)
    (hd : (x == ("__debug__" : Str)) = false := by decide) : wpAny (model X.prog X.w) X.A (eval (.Name x pos) X.env) Q E s :=
  Calls.Name_function_global I.ok.kind hg (Calls.loadGlobal_global (by rw [I.ok.glob]; exact I.mod.glob.keeps I.bk) hm h) hd
theorem ld_blt {E : Value → Shared → Prop} {pins : List (Addr × Obj)} {s : Shared} {σ : St} {H : Hp} {x : Str} {u : Value} {pos : Pos} {Q : Value → Shared → Prop} (I : Inv X pins σ H s) (hg : Gl X x) (hm : X.mg x = none) (hv : bootBuiltins x = some u) (h : Q u s)
    (hn : x ≠ "__name__" := by decide) (hd : (x == ("__debug__" : Str)) = false := by decide) : wpAny (model X.prog X.w) X.A (eval (.Name x pos) X.env) Q E s := by
  obtain ⟨mb, h1, h2⟩ := I.mod.blt
  exact Calls.Name_function_global I.ok.kind hg (Calls.loadGlobal_builtin (by rw [I.ok.glob]; exact I.mod.glob.keeps I.bk) hm (by rw [I.ok.blt]; exact h1.keeps I.bk) ((h2 x hn).trans hv) h) hd
/-- a module's constant, a class, a function, as a value -/
theorem pe_glob {x : Str} {v : V} {u : Value} {pos : Pos} (hg : Gl X x) (hm : X.mg x = some u) (r : RelV v u) (hd : (x == ("__debug__" : Str)) = false := by decide) : PE X (.Name x pos) (tC v) :=
  fun _ _ _ H _ I h => ld_glob I hg hm ⟨v, H, I, r, h⟩ hd
theorem pe_bltn {x : Str} {v : V} {u : Value} {pos : Pos} (hg : Gl X x) (hm : X.mg x = none) (hv : bootBuiltins x = some u) (r : RelV v u) (hn : x ≠ "__name__" := by decide) (hd : (x == ("__debug__" : Str)) = false := by decide) : PE X (.Name x pos) (tC v) :=
  fun _ _ _ H _ I h => ld_blt I hg hm hv ⟨v, H, I, r, h⟩ hn hd

/-! ### arithmetic -/
/-- two ints -/
def t2I (ta tb : TE) (k : Int → Int → Hp → Prop) : St → Hp → Prop := fun σ H => ta σ H fun x H1 => tb σ H1 fun y H2 => ∃ i j, x = .int i ∧ y = .int j ∧ k i j H2
def tAdd (ta tb : TE) : TE := fun σ H Q => t2I ta tb (fun i j H2 => Q (.int (i + j)) H2) σ H
def tSub (ta tb : TE) : TE := fun σ H Q => t2I ta tb (fun i j H2 => Q (.int (i - j)) H2) σ H
/-- the left factor below 2^64 -/
def tMul (ta tb : TE) : TE := fun σ H Q => t2I ta tb (fun i j H2 => (-(2 ^ 64) < i ∧ i < 2 ^ 64) ∧ Q (.int (i * j)) H2) σ H
variable {a b : Expr} {ta tb : TE} {pos : Pos}
theorem pe_add (ha : PE X a ta) (hb : PE X b tb) : PE X (.BinOp a .Add b pos) (tAdd ta tb) := by
  intro pins s σ H Q I h
  refine wpAny_BinOp (bin ha hb I h fun v u s2 x y H2 I2 rx ry q => ?_)
  obtain ⟨i, j, rfl, rfl, q⟩ := q
  obtain ⟨t, rfl⟩ := rx
  obtain ⟨t', rfl⟩ := ry
  exact add_int ⟨.int _, H2, I2.tok _, ⟨_, rfl⟩, q⟩
theorem pe_sub (ha : PE X a ta) (hb : PE X b tb) : PE X (.BinOp a .Sub b pos) (tSub ta tb) := by
  intro pins s σ H Q I h
  refine wpAny_BinOp (bin ha hb I h fun v u s2 x y H2 I2 rx ry q => ?_)
  obtain ⟨i, j, rfl, rfl, q⟩ := q
  obtain ⟨t, rfl⟩ := rx
  obtain ⟨t', rfl⟩ := ry
  exact sub_int ⟨.int _, H2, I2.tok _, ⟨_, rfl⟩, q⟩
theorem pe_mul (ha : PE X a ta) (hb : PE X b tb) : PE X (.BinOp a .Mult b pos) (tMul ta tb) := by
  intro pins s σ H Q I h
  refine wpAny_BinOp (bin ha hb I h fun v u s2 x y H2 I2 rx ry q => ?_)
  obtain ⟨i, j, rfl, rfl, ⟨q1, q2⟩, q⟩ := q
  obtain ⟨t, rfl⟩ := rx
  obtain ⟨t', rfl⟩ := ry
  exact mul_int ⟨.int _, H2, I2.tok _, ⟨_, rfl⟩, q⟩ (.of_left (intBits_le_64 q1 q2))

/-! ### comparisons -/
def PC (X : Cx) (op : CmpOp) (a b : Expr) (t : TE) : Prop :=
  ∀ (pins : List (Addr × Obj)) (s : Shared) (σ : St) (H : Hp) (Q : VK), Inv X pins σ H s → t σ H Q →
    wpAny (model X.prog X.w) X.A (eval a X.env) (fun v s₁ => wpAny (model X.prog X.w) X.A (eval b X.env) (fun u s₂ => wpAny (model X.prog X.w) X.A (compareOp op v u) (EP X pins σ Q) X.xe s₂) X.xe s₁) X.xe s
theorem nobehind (b : Expr) {op : CmpOp} (h : op ≠ .In) (h2 : op ≠ .NotIn) : behindInMarks op b = false := by
  have e1 : (op == CmpOp.In) = false := by cases op <;> first | rfl | exact absurd rfl h
  have e2 : (op == CmpOp.NotIn) = false := by cases op <;> first | rfl | exact absurd rfl h2
  cases b <;> simp [behindInMarks, e1, e2]
def tCmp (p : Int → Int → Bool) (ta tb : TE) : TE := fun σ H Q => t2I ta tb (fun i j H2 => Q (.bl (p i j)) H2) σ H
abbrev tLt : TE → TE → TE := tCmp fun i j => decide (i < j)
abbrev tLe : TE → TE → TE := tCmp fun i j => decide (i ≤ j)
abbrev tGt : TE → TE → TE := tCmp fun i j => decide (j < i)
abbrev tGe : TE → TE → TE := tCmp fun i j => decide (j ≤ i)
abbrev tEqI : TE → TE → TE := tCmp fun i j => decide (i = j)
abbrev tNeI : TE → TE → TE := tCmp fun i j => !decide (i = j)
/-- a comparison of two ints, by its rule -/
theorem pc_int {op : CmpOp} {p : Int → Int → Bool} (ha : PE X a ta) (hb : PE X b tb)
    (rule : ∀ (i j : Int) (t u : Tok) (Q : Value → Shared → Prop) (s : Shared), Q (.bool (p i j)) s → wpAny (model X.prog X.w) X.A (compareOp op (.int i t) (.int j u)) Q X.xe s) : PC X op a b (tCmp p ta tb) := by
  intro pins s σ H Q I h
  refine bin ha hb I h fun v u s2 x y H2 I2 rx ry q => ?_
  obtain ⟨i, j, rfl, rfl, q⟩ := q
  obtain ⟨t, rfl⟩ := rx
  obtain ⟨t', rfl⟩ := ry
  exact rule i j t t' _ s2 ⟨.bl _, H2, I2, rfl, q⟩
theorem pc_lt (ha : PE X a ta) (hb : PE X b tb) : PC X .Lt a b (tLt ta tb) := pc_int ha hb fun _ _ _ _ _ _ h => lt_int h
theorem pc_le (ha : PE X a ta) (hb : PE X b tb) : PC X .LtE a b (tLe ta tb) := pc_int ha hb fun _ _ _ _ _ _ h => le_int h
theorem pc_gt (ha : PE X a ta) (hb : PE X b tb) : PC X .Gt a b (tGt ta tb) := pc_int ha hb fun _ _ _ _ _ _ h => gt_int h
theorem pc_ge (ha : PE X a ta) (hb : PE X b tb) : PC X .GtE a b (tGe ta tb) := pc_int ha hb fun _ _ _ _ _ _ h => ge_int h
theorem pc_eqI (ha : PE X a ta) (hb : PE X b tb) : PC X .Eq a b (tEqI ta tb) := pc_int ha hb fun _ _ _ _ _ _ h => eq_int (by rw [Bool.beq_eq_decide_eq]; exact h)
theorem pc_neI (ha : PE X a ta) (hb : PE X b tb) : PC X .NotEq a b (tNeI ta tb) := pc_int ha hb fun _ _ _ _ _ _ h => ne_int (by rw [bne, Bool.beq_eq_decide_eq]; exact h)
/-- is None -/
def tIsN (ta : TE) : TE := fun σ H Q => ta σ H fun x H1 => Q (.bl (decide (x = .non))) H1
def tNotN (ta : TE) : TE := fun σ H Q => ta σ H fun x H1 => Q (.bl (!decide (x = .non))) H1
theorem RelV.none_iff {x : V} {v : Value} (r : RelV x v) : (v == Value.none) = decide (x = .non) := by
  cases x with
  | non => cases r; rfl
  | bl _ => cases r; rfl
  | int _ => obtain ⟨t, rfl⟩ := r; rfl
  | str _ => obtain ⟨t, rfl⟩ := r; rfl
  | byt _ => obtain ⟨t, rfl⟩ := r; rfl
  | flt _ => obtain ⟨t, rfl⟩ := r; rfl
  | ref _ => cases r; rfl
  | ty _ => cases r; rfl
theorem pc_isN {j pos'} (ha : PE X a ta) : PC X .Is a (.Constant .none j pos') (tIsN ta) := by
  intro pins s σ H Q I h
  refine thn (ha pins s σ H _ I h) fun v s1 ⟨x, H1, I1, r1, q1⟩ => ?_
  exact Constant_none (is_none_gen ⟨.bl _, H1, I1, by rw [r1.none_iff]; rfl, q1⟩)
theorem pc_notN {j pos'} (ha : PE X a ta) : PC X .IsNot a (.Constant .none j pos') (tNotN ta) := by
  intro pins s σ H Q I h
  refine thn (ha pins s σ H _ I h) fun v s1 ⟨x, H1, I1, r1, q1⟩ => ?_
  exact Constant_none (isnot_none_gen ⟨.bl _, H1, I1, by rw [r1.none_iff]; rfl, q1⟩)
/-- a comparison as a value, as a test -/
def tB (t : TE) : TT := fun σ H Q => t σ H fun x H1 => ∃ c, x = .bl c ∧ Q c H1
theorem pe_cmp {op : CmpOp} {t : TE} (h : PC X op a b t) (h1 : behindInMarks op b = false := by first | exact nobehind _ (by decide) (by decide) | rfl) : PE X (.Compare a [op] [b] pos) t := fun pins s σ H Q I hw => wpAny_Compare1 (h pins s σ H Q I hw) h1
theorem pt_cmp {op : CmpOp} {t : TE} (h : PC X op a b t) (h1 : behindInMarks op b = false := by first | exact nobehind _ (by decide) (by decide) | rfl) : PT X (.Compare a [op] [b] pos) (tB t) := by
  intro pins s σ H Q I hw
  refine wpAny_isTrue_Compare1 (thn (h pins s σ H _ I hw) fun v s1 h1 => thn h1 fun u s2 h2 => thn h2 fun c s3 ⟨x, H1, I1, r1, q1⟩ => ?_) h1
  obtain ⟨d, rfl, q⟩ := q1
  cases r1
  exact wpAny_truthy_bool ⟨H1, I1, q⟩
/-- an expression whose value is a bool, as a test -/
theorem pt_val {e : Expr} {t : TE} (h : PE X e t) (he : ∀ whole, isTrue e X.env whole = (do let v ← whole; standAt e.pos; holding [v] (truthy v)) := by intro _; rfl) : PT X e (tB t) := by
  intro pins s σ H Q I hw
  refine isTrue_plain (thn (h pins s σ H _ I hw) fun v s1 ⟨x, H1, I1, r1, q1⟩ => ?_) (he _)
  obtain ⟨d, rfl, q⟩ := q1
  cases r1
  exact wpAny_truthy_bool ⟨H1, I1, q⟩

/-! ### and, or, not -/
variable {tA tB' : TT} {rest : List Expr}
def tAnd (t u : TT) : TT := fun σ H Q => t σ H fun c H1 => if c = true then u σ H1 Q else Q false H1
def tOr (t u : TT) : TT := fun σ H Q => t σ H fun c H1 => if c = true then Q true H1 else u σ H1 Q
def tNot (t : TT) : TT := fun σ H Q => t σ H fun c H1 => Q (!c) H1
theorem pw_and1 (ha : PT X a tA) : PW X (.BoolOp .And [a] pos) tA := by
  intro wh pins s σ H Q I h
  refine isTrue_and (thn (ha pins s σ H Q I h) fun c s1 e => ?_)
  cases c with
  | true => exact isTrue_and_nil e
  | false => exact e
theorem pw_or1 (ha : PT X a tA) : PW X (.BoolOp .Or [a] pos) tA := by
  intro wh pins s σ H Q I h
  refine isTrue_or (thn (ha pins s σ H Q I h) fun c s1 e => ?_)
  cases c with
  | false => exact isTrue_or_nil e
  | true => exact e
theorem pw_and (ha : PT X a tA) (hb : PW X (.BoolOp .And (b :: rest) pos) tB') : PW X (.BoolOp .And (a :: b :: rest) pos) (tAnd tA tB') := by
  intro wh pins s σ H Q I h
  refine isTrue_and (thn (ha pins s σ H _ I h) fun c s1 ⟨H1, I1, q1⟩ => ?_)
  cases c with
  | true => exact hb wh pins s1 σ H1 Q I1 q1
  | false => exact ⟨H1, I1, q1⟩
theorem pw_or (ha : PT X a tA) (hb : PW X (.BoolOp .Or (b :: rest) pos) tB') : PW X (.BoolOp .Or (a :: b :: rest) pos) (tOr tA tB') := by
  intro wh pins s σ H Q I h
  refine isTrue_or (thn (ha pins s σ H _ I h) fun c s1 ⟨H1, I1, q1⟩ => ?_)
  cases c with
  | true => exact ⟨H1, I1, q1⟩
  | false => exact hb wh pins s1 σ H1 Q I1 q1
theorem pt_not (ha : PT X a tA) : PT X (.UnaryOp .Not a pos) (tNot tA) := by
  intro pins s σ H Q I h
  exact isTrue_not (ha pins s σ H (fun c H1 => Q (!c) H1) I h)
/-- .. as values (bools) -/
def tAndV (ta tb : TE) : TE := fun σ H Q => ta σ H fun x H1 => ∃ c, x = .bl c ∧ if c = true then tb σ H1 Q else Q (.bl false) H1
def tOrV (ta tb : TE) : TE := fun σ H Q => ta σ H fun x H1 => ∃ c, x = .bl c ∧ if c = true then Q (.bl true) H1 else tb σ H1 Q
def tNotV (ta : TE) : TE := fun σ H Q => ta σ H fun x H1 => ∃ c, x = .bl c ∧ Q (.bl (!c)) H1
theorem pe_one {op} {t : TE} (h : PE X a t) : PE X (.BoolOp op [a] pos) t := fun pins s σ H Q I hw => BoolOp_one (h pins s σ H Q I hw)
theorem pe_and (ha : PE X a ta) (hb : PE X (.BoolOp .And (b :: rest) pos) tb) : PE X (.BoolOp .And (a :: b :: rest) pos) (tAndV ta tb) := by
  intro pins s σ H Q I h
  refine BoolOp_and (thn (ha pins s σ H _ I h) fun v s1 ⟨x, H1, I1, r1, q1⟩ => ?_)
  obtain ⟨c, rfl, q1⟩ := q1
  cases r1
  refine wpAny_truthy_bool ?_
  cases c with
  | true => exact hb pins s1 σ H1 Q I1 q1
  | false => exact ⟨.bl false, H1, I1, rfl, q1⟩
theorem pe_or (ha : PE X a ta) (hb : PE X (.BoolOp .Or (b :: rest) pos) tb) : PE X (.BoolOp .Or (a :: b :: rest) pos) (tOrV ta tb) := by
  intro pins s σ H Q I h
  refine BoolOp_or (thn (ha pins s σ H _ I h) fun v s1 ⟨x, H1, I1, r1, q1⟩ => ?_)
  obtain ⟨c, rfl, q1⟩ := q1
  cases r1
  refine wpAny_truthy_bool ?_
  cases c with
  | false => exact hb pins s1 σ H1 Q I1 q1
  | true => exact ⟨.bl true, H1, I1, rfl, q1⟩
theorem pe_not (ha : PE X a ta) : PE X (.UnaryOp .Not a pos) (tNotV ta) := by
  intro pins s σ H Q I h
  refine UnaryOp_ (thn (ha pins s σ H _ I h) fun v s1 ⟨x, H1, I1, r1, q1⟩ => ?_)
  obtain ⟨c, rfl, q1⟩ := q1
  cases r1
  exact not_of (wpAny_truthy_bool ⟨.bl (!c), H1, I1, rfl, q1⟩)
/-- a if t else b -/
def tIf (t : TT) (ta tb : TE) : TE := fun σ H Q => t σ H fun c H1 => if c = true then ta σ H1 Q else tb σ H1 Q
theorem pe_ifExp {c : Expr} (hc : PT X c tA) (ha : PE X a ta) (hb : PE X b tb) : PE X (.IfExp c a b pos) (tIf tA ta tb) := by
  intro pins s σ H Q I h
  refine wpAny_IfExp (thn (hc pins s σ H _ I h) fun d s1 ⟨H1, I1, q1⟩ => ?_)
  cases d with
  | true => exact ha pins s1 σ H1 Q I1 q1
  | false => exact hb pins s1 σ H1 Q I1 q1
end
end L2

namespace L2
open PySem PySem.Spec PyProof.Rows

/-! ### a list, a tuple that is read: tracked, frozen, or an object of the module -/
def SqL (K : PySem.W.Frag) (H : Hp) (a : Addr) (xs : List V) : Prop :=
  Rd H a (.lst xs) ∨
    ∃ (o : Obj) (its : Array Value) (n : Nat), K.lookup a = some o ∧ o.cls = .type "list" ∧ o.dict = none ∧ o.data = .seq its n ∧ its.size ≤ sizeLine ∧ Vals xs its.toList
def SqT (K : PySem.W.Frag) (H : Hp) (a : Addr) (xs : List V) : Prop :=
  Rd H a (.tup xs) ∨
    ∃ (o : Obj) (its : Array Value) (n : Nat), K.lookup a = some o ∧ o.cls = .type "tuple" ∧ o.data = .seq its n ∧ its.size ≤ sizeLine ∧ Vals xs its.toList
def absV : Value → Option V
  | .none => some .non
  | .bool b => some (.bl b)
  | .int i _ => some (.int i)
  | .str x _ => some (.str x)
  | .bytes b _ => some (.byt b)
  | .float b _ => some (.flt b)
  | .ref a => some (.ref a)
  | .type n => some (.ty n)
  | _ => none
theorem RelV.abs {x : V} {u : Value} (r : RelV x u) : absV u = some x := by
  cases x with
  | non => cases r; rfl
  | bl _ => cases r; rfl
  | int _ => obtain ⟨t, rfl⟩ := r; rfl
  | str _ => obtain ⟨t, rfl⟩ := r; rfl
  | byt _ => obtain ⟨t, rfl⟩ := r; rfl
  | flt _ => obtain ⟨t, rfl⟩ := r; rfl
  | ref _ => cases r; rfl
  | ty _ => cases r; rfl
theorem RelV.inj {x y : V} {u : Value} (r : RelV x u) (q : RelV y u) : x = y := Option.some.inj (r.abs.symm.trans q.abs)
theorem Vals.inj : ∀ {xs ys : List V} {us : List Value}, Vals xs us → Vals ys us → xs = ys
  | _, _, _, .nil, .nil => rfl
  | _, _, _, .cons r t, .cons r' t' => by rw [r.inj r', Vals.inj t t']
section
variable {X : Cx} {pins : List (Addr × Obj)} {σ : St} {H : Hp} {s : Shared} {a : Addr} {xs ys : List V}
theorem SqL.of {K : PySem.W.Frag} (h : H a = some (.lst xs)) : SqL K H a xs := .inl (.inl h)
theorem SqT.of {K : PySem.W.Frag} (h : H a = some (.tup xs)) : SqT K H a xs := .inl (.inl h)
theorem Inv.list (I : Inv X pins σ H s) (h : SqL X.K H a xs) : ∃ its : List Value, Vals xs its ∧ PlainL s.heap a its.toArray ∧ xs.length ≤ sizeLine := by
  rcases h with h | ⟨o, its, n, hk, hc, hd, hs, hz, r⟩
  · obtain ⟨z, its, n, r, e⟩ := h.ok I.hok
    exact ⟨its, r, ⟨_, n, e, rfl, rfl, rfl⟩, z⟩
  · refine ⟨its.toList, r, ⟨o, n, I.kIn a o hk, hc, hd, by simpa using hs⟩, ?_⟩
    have e := r.length
    simp only [Array.length_toList] at e
    omega
theorem Inv.tuple (I : Inv X pins σ H s) (h : SqT X.K H a xs) : ∃ its : List Value, Vals xs its ∧ IsTup s.heap a its.toArray ∧ xs.length ≤ sizeLine := by
  rcases h with h | ⟨o, its, n, hk, hc, hs, hz, r⟩
  · obtain ⟨z, its, r, p⟩ := h.ok I.hok
    exact ⟨its, r, p, z⟩
  · refine ⟨its.toList, r, ⟨o, I.kIn a o hk, hc, n, by simpa using hs⟩, ?_⟩
    have e := r.length
    simp only [Array.length_toList] at e
    omega
theorem Inv.list_inj (I : Inv X pins σ H s) (h : SqL X.K H a xs) (h' : SqL X.K H a ys) : xs = ys := by
  obtain ⟨its, r, ⟨o, n, e, _, _, d⟩, _⟩ := I.list h
  obtain ⟨its', r', ⟨o', n', e', _, _, d'⟩, _⟩ := I.list h'
  rw [e] at e'; cases e'
  rw [d] at d'
  injection d' with d1 _
  have : its = its' := by simpa using congrArg Array.toList d1
  subst this
  exact r.inj r'
theorem Inv.tuple_inj (I : Inv X pins σ H s) (h : SqT X.K H a xs) (h' : SqT X.K H a ys) : xs = ys := by
  obtain ⟨its, r, ⟨o, e, _, n, d⟩, _⟩ := I.tuple h
  obtain ⟨its', r', ⟨o', e', _, n', d'⟩, _⟩ := I.tuple h'
  rw [e] at e'; cases e'
  rw [d] at d'
  injection d' with d1 _
  have : its = its' := by simpa using congrArg Array.toList d1
  subst this
  exact r.inj r'
end

/-! ### another wish about exceptions -/
abbrev Cx.wish (X : Cx) (E : Value → Shared → Prop) : Cx := { X with xe := E }
/-- no exception leaves -/
abbrev Cx.nox (X : Cx) : Cx := X.wish fun _ _ => False
theorem Cx.Ok.wish {X : Cx} (ok : X.Ok) (E : Value → Shared → Prop) : (X.wish E).Ok :=
  ⟨ok.mod, ok.kind, ok.glob, ok.blt, ok.above, ok.inj, ok.has, ok.cab, ok.hd, ok.frames, ok.stk, ok.exf, ok.bs, ok.bsz, ok.noex, ok.exfs, ok.funs, ok.frf⟩
theorem Cx.Ok.unwish {X : Cx} {E : Value → Shared → Prop} (ok : (X.wish E).Ok) : X.Ok :=
  ⟨ok.mod, ok.kind, ok.glob, ok.blt, ok.above, ok.inj, ok.has, ok.cab, ok.hd, ok.frames, ok.stk, ok.exf, ok.bs, ok.bsz, ok.noex, ok.exfs, ok.funs, ok.frf⟩
section
variable {X : Cx} {pins : List (Addr × Obj)} {σ : St} {H : Hp} {s : Shared} {E : Value → Shared → Prop}
theorem Inv.wish (I : Inv X pins σ H s) (E : Value → Shared → Prop) : Inv (X.wish E) pins σ H s := ⟨I.ok.wish E, I.os, I.bare, I.base, I.loc, I.cell, I.free, I.freeC, I.pin, I.hok, I.len⟩
theorem Inv.unwish (I : Inv (X.wish E) pins σ H s) : Inv X pins σ H s := ⟨I.ok.unwish, I.os, I.bare, I.base, I.loc, I.cell, I.free, I.freeC, I.pin, I.hok, I.len⟩
theorem SP.unwish {D : Ends} {f : Flow} {s' : Shared} (h : SP (X.wish E) pins D f s') : SP X pins D f s' := by
  cases f with
  | next => obtain ⟨σ', H', I, q⟩ := h; exact ⟨σ', H', I.unwish, q⟩
  | brk => obtain ⟨σ', H', I, q⟩ := h; exact ⟨σ', H', I.unwish, q⟩
  | cont => obtain ⟨σ', H', I, q⟩ := h; exact ⟨σ', H', I.unwish, q⟩
  | ret u => obtain ⟨v, σ', H', I, r, q⟩ := h; exact ⟨v, σ', H', I.unwish, r, q⟩
theorem PE.nox {e : Expr} {t : TE} (h : PE X.nox e t) : PE X e t := fun pins s σ H Q I hw =>
  wpAny_mono (h pins s σ H Q (I.wish _) hw) (fun _ _ ⟨v, H', I', r, q⟩ => ⟨v, H', I'.unwish, r, q⟩) fun _ _ z => False.elim z
theorem PT.nox {e : Expr} {t : TT} (h : PT X.nox e t) : PT X e t := fun pins s σ H Q I hw =>
  wpAny_mono (h pins s σ H Q (I.wish _) hw) (fun _ _ ⟨H', I', q⟩ => ⟨H', I'.unwish, q⟩) fun _ _ z => False.elim z
theorem PSs.nox {st : List Stmt} {t : TS} (h : PSs X.nox st t) : PSs X st t := fun pins s σ H D I hw =>
  wpAny_mono (h pins s σ H D (I.wish _) hw) (fun _ _ q => q.unwish) fun _ _ z => False.elim z
end

/-! ### blocks and small statements -/
section
variable {X : Cx} {st : Stmt} {rest : List Stmt} {t u : TS} {e : Expr} {te : TE} {pos : Pos}
def tNext : TS := fun D σ H => D.nx σ H
def tSeq (t u : TS) : TS := fun D σ H => t { D with nx := u D } σ H
theorem pss_nil : PSs X [] tNext := fun _ _ σ H _ I h => wpAny_execs_nil ⟨σ, H, I, h⟩
theorem pss_cons (h1 : PS X st t) (h2 : PSs X rest u) : PSs X (st :: rest) (tSeq t u) := by
  intro pins s σ H D I h
  refine wpAny_execs_cons (thn (h1 pins s σ H { D with nx := u D } I h) fun f s1 q => ?_)
  cases f with
  | next =>
    obtain ⟨σ', H', I', q⟩ := q
    exact h2 pins s1 σ' H' D I' q
  | ret v => exact q
  | brk => exact q
  | cont => exact q
theorem pss_one (h1 : PS X st t) : PSs X [st] t := by
  intro pins s σ H D I h
  refine wpAny_execs_cons (thn (h1 pins s σ H D I h) fun f s1 q => ?_)
  cases f with
  | next => exact wpAny_execs_nil q
  | ret v => exact q
  | brk => exact q
  | cont => exact q
def tBreak : TS := fun D σ H => D.bk σ H
def tCont : TS := fun D σ H => D.ct σ H
theorem ps_pass : PS X (.Pass pos) tNext := fun _ _ σ H _ I h => wpAny_Pass ⟨σ, H, I, h⟩
theorem ps_break : PS X (.Break pos) tBreak := fun _ _ σ H _ I h => wpAny_Break ⟨σ, H, I, h⟩
theorem ps_continue : PS X (.Continue pos) tCont := fun _ _ σ H _ I h => wpAny_Continue ⟨σ, H, I, h⟩
/-- in a def's body nothing is shown -/
theorem Inv.quiet {pins : List (Addr × Obj)} {σ : St} {H : Hp} {s : Shared} (I : Inv X pins σ H s) : interactive X.env = false := by simp [interactive, I.ok.kind]
/-- a docstring -/
theorem ps_doc {x j pos pos'} : PS X (.Expr (.Constant (.str x) j pos) pos') tNext := fun _ s σ H _ I h => wpAny_Expr (Calls.Constant_str (show SP X _ _ .next { s with toks := s.toks + 1 } from ⟨σ, H, I.tok _, h⟩)) I.quiet
/-- an expression whose value is dropped -/
def tDrop (te : TE) : TS := fun D σ H => te σ H fun _ H1 => D.nx σ H1
theorem ps_expr (he : PE X e te) (hs : swapsWith e none pos.line X.env = pure false := by rfl) : PS X (.Expr e pos) (tDrop te) := by
  intro pins s σ H D I h
  exact wpAny_Expr_any (thn (he pins s σ H _ I h) fun v s1 ⟨x, H1, I1, r1, q1⟩ => ⟨σ, H1, I1, q1⟩) I.quiet hs
def tRet (te : TE) : TS := fun D σ H => te σ H D.rt
theorem ps_ret (he : PE X e te) : PS X (.Return (some e) pos) (tRet te) := by
  intro pins s σ H D I h
  exact wpAny_Return_some (thn (he pins s σ H _ I h) fun v s1 ⟨x, H1, I1, r1, q1⟩ => ⟨x, σ, H1, I1, r1, q1⟩)
def tRetN : TS := fun D _ H => D.rt .non H
theorem ps_retN : PS X (.Return none pos) tRetN := fun _ _ σ H _ I h => wpAny_Return_none ⟨.non, σ, H, I, rfl, h⟩
def tIfS (c : TT) (t u : TS) : TS := fun D σ H => c σ H fun b H1 => if b = true then t D σ H1 else u D σ H1
theorem ps_if {c : Expr} {a b : List Stmt} {tc : TT} (hc : PT X c tc) (ha : PSs X a t) (hb : PSs X b u) : PS X (.If c a b pos) (tIfS tc t u) := by
  intro pins s σ H D I h
  refine wpAny_If (thn (hc pins s σ H _ I h) fun d s1 ⟨H1, I1, q1⟩ => ?_)
  cases d with
  | true => exact ha pins s1 σ H1 D I1 q1
  | false => exact hb pins s1 σ H1 D I1 q1
/-- code that the proof never comes to -/
def tNever : TS := fun _ _ _ => False
theorem ps_never : PS X st tNever := fun _ _ _ _ _ _ h => h.elim
theorem pss_never {sts : List Stmt} : PSs X sts tNever := fun _ _ _ _ _ _ h => h.elim
end

/-! ### targets -/
abbrev TG := V → St → Hp → (St → Hp → Prop) → Prop
abbrev TGs := List V → St → Hp → (St → Hp → Prop) → Prop
def PG (X : Cx) (target : Expr) (t : TG) : Prop :=
  ∀ (pins : List (Addr × Obj)) (s : Shared) (σ : St) (H : Hp) (v : V) (u : Value) (Q : St → Hp → Prop), Inv X pins σ H s → RelV v u → t v σ H Q →
    wpAny (model X.prog X.w) X.A (assign target X.env u) (fun _ s' => ∃ σ' H', Inv X pins σ' H' s' ∧ Q σ' H') X.xe s
/-- several targets, one after another -/
def PGs (X : Cx) (ts : List Expr) (t : TGs) : Prop :=
  ∀ (pins : List (Addr × Obj)) (s : Shared) (σ : St) (H : Hp) (vs : List V) (us : List Value) (Q : St → Hp → Prop), Inv X pins σ H s → Vals vs us → t vs σ H Q →
    wpAny (model X.prog X.w) X.A (assignInOrder ((assignEach ts X.env).map (·.2)) us) (fun _ s' => ∃ σ' H', Inv X pins σ' H' s' ∧ Q σ' H') X.xe s
/-- o[i] = v, by values -/
abbrev TSet := V → V → V → Hp → (Hp → Prop) → Prop
def PSet (X : Cx) (t : TSet) : Prop :=
  ∀ (pins : List (Addr × Obj)) (s : Shared) (σ : St) (H : Hp) (o i v : V) (ov iv u : Value) (Q : Hp → Prop), Inv X pins σ H s → RelV o ov → RelV i iv → RelV v u → t o i v H Q →
    wpAny (model X.prog X.w) X.A (setItem ov iv u) (fun _ s' => ∃ H', Inv X pins σ H' s' ∧ Q H') X.xe s
/-- a op= b, by values -/
abbrev TIp := V → V → Hp → VK → Prop
def PIp (X : Cx) (op : Operator) (t : TIp) : Prop :=
  ∀ (pins : List (Addr × Obj)) (s : Shared) (σ : St) (H : Hp) (x y : V) (v u : Value) (Q : VK), Inv X pins σ H s → RelV x v → RelV y u → t x y H Q →
    wpAny (model X.prog X.w) X.A (inplaceOp op v u) (EP X pins σ Q) X.xe s
section
variable {X : Cx} {pos : Pos}
def gName (i : Nat) : TG := fun v σ H Q => Q (σ.set i (some v)) H
theorem pg_name {i : Nat} {x : Str} (hN : X.N.Nodup) (hi : X.N[i]? = some x) (hx : Loc X.env.scope x) (hf : X.fn x = true ∨ X.env.scope.names.lookup x = some .local := by first | exact .inl rfl | exact .inr rfl | assumption) : PG X (.Name x pos) (gName i) := by
  intro pins s σ H v u Q I r h
  exact wpAny_assign_Name (store_ok I hN hi hx r (fun s' I' => ⟨_, H, I', h⟩) hf)
def gNil : TGs := fun vs σ H Q => vs = [] ∧ Q σ H
def gCons (t : TG) (u : TGs) : TGs := fun vs σ H Q => ∃ v r, vs = v :: r ∧ t v σ H fun σ' H' => u r σ' H' Q
theorem pgs_nil : PGs X [] gNil := by
  intro pins s σ H vs us Q I r h
  obtain ⟨e, h⟩ := h
  subst e
  cases r
  exact assignInOrder_nil ⟨σ, H, I, h⟩
theorem pgs_cons {e : Expr} {es : List Expr} {t : TG} {u : TGs} (h1 : PG X e t) (h2 : PGs X es u)
    (hs : (assignEach (e :: es) X.env).map (·.2) = assign e X.env :: (assignEach es X.env).map (·.2) := by rfl) : PGs X (e :: es) (gCons t u) := by
  intro pins s σ H vs us Q I r h
  obtain ⟨v, vr, e1, h⟩ := h
  subst e1
  cases r with
  | cons r rr =>
    rw [hs]
    refine assignInOrder_cons (thn (h1 pins s σ H _ _ _ I r h) fun _ s1 ⟨σ1, H1, I1, q1⟩ => ?_)
    exact h2 pins s1 σ1 H1 _ _ Q I1 rr q1
/-- (a, b, ..) = a tuple of that length -/
def gTup (K : PySem.W.Frag) (n : Nat) (t : TGs) : TG := fun v σ H Q => ∃ a xs, v = .ref a ∧ SqT K H a xs ∧ xs.length = n ∧ t xs σ H Q
theorem pg_tup {es : List Expr} {k : Nat} {t : TGs} {n : Nat} (hc : X.calm = true) (h : PGs X es t)
    (hn : (assignEach es X.env).length = n := by rfl) (hst : (assignEach es X.env).findIdx? (·.1) = none := by rfl) : PG X (.Tuple es k pos) (gTup X.K n t) := by
  intro pins s σ H v u Q I r hw
  obtain ⟨a, xs, e1, hq, hl, hw⟩ := hw
  subst e1
  cases r
  obtain ⟨its, rv, ht, hz⟩ := I.tuple hq
  refine assign_Tuple_tuple (I.ok.hd hc) ht (by simp [hn, ← hl, rv.length]) hst fun h' hx => ?_
  have I1 : Inv X pins σ H { s with heap := h' } := I.kept (t' := s.toks) fun b o e => hx b o (Nat.ne_of_lt (Heap.lt_size e)) e
  exact h pins _ σ H xs _ Q I1 (by simpa using rv) hw
/-- o[i] = .. -/
def gSub (to ti : TE) (t : TSet) : TG := fun v σ H Q => to σ H fun o H1 => ti σ H1 fun i H2 => t o i v H2 fun H3 => Q σ H3
theorem pg_sub {o i : Expr} {to ti : TE} {t : TSet} (ho : PE X o to) (hi : PE X i ti) (hs : PSet X t)
    (ha : ∀ v, assign (.Subscript o i pos) X.env v = (do
      let ov ← holding [v] (eval o X.env)
      let iv ← holding [v, ov] (eval i X.env)
      standAt pos
      holding [v, ov, iv] (setItem ov iv v)
      release [v, ov, iv] []) := by intro _; rfl) : PG X (.Subscript o i pos) (gSub to ti t) := by
  intro pins s σ H v u Q I r h
  rw [ha]
  refine wpAny_bind (wpAny_holding (thn (ho pins s σ H _ I h) fun ov s1 ⟨x, H1, I1, r1, q1⟩ => ?_))
  refine wpAny_bind (wpAny_holding (thn (hi pins s1 σ H1 _ I1 q1) fun iv s2 ⟨y, H2, I2, r2, q2⟩ => ?_))
  refine wpAny_bind (wpAny_standAt (wpAny_bind (wpAny_holding (thn (hs pins s2 σ H2 x y v ov iv u _ I2 r1 r2 r q2) fun _ s3 ⟨H3, I3, q3⟩ => ?_))))
  exact wpAny_release ⟨σ, H3, I3, q3⟩
/-- target = value -/
def tAsg (te : TE) (g : TG) : TS := fun D σ H => te σ H fun x H1 => g x σ H1 D.nx
theorem ps_asg {tg e : Expr} {te : TE} {g : TG} (he : PE X e te) (hg : PG X tg g) (hs : swapsWithSole [tg] e pos.line X.env = pure false := by rfl) (hw : swappedStores [tg] e X.env = pure none := by rfl)
    (h1 : (assignEach [tg] X.env).map (·.2) = [assign tg X.env] := by rfl) : PS X (.Assign [tg] e pos) (tAsg te g) := by
  intro pins s σ H D I h
  refine wpAny_Assign_stores (thn (he pins s σ H _ I h) fun v s1 ⟨x, H1, I1, r1, q1⟩ => ?_) hs hw
  rw [h1]
  exact thn (hg pins s1 σ H1 x v _ I1 r1 q1) fun _ s2 q => q
/-- name = value -/
theorem ps_set {i : Nat} {x : Str} {e : Expr} {te : TE} {pos' : Pos} (hN : X.N.Nodup) (hi : X.N[i]? = some x) (hx : Loc X.env.scope x) (he : PE X e te) (hs : swapsWith e (some (.Name x pos')) pos.line X.env = pure false := by rfl) (hf : X.fn x = true ∨ X.env.scope.names.lookup x = some .local := by first | exact .inl rfl | exact .inr rfl | assumption) :
    PS X (.Assign [.Name x pos'] e pos) (tAsg te (gName i)) := by
  intro pins s σ H D I h
  refine wpAny_Assign_Name (thn (he pins s σ H _ I h) fun v s1 ⟨y, H1, I1, r1, q1⟩ => ?_) hs
  exact store_ok I1 hN hi hx r1 (fun s2 I2 => ⟨_, H1, I2, q1⟩) hf
/-- a, b = x, y with plain local names: stored from the right; the pair itself is not tracked (the opening rows as in PyProof/Rows/TupAssign.lean:23) -/
def tPar (i j : Nat) (ta : TA) : TS := fun D σ H => ta σ H fun vs H1 => ∃ v w, vs = [v, w] ∧ D.nx ((σ.set i (some v)).set j (some w)) H1
theorem ps_par {i j : Nat} {x y : Str} {a b : Expr} {ta : TA} {px py pt : Pos} {kt k2 pt2} (hc : X.calm = true) (hN : X.N.Nodup) (hi : X.N[i]? = some x) (hj : X.N[j]? = some y) (hij : i ≠ j)
    (hx : X.env.scope.names.lookup x = some .local) (hy : X.env.scope.names.lookup y = some .local) (ha : PA X [a, b] ta)
    (hw : swappedStores [.Tuple [.Name x px, .Name y py] kt pt] (.Tuple [a, b] k2 pt2) X.env = pure (some [x, y]))
    (hs : swapsWithSole [.Tuple [.Name x px, .Name y py] kt pt] (.Tuple [a, b] k2 pt2) pos.line X.env = pure false := by rfl) :
    PS X (.Assign [.Tuple [.Name x px, .Name y py] kt pt] (.Tuple [a, b] k2 pt2) pos) (tPar i j ta) := by
  intro pins s σ H D I h
  rw [exec_Assign_arm]
  refine wpAny_bind (wpAny_standAt ?_)
  rw [hs]
  refine wpAny_bind (wpAny_pure ?_)
  rw [if_neg (by decide)]
  refine wpAny_bind (Tuple_ (thn (ha _ pins s σ H _ I h) fun us s1 ⟨vs, H1, I1, r1, q1⟩ => ?_))
  obtain ⟨v, w, e1, q1⟩ := q1
  subst e1
  obtain ⟨u1, u2, rfl, rv, rw'⟩ : ∃ u1 u2, us = [u1, u2] ∧ RelV v u1 ∧ RelV w u2 := by
    cases r1 with
    | cons p q =>
      cases q with
      | cons p' q' =>
        cases q'
        exact ⟨_, _, rfl, p, p'⟩
  refine wpAny_newObj_type ?_ (by show 2 ≤ sizeLine; decide)
  have I2 : Inv X pins σ H1 { s1 with heap := s1.heap.push { cls := .type "tuple", data := .seq [u1, u2].toArray } } := I1.kept (t' := s1.toks) fun b o e => Heap.get?_push_of_some _ e
  rw [hw]
  refine wpAny_bind (wpAny_pure ?_)
  show wpAny (model X.prog X.w) X.A (do rule "assign.swapped-stores"; let items ← unpackItems (.ref s1.heap.objs.size) 2 none; assignInOrder [fun v => bindName X.env y v, fun v => bindName X.env x v] items.reverse; pure Flow.next) _ _ _
  refine wpAny_bind (wpAny_rule (wpAny_bind (unpackItems_tuple (items := #[u1, u2]) (I.ok.hd hc) (IsTup.new s1.heap _) fun h' hx' => ?_)))
  have I3 := I2.kept (h' := h') (t' := s1.toks) fun b o e => hx' b o (Nat.ne_of_lt (Heap.lt_size e)) e
  show wpAny _ _ (assignInOrder [fun v => bindName X.env y v, fun v => bindName X.env x v] [u2, u1] >>= fun _ => pure Flow.next) _ _ _
  refine wpAny_bind (assignInOrder_cons (wpAny_bindName (store_ok I3 hN hj (.inl hy) rw' (fun s2 I4 => ?_) (.inr hy))))
  refine assignInOrder_cons (wpAny_bindName (store_ok I4 hN hi (.inl hx) rv (fun s3 I5 => assignInOrder_nil (wpAny_pure ?_)) (.inr hx)))
  rw [List.set_comm _ _ (Ne.symm hij)] at I5
  exact ⟨_, H1, I5, q1⟩
/-- name op= e -/
def tAug (i : Nat) (te : TE) (ti : TIp) : TS := fun D σ H => ∃ x, σ[i]? = some (some x) ∧ te σ H fun y H1 => ti x y H1 fun z H2 => D.nx (σ.set i (some z)) H2
theorem ps_aug {i : Nat} {x : Str} {e : Expr} {te : TE} {op : Operator} {ti : TIp} {pos' : Pos} (hN : X.N.Nodup) (hi : X.N[i]? = some x) (hx : Loc X.env.scope x) (he : PE X e te) (ho : PIp X op ti) (hf : X.fn x = true ∨ X.env.scope.names.lookup x = some .local := by first | exact .inl rfl | exact .inr rfl | assumption) :
    PS X (.AugAssign (.Name x pos') op e pos) (tAug i te ti) := by
  intro pins s σ H D I h
  obtain ⟨v, e1, h⟩ := h
  obtain ⟨m, hn, hl⟩ := I.loc
  have vis : Vis X.env.scope x := by rcases hx with k | k; exact .inl k; exact .inr (.inl k)
  obtain ⟨u, r, l⟩ := hl i x v hi e1 vis
  refine wpAny_AugAssign_Name ?_
  have go : wpAny (model X.prog X.w) X.A (eval e X.env) (fun w s₂ => wpAny (model X.prog X.w) X.A (inplaceOp op u w) (fun r s₃ => wpAny (model X.prog X.w) X.A (storeName X.env x r) (fun _ => SP X pins D .next) X.xe s₃) X.xe s₂) X.xe s := by
    refine thn (he pins s σ H _ I h) fun w s1 ⟨y, H1, I1, r1, q1⟩ => ?_
    refine thn (ho pins s1 σ H1 v y u w _ I1 r r1 q1) fun z s2 ⟨zv, H2, I2, r2, q2⟩ => ?_
    exact store_ok I2 hN hi hx r2 (fun s3 I3 => ⟨_, H2, I3, q2⟩) hf
  rcases l with ⟨hk, hm⟩ | ⟨hk, c, hc, hcell⟩
  · exact wpAny_loadName_local I.ok.kind hk hn hm go
  · rcases hk with hk | hk
    · exact wpAny_loadName_cell I.ok.kind hk hc hcell go
    · rcases hx with k | k
      · have : X.env.scope.names.lookup x = some .free := hk
        rw [k] at this; cases this
      · have : X.env.scope.names.lookup x = some .free := hk
        rw [k] at this; cases this
/-- o[i] op= e -/
def tAugS (to ti te : TE) (tget : V → V → Hp → VK → Prop) (tip : TIp) (tset : TSet) : TS := fun D σ H => to σ H fun o H1 => ti σ H1 fun i H2 => tget o i H2 fun x H3 => te σ H3 fun y H4 => tip x y H4 fun z H5 => tset o i z H5 fun H6 => D.nx σ H6
/-- o[i], by values -/
def PGet (X : Cx) (t : V → V → Hp → VK → Prop) : Prop :=
  ∀ (pins : List (Addr × Obj)) (s : Shared) (σ : St) (H : Hp) (o i : V) (ov iv : Value) (Q : VK), Inv X pins σ H s → RelV o ov → RelV i iv → t o i H Q →
    wpAny (model X.prog X.w) X.A (getItem ov iv) (EP X pins σ Q) X.xe s
theorem ps_augS {o i e : Expr} {to ti te : TE} {tget : V → V → Hp → VK → Prop} {tip : TIp} {tset : TSet} {op : Operator} {tpos : Pos} (ho : PE X o to) (hi : PE X i ti) (hg : PGet X tget) (he : PE X e te) (hp : PIp X op tip) (hs : PSet X tset)
    (ha : ∀ ov iv new, augStore i ov iv new = (do holding [new, ov, iv] (setItem ov iv new); release [new, ov, iv] []; pure .next) := by intros; rfl) : PS X (.AugAssign (.Subscript o i tpos) op e pos) (tAugS to ti te tget tip tset) := by
  intro pins s σ H D I h
  refine wpAny_AugAssign_SubscriptAny (thn (ho pins s σ H _ I h) fun ov s1 ⟨x1, H1, I1, r1, q1⟩ => ?_) ha
  refine thn (hi pins s1 σ H1 _ I1 q1) fun iv s2 ⟨x2, H2, I2, r2, q2⟩ => ?_
  refine thn (hg pins s2 σ H2 x1 x2 ov iv _ I2 r1 r2 q2) fun old s3 ⟨x3, H3, I3, r3, q3⟩ => ?_
  refine thn (he pins s3 σ H3 _ I3 q3) fun v s4 ⟨x4, H4, I4, r4, q4⟩ => ?_
  refine thn (hp pins s4 σ H4 x3 x4 old v _ I4 r3 r4 q4) fun new s5 ⟨x5, H5, I5, r5, q5⟩ => ?_
  exact thn (hs pins s5 σ H5 x1 x2 x5 ov iv new _ I5 r1 r2 r5 q5) fun _ s6 ⟨H6, I6, q6⟩ => ⟨σ, H6, I6, q6⟩
/-- ints -/
def ipI (f : Int → Int → Int) : TIp := fun x y H Q => ∃ i j, x = .int i ∧ y = .int j ∧ Q (.int (f i j)) H
theorem ip_add : PIp X .Add (ipI fun i j => i + j) := by
  intro pins s σ H x y v u Q I r1 r2 h
  obtain ⟨i, j, e1, e2, q⟩ := h
  subst e1; subst e2
  obtain ⟨t, rfl⟩ := r1
  obtain ⟨t', rfl⟩ := r2
  exact iadd_int ⟨.int _, H, I.tok _, ⟨_, rfl⟩, q⟩
theorem ip_sub : PIp X .Sub (ipI fun i j => i - j) := by
  intro pins s σ H x y v u Q I r1 r2 h
  obtain ⟨i, j, e1, e2, q⟩ := h
  subst e1; subst e2
  obtain ⟨t, rfl⟩ := r1
  obtain ⟨t', rfl⟩ := r2
  exact isub_int ⟨.int _, H, I.tok _, ⟨_, rfl⟩, q⟩
end

/-! ### while -/
section
variable {X : Cx} {pos : Pos}
/-- the invariant W with its measure -/
def tWhile (c : TT) (tb : TS) : TS := fun D σ H => ∃ W : Nat → St → Hp → Prop, (∃ m, W m σ H) ∧ ∀ m σ H, W m σ H →
  c σ H fun b H1 => if b = true then ∃ N : St → Hp → Prop, (∀ σ' H', N σ' H' → ∃ m', m' < m ∧ W m' σ' H') ∧ tb { D with nx := N, ct := N, bk := D.nx } σ H1 else D.nx σ H1
theorem ps_while {c : Expr} {body : List Stmt} {tc : TT} {tb : TS} (hp : PassesOwn (model X.prog X.w) X.A X.env X.xe) (hc : PT X c tc) (hb : PSs X body tb) : PS X (.While c body [] pos) (tWhile tc tb) := by
  intro pins s σ H D I h
  obtain ⟨W, ⟨m0, w0⟩, turn⟩ := h
  refine wpAny_While (codeAny_whileLoop (fun n s' => ∃ σ' H', Inv X pins σ' H' s' ∧ W n σ' H') ?_ m0 ⟨σ, H, I, w0⟩)
  rintro n s1 ⟨σ1, H1, I1, w1⟩
  refine wpAny_passesOwn hp (thn (hc pins s1 σ1 H1 _ I1 (turn n σ1 H1 w1)) fun b s2 ⟨H2, I2, q2⟩ => ?_)
  cases b with
  | true =>
    obtain ⟨N, hN, q2⟩ := q2
    rw [if_pos rfl]
    refine wpAny_passesOwn hp (thn (hb pins s2 σ1 H2 _ I2 q2) fun f s3 q3 => ?_)
    cases f with
    | next =>
      obtain ⟨σ3, H3, I3, n3⟩ := q3
      obtain ⟨m', hm, w3⟩ := hN σ3 H3 n3
      exact ⟨m', hm, σ3, H3, I3, w3⟩
    | cont =>
      obtain ⟨σ3, H3, I3, n3⟩ := q3
      obtain ⟨m', hm, w3⟩ := hN σ3 H3 n3
      exact ⟨m', hm, σ3, H3, I3, w3⟩
    | brk => exact q3
    | ret v => exact q3
  | false =>
    rw [if_neg Bool.false_ne_true]
    exact wpAny_execs_nil ⟨σ1, H2, I2, q2⟩
end

/-! ### what a loop or a comprehension walks -/
/-- at turn i: it yields x (the heap may grow), or it stops -/
structure It where
  go : Nat → Hp → Prop
  yld : Nat → Hp → V → Hp → Prop
  stop : Nat → Hp → Prop
/-- the iterator's own objects may turn: they are not the frame's, not pinned, younger than the entry (or a comprehension's own) -/
def FpOk (X : Cx) (pins : List (Addr × Obj)) (H : Hp) (b : Addr) : Prop :=
  H b = none ∧ b ≠ X.env.locals ∧ b ∉ X.fs ∧ (b ∈ X.ex ∨ X.s₀.heap.objs.size ≤ b) ∧ (∀ x c, X.env.cells.lookup x = some c → c ≠ b) ∧ ∀ p ∈ X.pn ++ pins, p.1 ≠ b
theorem Inv.fpOk {X : Cx} {pins : List (Addr × Obj)} {σ : St} {H H' : Hp} {s : Shared} {b : Addr} (I : Inv X pins σ H s) (hb : s.heap.objs.size ≤ b) (hn : H' b = none) : FpOk X pins H' b := by
  refine ⟨hn, Nat.ne_of_gt (Nat.lt_of_lt_of_le I.lt hb), I.nofs hb, .inr (Nat.le_trans I.sz hb), fun x c e z => ?_, fun p hp z => ?_⟩
  · obtain ⟨v, q⟩ := I.cell x c e
    exact absurd (Nat.lt_of_lt_of_le q.lt (by rw [z]; exact hb)) (Nat.lt_irrefl _)
  · exact absurd (Nat.lt_of_lt_of_le (Heap.lt_size (I.pin p hp).1) (by rw [z]; exact hb)) (Nat.lt_irrefl _)
structure Turn (P : Program) (w : World) (K : PySem.W.Frag) (tg : Expr) (J : It) (fp : List Addr) (it : Addr) (tn : Nat → Heap → Prop) : Prop where
  mem : it ∈ fp
  obj : ∀ i h, tn i h → ∀ b ∈ fp, ∃ o, h.get? b = some o ∧ ∀ v, o.data ≠ .cell v
  keep : ∀ i h h', tn i h → (∀ b ∈ fp, ∀ o, h.get? b = some o → h'.get? b = some o) → tn i h'
  item : ∀ (X : Cx), X.prog = P → X.w = w → X.K = K → X.calm = true → ∀ (i : Nat) (pins : List (Addr × Obj)) (s : Shared) (σ : St) (H : Hp) (E : Value → Shared → Prop), Inv X pins σ H s → (∀ b ∈ fp, FpOk X pins H b) → tn i s.heap → J.go i H →
    wpAny (model P w) X.A (pyNext (.ref it)) (fun r s1 => ∃ u, r = some u ∧
      wpAny (model P w) X.A (letOwnedTupleGo tg (.ref it) u) (fun _ s2 => ∃ x H', Inv X pins σ H' s2 ∧ RelV x u ∧ J.yld i H x H' ∧ tn (i + 1) s2.heap ∧ ∀ b ∈ fp, H' b = none) E s1) E s
  done : ∀ (X : Cx), X.prog = P → X.w = w → X.K = K → X.calm = true → ∀ (i : Nat) (pins : List (Addr × Obj)) (s : Shared) (σ : St) (H : Hp) (E : Value → Shared → Prop), Inv X pins σ H s → (∀ b ∈ fp, FpOk X pins H b) → tn i s.heap → J.stop i H →
    wpAny (model P w) X.A (pyNext (.ref it)) (fun r s1 => r = none ∧ Inv X pins σ H s1) E s
  self : ∀ (A : Around) (i : Nat) (s : Shared) (Q : Value → Shared → Prop) (E : Value → Shared → Prop), tn i s.heap → Q (.ref it) s → wpAny (model P w) A (pyIter (.ref it)) Q E s
abbrev TI := St → Hp → (It → Hp → Prop) → Prop
/-- an iterator has come -/
def PIE (X : Cx) (pins : List (Addr × Obj)) (σ : St) (tg : Expr) (R : It → Hp → Prop) (itv : Value) (s2 : Shared) : Prop :=
  ∃ (it : Addr) (fp : List Addr) (tn : Nat → Heap → Prop) (J : It) (H' : Hp), itv = .ref it ∧ Inv X pins σ H' s2 ∧ Turn X.prog X.w X.K tg J fp it tn ∧ tn 0 s2.heap ∧ (∀ b ∈ fp, FpOk X pins H' b) ∧ R J H'
def PI (X : Cx) (tg iter : Expr) (wi : TI) : Prop :=
  ∀ (pins : List (Addr × Obj)) (s : Shared) (σ : St) (H : Hp) (R : It → Hp → Prop), Inv X pins σ H s → wi σ H R →
    wpAny (model X.prog X.w) X.A (eval iter X.env) (fun v s1 => wpAny (model X.prog X.w) X.A (pyIter v) (PIE X pins σ tg R) X.xe s1) X.xe s

/-- the step ahead of the store is nothing for an iterator that keeps no tuple -/
theorem go_of {M : Model} {A : Around} {E : Value → Shared → Prop} {s : Shared} {tg : Expr} {it : Addr} {u : Value} {o : Obj} {n : String} {vs : Array Value} {Q : Unit → Shared → Prop} (ho : s.heap.get? it = some o) (hc : o.cls = .type n) (hd : o.data = .fields vs)
    (hn : ["enumerate", "zip", "dict_itemiterator", "dict_reverseitemiterator", "odict_iterator", "itertools.zip_longest", "itertools.pairwise"].contains n = false) (hQ : Q () s) : wpAny M A (letOwnedTupleGo tg (.ref it) u) Q E s := by
  unfold letOwnedTupleGo
  cases tg <;> first
    | exact wpAny_pure hQ
    | (cases u <;> first
        | exact wpAny_pure hQ
        | (refine wpAny_bind (wpAny_load ho ?_)
           rw [hc, hd]
           show wpAny M A (if (["enumerate", "zip", "dict_itemiterator", "dict_reverseitemiterator", "odict_iterator", "itertools.zip_longest", "itertools.pairwise"].contains n && vs[0]? == some (rawInt _)) = true then _ else _) Q E s
           rw [if_neg (by intro h; rw [hn, Bool.false_and] at h; cases h)]
           exact wpAny_pure hQ))

/-- the list at a, as it stands at each turn (a loop may append to it) -/
def Itl (K : PySem.W.Frag) (a : Addr) : It :=
  ⟨fun i H => ∃ xs x, SqL K H a xs ∧ xs[i]? = some x, fun i H x H' => H' = H ∧ ∀ xs, SqL K H a xs → xs[i]? = some x, fun i H => ∃ xs, SqL K H a xs ∧ xs.length ≤ i⟩
def Itt (K : PySem.W.Frag) (a : Addr) : It :=
  ⟨fun i H => ∃ xs x, SqT K H a xs ∧ xs[i]? = some x, fun i H x H' => H' = H ∧ ∀ xs, SqT K H a xs → xs[i]? = some x, fun i H => ∃ xs, SqT K H a xs ∧ xs.length ≤ i⟩
/-- lo, lo + 1, .. (n of them) -/
def Itr (lo : Int) (n : Nat) : It := ⟨fun i _ => i < n, fun i H x H' => H' = H ∧ x = .int (lo + i), fun i _ => n ≤ i⟩
theorem turn_list {P : Program} {w : World} {K : PySem.W.Frag} {tg : Expr} (a it : Addr) : Turn P w K tg (Itl K a) [it] it (fun i h => h.IsListIter it a i) where
  mem := by simp
  obj := fun i h st b hb => by
    have e : b = it := by simpa using hb
    subst e
    obtain ⟨o, e, c, d⟩ := st
    exact ⟨o, e, fun v z => by rw [d] at z; cases z⟩
  keep := fun i h h' st k => st.at fun o e => k it (by simp) o e
  item := by
    intro X hP hw hK hc i pins s σ H E I hf st hg
    subst hP hw hK
    obtain ⟨xs, x, hq, hx⟩ := hg
    obtain ⟨its, rv, p, hz⟩ := I.list hq
    obtain ⟨u, hu, ru⟩ := rv.get hx
    obtain ⟨f0, f1, f2, f3, f4, f5⟩ := hf it (by simp)
    refine wpAny_pyNext_list_item st p.isList (x := u) (by simpa using hu) fun h' st' sb => ?_
    have I1 : Inv X pins σ H { s with heap := h' } := I.turned (t' := s.toks) (fun b o hb e => (sb.2 b hb).trans e) f0 f1 f3 f4 f5
    obtain ⟨o, e, c, d⟩ := id st'
    exact ⟨u, rfl, go_of (s := { s with heap := h' }) e c d (by decide) ⟨x, H, I1, ru, ⟨rfl, fun ys hy => by rw [I.list_inj hy hq]; exact hx⟩, st', fun b hb => (hf b hb).1⟩⟩
  done := by
    intro X hP hw hK hc i pins s σ H E I hf st hg
    subst hP hw hK
    obtain ⟨xs, hq, hx⟩ := hg
    obtain ⟨its, rv, p, hz⟩ := I.list hq
    obtain ⟨f0, f1, f2, f3, f4, f5⟩ := hf it (by simp)
    have hl := rv.length
    exact wpAny_pyNext_list_end (I.ok.hd hc) st p.isList (by simp; omega) fun h' eb => ⟨rfl, I.turned (t' := s.toks) (fun b o hb e => eb b o hb e) f0 f1 f3 f4 f5⟩
  self := fun _ _ _ _ _ st h => wpAny_pyIter_listiter st h
theorem turn_tuple {P : Program} {w : World} {K : PySem.W.Frag} {tg : Expr} (a it : Addr) : Turn P w K tg (Itt K a) [it] it (fun i h => h.IsTupleIter it a i) where
  mem := by simp
  obj := fun i h st b hb => by
    have e : b = it := by simpa using hb
    subst e
    obtain ⟨o, e, c, d⟩ := st
    exact ⟨o, e, fun v z => by rw [d] at z; cases z⟩
  keep := fun i h h' st k => st.at fun o e => k it (by simp) o e
  item := by
    intro X hP hw hK hc i pins s σ H E I hf st hg
    subst hP hw hK
    obtain ⟨xs, x, hq, hx⟩ := hg
    obtain ⟨its, rv, p, hz⟩ := I.tuple hq
    obtain ⟨u, hu, ru⟩ := rv.get hx
    obtain ⟨f0, f1, f2, f3, f4, f5⟩ := hf it (by simp)
    refine wpAny_pyNext_tuple_item st (show s.heap.IsTuple a its.toArray from p) (x := u) (by simpa using hu) fun h' st' sb => ?_
    have I1 : Inv X pins σ H { s with heap := h' } := I.turned (t' := s.toks) (fun b o hb e => (sb.2 b hb).trans e) f0 f1 f3 f4 f5
    obtain ⟨o, e, c, d⟩ := id st'
    exact ⟨u, rfl, go_of (s := { s with heap := h' }) e c d (by decide) ⟨x, H, I1, ru, ⟨rfl, fun ys hy => by rw [I.tuple_inj hy hq]; exact hx⟩, st', fun b hb => (hf b hb).1⟩⟩
  done := by
    intro X hP hw hK hc i pins s σ H E I hf st hg
    subst hP hw hK
    obtain ⟨xs, hq, hx⟩ := hg
    obtain ⟨its, rv, p, hz⟩ := I.tuple hq
    obtain ⟨f0, f1, f2, f3, f4, f5⟩ := hf it (by simp)
    have hl := rv.length
    exact wpAny_pyNext_tuple_end (I.ok.hd hc) st (show s.heap.IsTuple a its.toArray from p) (by simp; omega) fun h' eb => ⟨rfl, I.turned (t' := s.toks) (fun b o hb e => eb b o hb e) f0 f1 f3 f4 f5⟩
  self := fun _ _ _ _ _ st h => wpAny_pyIter_tupleiter st h
theorem turn_range {P : Program} {w : World} {K : PySem.W.Frag} {tg : Expr} (it : Addr) (lo : Int) (n : Nat) : Turn P w K tg (Itr lo n) [it] it (fun i h => IsRangeIter h it (lo + (i : Nat) * 1) ((n : Int) - (i : Nat)) 1) where
  mem := by simp
  obj := fun i h st b hb => by
    have e : b = it := by simpa using hb
    subst e
    exact ⟨_, st, fun v z => by
      have z' : Data.fields _ = Data.cell v := z
      cases z'⟩
  keep := fun i h h' st k => k it (by simp) _ st
  item := by
    intro X hP hw hK hc i pins s σ H E I hf st hg
    subst hP hw hK
    obtain ⟨f0, f1, f2, f3, f4, f5⟩ := hf it (by simp)
    have W := Walks.range (prog := X.prog) (w := X.w) (I.ok.hd hc) it lo 1 n
    refine W.item i s _ _ hg st fun v h' tk hv st' kk => ?_
    obtain ⟨t, rfl⟩ := hv
    have I1 : Inv X pins σ H { s with heap := h', toks := tk } := I.turned (fun b o hb e => kk b o (by simpa using hb) e) f0 f1 f3 f4 f5
    refine ⟨_, rfl, go_of (s := { s with heap := h', toks := tk }) (n := "range_iterator") st' rfl rfl (by decide) ⟨.int (lo + i), H, I1, ⟨t, ?_⟩, ⟨rfl, rfl⟩, st', fun b hb => (hf b hb).1⟩⟩
    rw [Int.mul_one]
  done := by
    intro X hP hw hK hc i pins s σ H E I hf st hg
    subst hP hw hK
    obtain ⟨f0, f1, f2, f3, f4, f5⟩ := hf it (by simp)
    exact wpAny_pyNext_range_end (I.ok.hd hc) st (by have : n ≤ i := hg; omega) fun h' eb => ⟨rfl, I.turned (t' := s.toks) (fun b o hb e => eb b o hb e) f0 f1 f3 f4 f5⟩
  self := fun _ _ _ _ _ st h => wpAny_pyIter_rangeiter st h
end L2

namespace L2
open PySem PySem.Spec PyProof.Rows
section
variable {X : Cx} {tg : Expr}
def iList (K : PySem.W.Frag) (tl : TE) : TI := fun σ H R => tl σ H fun x H1 => ∃ a, x = .ref a ∧ (∃ xs, SqL K H1 a xs) ∧ R (Itl K a) H1
def iTup (K : PySem.W.Frag) (tl : TE) : TI := fun σ H R => tl σ H fun x H1 => ∃ a, x = .ref a ∧ (∃ xs, SqT K H1 a xs) ∧ R (Itt K a) H1
theorem pi_list {l : Expr} {tl : TE} (hl : PE X l tl) : PI X tg l (iList X.K tl) := by
  intro pins s σ H R I h
  refine thn (hl pins s σ H _ I h) fun v s1 ⟨x, H1, I1, r1, q1⟩ => ?_
  obtain ⟨a, e, ⟨xs, hq⟩, q⟩ := q1
  subst e
  cases r1
  obtain ⟨its, rv, p, hz⟩ := I1.list hq
  refine wpAny_pyIter_list p.isList ?_
  refine ⟨s1.heap.objs.size, [s1.heap.objs.size], _, _, H1, rfl, I1.kept (t' := s1.toks) fun b o e => Heap.get?_push_of_some _ e, turn_list a _, ⟨_, Heap.get?_push_size _ rfl, rfl, rfl⟩, fun b hb => ?_, q⟩
  have e : b = s1.heap.objs.size := by simpa using hb
  subst e
  exact I1.fpOk (Nat.le_refl _) (I1.hok.fresh (Nat.le_refl _))
theorem pi_tup {l : Expr} {tl : TE} (hl : PE X l tl) : PI X tg l (iTup X.K tl) := by
  intro pins s σ H R I h
  refine thn (hl pins s σ H _ I h) fun v s1 ⟨x, H1, I1, r1, q1⟩ => ?_
  obtain ⟨a, e, ⟨xs, hq⟩, q⟩ := q1
  subst e
  cases r1
  obtain ⟨its, rv, p, hz⟩ := I1.tuple hq
  refine wpAny_pyIter_tuple (show s1.heap.IsTuple a its.toArray from p) ?_
  refine ⟨s1.heap.objs.size, [s1.heap.objs.size], _, _, H1, rfl, I1.kept (t' := s1.toks) fun b o e => Heap.get?_push_of_some _ e, turn_tuple a _, ⟨_, Heap.get?_push_size _ rfl, rfl, rfl⟩, fun b hb => ?_, q⟩
  have e : b = s1.heap.objs.size := by simpa using hb
  subst e
  exact I1.fpOk (Nat.le_refl _) (I1.hok.fresh (Nat.le_refl _))
/-- a range object just made, walked -/
theorem range_it {pins : List (Addr × Obj)} {σ : St} {H : Hp} {s : Shared} {R : It → Hp → Prop} {E : Value → Shared → Prop} {lo hi : Int} {t u v : Tok} {tk : Nat} (I : Inv X pins σ H s) (h1 : -(2 ^ 62) ≤ lo) (h2 : lo < 2 ^ 62) (h3 : -(2 ^ 62) ≤ hi) (h4 : hi < 2 ^ 62)
    (q : R (Itr lo (hi - lo).toNat) H) : wpAny (model X.prog X.w) X.A (pyIter (.ref s.heap.objs.size)) (PIE X pins σ tg R) E { s with heap := s.heap.push { cls := .type "range", data := .fields #[.int lo t, .int hi u, .int 1 v] }, toks := tk } := by
  refine wpAny_pyIter_range (IsRange.new ..) (small_one h1 h2 h3 h4) ?_
  have I1 : Inv X pins σ H { s with heap := s.heap.push { cls := .type "range", data := .fields #[.int lo t, .int hi u, .int 1 v] }, toks := tk } := I.kept fun b o e => Heap.get?_push_of_some _ e
  refine ⟨(s.heap.push { cls := .type "range", data := .fields #[.int lo t, .int hi u, .int 1 v] }).objs.size, [(s.heap.push { cls := .type "range", data := .fields #[.int lo t, .int hi u, .int 1 v] }).objs.size], _, _, H, rfl,
    I1.kept (t' := tk) fun b o e => Heap.get?_push_of_some _ e, turn_range _ lo (hi - lo).toNat, ?_, fun b hb => ?_, q⟩
  · have e1 : lo + ((0 : Nat) : Int) * 1 = lo := by simp
    have e2 : (((hi - lo).toNat : Nat) : Int) - ((0 : Nat) : Int) = Builtin.Range.rangeSize lo hi 1 := by rw [rangeSize_one]; split <;> omega
    show IsRangeIter _ _ (lo + ((0 : Nat) : Int) * 1) ((((hi - lo).toNat : Nat) : Int) - ((0 : Nat) : Int)) 1
    rw [e1, e2]
    exact Heap.get?_push_size _ rfl
  · have e : b = (s.heap.push { cls := .type "range", data := .fields #[.int lo t, .int hi u, .int 1 v] }).objs.size := by simpa using hb
    subst e
    exact I1.fpOk (Nat.le_refl _) (I1.hok.fresh (Nat.le_refl _))
def iRng1 (ta : TA) : TI := fun σ H R => ta σ H fun vs H1 => ∃ j : Int, vs = [.int j] ∧ -(2 ^ 62) ≤ j ∧ j < 2 ^ 62 ∧ R (Itr 0 j.toNat) H1
def iRng2 (ta : TA) : TI := fun σ H R => ta σ H fun vs H1 => ∃ i j : Int, vs = [.int i, .int j] ∧ (-(2 ^ 62) ≤ i ∧ i < 2 ^ 62 ∧ -(2 ^ 62) ≤ j ∧ j < 2 ^ 62) ∧ R (Itr i (j - i).toNat) H1
theorem pi_range1 {a : Expr} {ta : TA} {p pos : Pos} (hg : Gl X "range") (hm : X.mg "range" = none) (ha : PA X [a] ta) (hs : starEach [a] X.env = [(false, eval a X.env)] := by rfl) : PI X tg (.Call (.Name "range" p) [a] [] pos) (iRng1 ta) := by
  intro pins s σ H R I h
  refine Call_ (ld_blt I hg hm boot_range (PyProof.Rows.callWith_type1 (thn (ha pos pins s σ H _ I h) fun us s1 ⟨vs, H1, I1, r1, q1⟩ => ?_) hs rfl))
  obtain ⟨j, e, q1, q2, q⟩ := q1
  subst e
  cases r1 with
  | cons r rr =>
    cases rr
    obtain ⟨t, rfl⟩ := r
    exact call_range_1 (range_it I1 (by omega) (by omega) q1 q2 (by simpa using q))
theorem pi_range2 {a b : Expr} {ta : TA} {p pos : Pos} (hg : Gl X "range") (hm : X.mg "range" = none) (ha : PA X [a, b] ta) (hs : starEach [a, b] X.env = [(false, eval a X.env), (false, eval b X.env)] := by rfl) (hs2 : starEach [b] X.env = [(false, eval b X.env)] := by rfl) :
    PI X tg (.Call (.Name "range" p) [a, b] [] pos) (iRng2 ta) := by
  intro pins s σ H R I h
  refine Call_ (ld_blt I hg hm boot_range (PyProof.Rows.callWith_type1 (thn (ha pos pins s σ H _ I h) fun us s1 ⟨vs, H1, I1, r1, q1⟩ => ?_) (by rw [hs, hs2]) (by rw [hs2]; rfl)))
  obtain ⟨i, j, e, ⟨q1, q2, q3, q4⟩, q⟩ := q1
  subst e
  cases r1 with
  | cons r rr =>
    cases rr with
    | cons r' rr =>
      cases rr
      obtain ⟨t, rfl⟩ := r
      obtain ⟨t', rfl⟩ := r'
      exact call_range_2 (range_it I1 q1 q2 q3 q4 q)

/-! ### for -/
/-- W: the invariant by the turn and a measure; N: what the body is to reach -/
def tFor (wi : TI) (g : TG) (tb : TS) : TS := fun D σ H => wi σ H fun J H1 => ∃ W : Nat → Nat → St → Hp → Prop, (∃ m, W 0 m σ H1) ∧ ∀ i m σ H, W i m σ H →
  (J.stop i H ∧ D.nx σ H) ∨ (J.go i H ∧ ∃ N : St → Hp → Prop, (∀ σ' H', N σ' H' → ∃ m', m' < m ∧ W (i + 1) m' σ' H') ∧ ∀ x H', J.yld i H x H' → g x σ H' fun σ2 H2 => tb { D with nx := N, ct := N, bk := D.nx } σ2 H2)
/-- the records at fp as they stand -/
def pinsAt (fp : List Addr) (h : Heap) : List (Addr × Obj) := fp.filterMap fun b => (h.get? b).map fun o => (b, o)
theorem mem_pinsAt {fp : List Addr} {h : Heap} {b : Addr} {o : Obj} (hb : b ∈ fp) (e : h.get? b = some o) : (b, o) ∈ pinsAt fp h := List.mem_filterMap.mpr ⟨b, hb, by rw [e]; rfl⟩
theorem of_pinsAt {fp : List Addr} {h : Heap} {p : Addr × Obj} (hp : p ∈ pinsAt fp h) : p.1 ∈ fp ∧ h.get? p.1 = some p.2 := by
  obtain ⟨b, hb, e⟩ := List.mem_filterMap.mp hp
  cases q : h.get? b with
  | none => rw [q] at e; cases e
  | some o =>
    rw [q] at e
    have e' : (b, o) = p := Option.some.inj e
    subst e'
    exact ⟨hb, q⟩
theorem Inv.pinned {pins : List (Addr × Obj)} {σ : St} {H : Hp} {s : Shared} {fp : List Addr} (I : Inv X pins σ H s) (hf : ∀ b ∈ fp, FpOk X pins H b) (ho : ∀ b ∈ fp, ∃ o, s.heap.get? b = some o ∧ ∀ v, o.data ≠ .cell v) : Inv X (pins ++ pinsAt fp s.heap) σ H s :=
  I.pins_of fun p hp => (List.mem_append.mp hp).elim (fun z => I.pin p (List.mem_append_right _ z)) fun z => by
    obtain ⟨hb, e⟩ := of_pinsAt z
    obtain ⟨f0, f1, f2, _⟩ := hf p.1 hb
    obtain ⟨o, e', d⟩ := ho p.1 hb
    rw [e] at e'; cases e'
    exact ⟨e, f0, f1, f2, d⟩
theorem Inv.unpinned {pins pl : List (Addr × Obj)} {σ : St} {H : Hp} {s : Shared} (I : Inv X (pins ++ pl) σ H s) : Inv X pins σ H s := I.pins_of fun p hp => I.pin p (List.mem_append_right _ (List.mem_append_left _ hp))
theorem ps_for {iter : Expr} {body : List Stmt} {wi : TI} {g : TG} {tb : TS} {pos : Pos} (hp : PassesOwn (model X.prog X.w) X.A X.env X.xe) (hc : X.calm = true) (hi : PI X tg iter wi) (hg : PG X tg g) (hb : PSs X body tb)
    (hs : ∀ x, foldedSetIterable iter X.env x = pure x := by intro _; rfl) : PS X (.For tg iter body [] pos) (tFor wi g tb) := by
  intro pins s σ H D I h
  refine wpAny_For (thn (hi pins s σ H _ I h) fun v s1 h1 => thn h1 fun itv s2 h2 => ?_) hs
  obtain ⟨it, fp, tn, J, H2, e, I2, T, st2, f2, W, ⟨m0, w0⟩, turn⟩ := h2
  subst e
  -- what stays true of the iterator's objects through the loop
  have stat : ∀ {H' : Hp}, (∀ b ∈ fp, H' b = none) → ∀ b ∈ fp, FpOk X pins H' b := fun hn b hb => ⟨hn b hb, (f2 b hb).2⟩
  refine codeAny_forLoop_any (fun n s' => ∃ i σ' H', Inv X pins σ' H' s' ∧ tn i s'.heap ∧ (∀ b ∈ fp, H' b = none) ∧ W i n σ' H') ?_ m0 ⟨0, σ, H2, I2, st2, fun b hb => (f2 b hb).1, w0⟩
  rintro n s3 ⟨i, σ3, H3, I3, st3, fr3, w3⟩
  rcases turn i n σ3 H3 w3 with ⟨stop, qn⟩ | ⟨go, N, hN, step⟩
  · refine wpAny_passesOwn hp (thn (T.done X rfl rfl rfl hc i pins s3 σ3 H3 X.xe I3 (stat fr3) st3 stop) fun r s4 ⟨hr, I4⟩ => ?_)
    subst hr
    exact wpAny_execs_nil ⟨σ3, H3, I4, qn⟩
  · refine wpAny_passesOwn hp (thn (T.item X rfl rfl rfl hc i pins s3 σ3 H3 X.xe I3 (stat fr3) st3 go) fun r s4 ⟨u, hr, h4⟩ => ?_)
    subst hr
    refine wpAny_passesOwn hp (thn h4 fun _ s5 ⟨x, H5, I5, r5, y5, st5, fr5⟩ => ?_)
    have I5' := I5.pinned (stat fr5) (T.obj _ _ st5)
    refine wpAny_passesOwn hp (thn (hg _ s5 σ3 H5 x u _ I5' r5 (step x H5 y5)) fun _ s6 ⟨σ6, H6, I6, q6⟩ => ?_)
    refine wpAny_passesOwn hp (thn (hb _ s6 σ6 H6 _ I6 q6) fun f s7 q7 => ?_)
    have again : ∀ {σ7 : St} {H7 : Hp}, Inv X (pins ++ pinsAt fp s5.heap) σ7 H7 s7 → N σ7 H7 → ∃ m, m < n ∧ ∃ i σ' H', Inv X pins σ' H' s7 ∧ tn i s7.heap ∧ (∀ b ∈ fp, H' b = none) ∧ W i m σ' H' := fun {σ7 H7} I7 n7 => by
      obtain ⟨m', hm, w7⟩ := hN σ7 H7 n7
      refine ⟨m', hm, i + 1, σ7, H7, I7.unpinned, T.keep _ _ _ st5 fun b hb o e => (I7.pin (b, o) (List.mem_append_right _ (List.mem_append_right _ (mem_pinsAt hb e)))).1, fun b hb => ?_, w7⟩
      obtain ⟨o, e, d⟩ := T.obj _ _ st5 b hb
      exact (I7.pin (b, o) (List.mem_append_right _ (List.mem_append_right _ (mem_pinsAt hb e)))).2.1
    cases f with
    | next => obtain ⟨σ7, H7, I7, n7⟩ := q7; exact again I7 n7
    | cont => obtain ⟨σ7, H7, I7, n7⟩ := q7; exact again I7 n7
    | brk => obtain ⟨σ7, H7, I7, q7⟩ := q7; exact ⟨σ7, H7, I7.unpinned, q7⟩
    | ret v => obtain ⟨x7, σ7, H7, I7, r7, q7⟩ := q7; exact ⟨x7, σ7, H7, I7.unpinned, r7, q7⟩
end

/-! ### the forms one uses -/
/-- over a list that the body leaves as it is -/
theorem for_list {K : PySem.W.Frag} {a : Addr} {xs : List V} {g : TG} {tb : TS} {D : Ends} {σ : St} {H : Hp} (Pv : Nat → St → Hp → Prop) (h0 : Pv 0 σ H) (hl : ∀ i σ H, i ≤ xs.length → Pv i σ H → SqL K H a xs)
    (hs : ∀ i x σ H, xs[i]? = some x → Pv i σ H → g x σ H fun σ2 H2 => tb { D with nx := Pv (i + 1), ct := Pv (i + 1), bk := D.nx } σ2 H2) (hd : ∀ σ H, Pv xs.length σ H → D.nx σ H) :
    ∃ W : Nat → Nat → St → Hp → Prop, (∃ m, W 0 m σ H) ∧ ∀ i m σ H, W i m σ H →
      ((Itl K a).stop i H ∧ D.nx σ H) ∨ ((Itl K a).go i H ∧ ∃ N : St → Hp → Prop, (∀ σ' H', N σ' H' → ∃ m', m' < m ∧ W (i + 1) m' σ' H') ∧ ∀ x H', (Itl K a).yld i H x H' → g x σ H' fun σ2 H2 => tb { D with nx := N, ct := N, bk := D.nx } σ2 H2) := by
  refine ⟨fun i m σ H => m = xs.length - i ∧ i ≤ xs.length ∧ Pv i σ H, ⟨xs.length, by simp, Nat.zero_le _, h0⟩, ?_⟩
  rintro i m σ H ⟨rfl, hi, p⟩
  have q := hl i σ H hi p
  by_cases hlt : i < xs.length
  · refine .inr ⟨⟨xs, xs[i], q, by simp [hlt]⟩, Pv (i + 1), fun σ' H' p' => ⟨xs.length - (i + 1), by omega, rfl, hlt, p'⟩, fun x H' y => ?_⟩
    obtain ⟨e, y⟩ := y
    subst e
    exact hs i x σ _ (y xs q) p
  · have e : i = xs.length := by omega
    subst e
    exact .inl ⟨⟨xs, q, Nat.le_refl _⟩, hd σ H p⟩
theorem for_tup {K : PySem.W.Frag} {a : Addr} {xs : List V} {g : TG} {tb : TS} {D : Ends} {σ : St} {H : Hp} (Pv : Nat → St → Hp → Prop) (h0 : Pv 0 σ H) (hl : ∀ i σ H, i ≤ xs.length → Pv i σ H → SqT K H a xs)
    (hs : ∀ i x σ H, xs[i]? = some x → Pv i σ H → g x σ H fun σ2 H2 => tb { D with nx := Pv (i + 1), ct := Pv (i + 1), bk := D.nx } σ2 H2) (hd : ∀ σ H, Pv xs.length σ H → D.nx σ H) :
    ∃ W : Nat → Nat → St → Hp → Prop, (∃ m, W 0 m σ H) ∧ ∀ i m σ H, W i m σ H →
      ((Itt K a).stop i H ∧ D.nx σ H) ∨ ((Itt K a).go i H ∧ ∃ N : St → Hp → Prop, (∀ σ' H', N σ' H' → ∃ m', m' < m ∧ W (i + 1) m' σ' H') ∧ ∀ x H', (Itt K a).yld i H x H' → g x σ H' fun σ2 H2 => tb { D with nx := N, ct := N, bk := D.nx } σ2 H2) := by
  refine ⟨fun i m σ H => m = xs.length - i ∧ i ≤ xs.length ∧ Pv i σ H, ⟨xs.length, by simp, Nat.zero_le _, h0⟩, ?_⟩
  rintro i m σ H ⟨rfl, hi, p⟩
  have q := hl i σ H hi p
  by_cases hlt : i < xs.length
  · refine .inr ⟨⟨xs, xs[i], q, by simp [hlt]⟩, Pv (i + 1), fun σ' H' p' => ⟨xs.length - (i + 1), by omega, rfl, hlt, p'⟩, fun x H' y => ?_⟩
    obtain ⟨e, y⟩ := y
    subst e
    exact hs i x σ _ (y xs q) p
  · have e : i = xs.length := by omega
    subst e
    exact .inl ⟨⟨xs, q, Nat.le_refl _⟩, hd σ H p⟩
theorem for_range {lo : Int} {n : Nat} {g : TG} {tb : TS} {D : Ends} {σ : St} {H : Hp} (Pv : Nat → St → Hp → Prop) (h0 : Pv 0 σ H)
    (hs : ∀ i σ H, i < n → Pv i σ H → g (.int (lo + i)) σ H fun σ2 H2 => tb { D with nx := Pv (i + 1), ct := Pv (i + 1), bk := D.nx } σ2 H2) (hd : ∀ σ H, Pv n σ H → D.nx σ H) :
    ∃ W : Nat → Nat → St → Hp → Prop, (∃ m, W 0 m σ H) ∧ ∀ i m σ H, W i m σ H →
      ((Itr lo n).stop i H ∧ D.nx σ H) ∨ ((Itr lo n).go i H ∧ ∃ N : St → Hp → Prop, (∀ σ' H', N σ' H' → ∃ m', m' < m ∧ W (i + 1) m' σ' H') ∧ ∀ x H', (Itr lo n).yld i H x H' → g x σ H' fun σ2 H2 => tb { D with nx := N, ct := N, bk := D.nx } σ2 H2) := by
  refine ⟨fun i m σ H => m = n - i ∧ i ≤ n ∧ Pv i σ H, ⟨n, by simp, Nat.zero_le _, h0⟩, ?_⟩
  rintro i m σ H ⟨rfl, hi, p⟩
  by_cases hlt : i < n
  · refine .inr ⟨hlt, Pv (i + 1), fun σ' H' p' => ⟨n - (i + 1), by omega, rfl, hlt, p'⟩, fun x H' y => ?_⟩
    obtain ⟨e, y⟩ := y
    subst e y
    exact hs i σ _ hlt p
  · have e : i = n := by omega
    subst e
    exact .inl ⟨Nat.le_refl _, hd σ H p⟩
/-- while, by a word and a measure of the state -/
theorem while_by {c : TT} {tb : TS} {D : Ends} {σ : St} {H : Hp} (Pv : St → Hp → Prop) (μ : St → Hp → Nat) (h0 : Pv σ H)
    (hs : ∀ σ H, Pv σ H → c σ H fun b H1 => if b = true then tb { D with nx := fun σ' H' => Pv σ' H' ∧ μ σ' H' < μ σ H, ct := fun σ' H' => Pv σ' H' ∧ μ σ' H' < μ σ H, bk := D.nx } σ H1 else D.nx σ H1)
    (mono : ∀ σ H Q Q', (∀ b H1, Q b H1 → Q' b H1) → c σ H Q → c σ H Q') : tWhile c tb D σ H := by
  refine ⟨fun m σ H => m = μ σ H ∧ Pv σ H, ⟨_, rfl, h0⟩, ?_⟩
  rintro m σ H ⟨rfl, p⟩
  refine mono σ H _ _ (fun b H1 q => ?_) (hs σ H p)
  cases b with
  | true => exact ⟨_, fun σ' H' ⟨p', l⟩ => ⟨_, l, rfl, p'⟩, q⟩
  | false => exact q
end L2

namespace L2
open PySem PySem.Spec PyProof.Rows

abbrev R2 := V → V → Hp → VK → Prop
/-- a two-place operation on values: f is binaryOp op, inplaceOp op or compareOp op -/
def OpR (X : Cx) (f : Value → Value → Sem Value) (r : R2) : Prop :=
  ∀ (pins : List (Addr × Obj)) (s : Shared) (σ : St) (H : Hp) (x y : V) (v u : Value) (Q : VK), Inv X pins σ H s → RelV x v → RelV y u → r x y H Q →
    wpAny (model X.prog X.w) X.A (f v u) (EP X pins σ Q) X.xe s
/-- a one-place operation -/
def UnR (X : Cx) (f : Value → Sem Value) (r : V → Hp → VK → Prop) : Prop :=
  ∀ (pins : List (Addr × Obj)) (s : Shared) (σ : St) (H : Hp) (x : V) (v : Value) (Q : VK), Inv X pins σ H s → RelV x v → r x H Q →
    wpAny (model X.prog X.w) X.A (f v) (EP X pins σ Q) X.xe s
/-- a call of a value that is known (a builtin, a type) with values -/
def CallR (X : Cx) (f : Value) (r : List V → Hp → VK → Prop) : Prop :=
  ∀ (pins : List (Addr × Obj)) (s : Shared) (σ : St) (H : Hp) (xs : List V) (us : List Value) (Q : VK), Inv X pins σ H s → Vals xs us → r xs H Q →
    wpAny (model X.prog X.w) X.A (call f us) (EP X pins σ Q) X.xe s
/-- a value's truth -/
def TruR (X : Cx) (r : V → Hp → (Bool → Hp → Prop) → Prop) : Prop :=
  ∀ (pins : List (Addr × Obj)) (s : Shared) (σ : St) (H : Hp) (x : V) (v : Value) (Q : Bool → Hp → Prop), Inv X pins σ H s → RelV x v → r x H Q →
    wpAny (model X.prog X.w) X.A (truthy v) (TP X pins σ Q) X.xe s

def tOp (r : R2) (ta tb : TE) : TE := fun σ H Q => ta σ H fun x H1 => tb σ H1 fun y H2 => r x y H2 Q
def tUn (r : V → Hp → VK → Prop) (ta : TE) : TE := fun σ H Q => ta σ H fun x H1 => r x H1 Q
/-- ints in, under C, and a value out -/
def rI (C : Int → Int → Prop) (g : Int → Int → V) : R2 := fun x y H Q => ∃ i j, x = .int i ∧ y = .int j ∧ C i j ∧ Q (g i j) H
def rI0 (g : Int → Int → V) : R2 := fun x y H Q => ∃ i j, x = .int i ∧ y = .int j ∧ Q (g i j) H
def rU (g : Int → V) : V → Hp → VK → Prop := fun x H Q => ∃ i, x = .int i ∧ Q (g i) H

section
variable {X : Cx} {a b c : Expr} {ta tb tc : TE} {pos : Pos}

theorem binT (ha : PE X a ta) (hb : PE X b tb) {pins : List (Addr × Obj)} {s : Shared} {σ : St} {H : Hp} {R : V → V → Hp → Prop} (I : Inv X pins σ H s)
    (h : ta σ H fun x H1 => tb σ H1 fun y H2 => R x y H2) {Q : Value → Shared → Prop} {f : Value → Value → Sem Value}
    (hf : ∀ v u s2 x y H2, Inv X pins σ H2 s2 → RelV x v → RelV y u → R x y H2 → wpAny (model X.prog X.w) X.A (f v u) Q X.xe s2) :
    wpAny (model X.prog X.w) X.A (eval a X.env) (fun v s₁ => wpAny (model X.prog X.w) X.A (eval b X.env) (fun u s₂ => wpAny (model X.prog X.w) X.A (f v u) Q X.xe s₂) X.xe s₁) X.xe s := by
  refine thn (ha pins s σ H _ I h) fun v s1 ⟨x, H1, I1, r1, q1⟩ => ?_
  refine thn (hb pins s1 σ H1 _ I1 q1) fun u s2 ⟨y, H2, I2, r2, q2⟩ => ?_
  exact hf v u s2 x y H2 I2 r1 r2 q2

theorem pe_op {op : Operator} {r : R2} (ho : OpR X (binaryOp op) r) (ha : PE X a ta) (hb : PE X b tb) : PE X (.BinOp a op b pos) (tOp r ta tb) := by
  intro pins s σ H Q I h
  exact wpAny_BinOp (binT ha hb I h fun v u s2 x y H2 I2 rx ry q => ho pins s2 σ H2 x y v u Q I2 rx ry q)
theorem pe_un {op : UnaryOp} {r : V → Hp → VK → Prop} (ho : UnR X (unaryOp op) r) (ha : PE X a ta) : PE X (.UnaryOp op a pos) (tUn r ta) := by
  intro pins s σ H Q I h
  exact UnaryOp_ (thn (ha pins s σ H _ I h) fun v s1 ⟨x, H1, I1, r1, q1⟩ => ho pins s1 σ H1 x v Q I1 r1 q1)
/-- a op= e at a name: the name's slot i -/
theorem augR {op : Operator} {r : R2} (ho : OpR X (inplaceOp op) r) {pins : List (Addr × Obj)} {s : Shared} {σ : St} {H : Hp} {x y : V} {v u : Value} {Q : VK} (I : Inv X pins σ H s)
    (rx : RelV x v) (ry : RelV y u) (q : r x y H Q) : wpAny (model X.prog X.w) X.A (inplaceOp op v u) (EP X pins σ Q) X.xe s := ho pins s σ H x y v u Q I rx ry q

/-! ### ints -/
theorem opI {f : Value → Value → Sem Value} {C : Int → Int → Prop} {g : Int → Int → Int}
    (rule : ∀ (i j : Int) (t u : Tok) (s : Shared) (Q : Value → Shared → Prop) (E : Value → Shared → Prop), C i j → Q (.int (g i j) s.toks) { s with toks := s.toks + 1 } → wpAny (model X.prog X.w) X.A (f (.int i t) (.int j u)) Q E s) :
    OpR X f (rI C fun i j => .int (g i j)) := by
  intro pins s σ H x y v u Q I rx ry h
  obtain ⟨i, j, rfl, rfl, hc, q⟩ := h
  obtain ⟨t, rfl⟩ := rx
  obtain ⟨t', rfl⟩ := ry
  exact rule i j t t' s _ _ hc ⟨.int (g i j), H, I.tok _, ⟨_, rfl⟩, q⟩
theorem opI0 {f : Value → Value → Sem Value} {g : Int → Int → Int}
    (rule : ∀ (i j : Int) (t u : Tok) (s : Shared) (Q : Value → Shared → Prop) (E : Value → Shared → Prop), Q (.int (g i j) s.toks) { s with toks := s.toks + 1 } → wpAny (model X.prog X.w) X.A (f (.int i t) (.int j u)) Q E s) :
    OpR X f (rI0 fun i j => .int (g i j)) := by
  intro pins s σ H x y v u Q I rx ry h
  obtain ⟨i, j, rfl, rfl, q⟩ := h
  obtain ⟨t, rfl⟩ := rx
  obtain ⟨t', rfl⟩ := ry
  exact rule i j t t' s _ _ ⟨.int (g i j), H, I.tok _, ⟨_, rfl⟩, q⟩
theorem opB0 {f : Value → Value → Sem Value} {g : Int → Int → Bool}
    (rule : ∀ (i j : Int) (t u : Tok) (s : Shared) (Q : Value → Shared → Prop) (E : Value → Shared → Prop), Q (.bool (g i j)) s → wpAny (model X.prog X.w) X.A (f (.int i t) (.int j u)) Q E s) :
    OpR X f (rI0 fun i j => .bl (g i j)) := by
  intro pins s σ H x y v u Q I rx ry h
  obtain ⟨i, j, rfl, rfl, q⟩ := h
  obtain ⟨t, rfl⟩ := rx
  obtain ⟨t', rfl⟩ := ry
  exact rule i j t t' s _ _ ⟨.bl (g i j), H, I, rfl, q⟩

def CDiv (i j : Int) : Prop := 0 < j ∧ j < 1073741824
def CDivN (i j : Int) : Prop := j ≠ 0 ∧ j.natAbs < 1073741824
def CPow (i j : Int) : Prop := 0 ≤ j ∧ j ≤ 1000000 ∧ i.natAbs < 2 ^ 64
def CMul (i j : Int) : Prop := (-(2 ^ 64) < i ∧ i < 2 ^ 64) ∨ (-(2 ^ 64) < j ∧ j < 2 ^ 64)
theorem CMul.ok {i j : Int} (h : CMul i j) : IntMulOk i j := by
  rcases h with ⟨h1, h2⟩ | ⟨h1, h2⟩
  · exact .of_left (intBits_le_64 h1 h2)
  · exact .of_right (intBits_le_64 h1 h2)
theorem two_pow_nn (k : Nat) : (0 : Int) ≤ 2 ^ k := by
  rw [two_pow_cast]
  exact Int.natCast_nonneg _

theorem op_add : OpR X (binaryOp .Add) (rI0 fun i j => .int (i + j)) := opI0 fun _ _ _ _ _ _ _ q => add_int q
theorem op_sub : OpR X (binaryOp .Sub) (rI0 fun i j => .int (i - j)) := opI0 fun _ _ _ _ _ _ _ q => sub_int q
theorem op_mul : OpR X (binaryOp .Mult) (rI CMul fun i j => .int (i * j)) := opI fun _ _ _ _ _ _ _ hc q => mul_int q hc.ok
/-- // by a positive divisor -/
theorem op_fdiv : OpR X (binaryOp .FloorDiv) (rI CDiv fun i j => .int (i / j)) := opI fun i j _ _ _ _ _ hc q => by
  have h1 : (0 : Int) < j := hc.1
  have h2 : j < 1073741824 := hc.2
  exact floordiv_int (by omega) (by rw [Int.fdiv_eq_ediv_of_nonneg i (by omega)]; exact q) (.inl (PyProof.noPylong_small (by omega)))
theorem op_fdivN : OpR X (binaryOp .FloorDiv) (rI CDivN fun i j => .int (i.fdiv j)) := opI fun _ _ _ _ _ _ _ hc q => floordiv_int hc.1 q (.inl (PyProof.noPylong_small hc.2))
/-- % by a positive divisor of any size -/
theorem op_mod : OpR X (binaryOp .Mod) (rI (fun _ j => 0 < j) fun i j => .int (i % j)) := opI fun i j _ _ _ _ _ hc q => by
  have h1 : (0 : Int) < j := hc
  exact mod_int' (by omega) (by rw [Int.fmod_eq_emod_of_nonneg i (by omega)]; exact q)
theorem op_modN : OpR X (binaryOp .Mod) (rI (fun _ j => j ≠ 0) fun i j => .int (i.fmod j)) := opI fun _ _ _ _ _ _ _ hc q => mod_int' hc q
theorem op_pow : OpR X (binaryOp .Pow) (rI CPow fun i j => .int (i ^ j.toNat)) := opI fun _ _ _ _ _ _ _ hc q => pow_int_small hc.1 hc.2.1 hc.2.2 q
theorem op_shl : OpR X (binaryOp .LShift) (rI CPow fun i j => .int (i * 2 ^ j.toNat)) := opI fun _ _ _ _ _ _ _ hc q => lshift_int_small hc.1 hc.2.1 hc.2.2 q
theorem op_shr : OpR X (binaryOp .RShift) (rI (fun _ j => 0 ≤ j) fun i j => .int (i / 2 ^ j.toNat)) := opI fun i j _ _ _ _ _ hc q =>
  rshift_int hc (by rw [Int.fdiv_eq_ediv_of_nonneg i (two_pow_nn _)]; exact q)
theorem op_and : OpR X (binaryOp .BitAnd) (rI0 fun i j => .int (Builtin.bitAnd i j)) := opI0 fun _ _ _ _ _ _ _ q => and_int q
theorem op_or : OpR X (binaryOp .BitOr) (rI0 fun i j => .int (Builtin.bitOr i j)) := opI0 fun _ _ _ _ _ _ _ q => or_int q
theorem op_xor : OpR X (binaryOp .BitXor) (rI0 fun i j => .int (Builtin.bitXor i j)) := opI0 fun _ _ _ _ _ _ _ q => xor_int q

theorem iop_add : OpR X (inplaceOp .Add) (rI0 fun i j => .int (i + j)) := opI0 fun _ _ _ _ _ _ _ q => iadd_int q
theorem iop_sub : OpR X (inplaceOp .Sub) (rI0 fun i j => .int (i - j)) := opI0 fun _ _ _ _ _ _ _ q => isub_int q
theorem iop_mul : OpR X (inplaceOp .Mult) (rI CMul fun i j => .int (i * j)) := opI fun _ _ _ _ _ _ _ hc q => imul_int q hc.ok
theorem iop_fdiv : OpR X (inplaceOp .FloorDiv) (rI CDiv fun i j => .int (i / j)) := opI fun i j _ _ _ _ _ hc q => by
  have h1 : (0 : Int) < j := hc.1
  have h2 : j < 1073741824 := hc.2
  exact ifloordiv_int (by omega) (by rw [Int.fdiv_eq_ediv_of_nonneg i (by omega)]; exact q) (.inl (PyProof.noPylong_small (by omega)))
theorem iop_mod : OpR X (inplaceOp .Mod) (rI (fun _ j => 0 < j) fun i j => .int (i % j)) := opI fun i j _ _ _ _ _ hc q => by
  have h1 : (0 : Int) < j := hc
  exact imod_int (by omega) (by rw [Int.fmod_eq_emod_of_nonneg i (by omega)]; exact q)
theorem iop_shl : OpR X (inplaceOp .LShift) (rI CPow fun i j => .int (i * 2 ^ j.toNat)) := opI fun _ _ _ _ _ _ _ hc q => ilshift_int_small hc.1 hc.2.1 hc.2.2 q
theorem iop_shr : OpR X (inplaceOp .RShift) (rI (fun _ j => 0 ≤ j) fun i j => .int (i / 2 ^ j.toNat)) := opI fun i j _ _ _ _ _ hc q =>
  irshift_int hc (by rw [Int.fdiv_eq_ediv_of_nonneg i (two_pow_nn _)]; exact q)
theorem iop_and : OpR X (inplaceOp .BitAnd) (rI0 fun i j => .int (Builtin.bitAnd i j)) := opI0 fun _ _ _ _ _ _ _ q => iand_int q
theorem iop_or : OpR X (inplaceOp .BitOr) (rI0 fun i j => .int (Builtin.bitOr i j)) := opI0 fun _ _ _ _ _ _ _ q => ior_int q
theorem iop_xor : OpR X (inplaceOp .BitXor) (rI0 fun i j => .int (Builtin.bitXor i j)) := opI0 fun _ _ _ _ _ _ _ q => ixor_int q

theorem unI {f : Value → Sem Value} {g : Int → Int}
    (rule : ∀ (i : Int) (t : Tok) (s : Shared) (Q : Value → Shared → Prop) (E : Value → Shared → Prop), Q (.int (g i) s.toks) { s with toks := s.toks + 1 } → wpAny (model X.prog X.w) X.A (f (.int i t)) Q E s) :
    UnR X f (rU fun i => .int (g i)) := by
  intro pins s σ H x v Q I rx h
  obtain ⟨i, rfl, q⟩ := h
  obtain ⟨t, rfl⟩ := rx
  exact rule i t s _ _ ⟨.int (g i), H, I.tok _, ⟨_, rfl⟩, q⟩
theorem un_neg : UnR X (unaryOp .USub) (rU fun i => .int (-i)) := unI fun _ _ _ _ _ q => neg_int q
theorem un_inv : UnR X (unaryOp .Invert) (rU fun i => .int (Builtin.bitNot i)) := unI fun _ _ _ _ _ q => invert_int q

/-! ### bools among ints: n += (a < b) -/
theorem op_add_ib : OpR X (binaryOp .Add) (fun x y H Q => ∃ i k, x = .int i ∧ y = .bl k ∧ Q (.int (i + b2i k)) H) := by
  intro pins s σ H x y v u Q I rx ry h
  obtain ⟨i, k, rfl, rfl, q⟩ := h
  obtain ⟨t, rfl⟩ := rx
  cases ry
  exact add_int_bool ⟨.int (i + b2i k), H, I.tok _, ⟨_, rfl⟩, q⟩
end

/-! ### comparisons -/
/-- the scalars that == tells apart as data does -/
def scal : V → V → Bool
  | .non, .non => true | .non, .int _ => true | .int _, .non => true | .non, .bl _ => true | .bl _, .non => true | .non, .str _ => true | .str _, .non => true
  | .int _, .int _ => true | .bl _, .bl _ => true | .str _, .str _ => true | .byt _, .byt _ => true
  | .int _, .str _ => true | .str _, .int _ => true | .bl _, .str _ => true | .str _, .bl _ => true
  | _, _ => false
def rEq : R2 := fun x y H Q => scal x y = true ∧ Q (.bl (decide (x = y))) H
def rNe : R2 := fun x y H Q => scal x y = true ∧ Q (.bl (!decide (x = y))) H

theorem dec_int {i j : Int} : decide (V.int i = V.int j) = (i == j) := by
  rw [Bool.eq_iff_iff]
  simp
theorem dec_bl {i j : Bool} : decide (V.bl i = V.bl j) = (i == j) := by
  rw [Bool.eq_iff_iff]
  simp
theorem dec_str {i j : Str} : decide (V.str i = V.str j) = (i == j) := by
  rw [Bool.eq_iff_iff]
  simp
theorem dec_byt {i j : Array UInt8} : decide (V.byt i = V.byt j) = (i.toList == j.toList) := by
  rw [Bool.eq_iff_iff]
  cases i
  cases j
  simp

section
variable {X : Cx} {a b c : Expr} {ta tb tc : TE} {pos : Pos}
theorem fin_bl {pins : List (Addr × Obj)} {σ : St} {H : Hp} {s : Shared} {Q : VK} {k k' : Bool} (I : Inv X pins σ H s) (q : Q (.bl k) H) (e : k = k') : EP X pins σ Q (.bool k') s := by
  subst e
  exact ⟨.bl k, H, I, rfl, q⟩
theorem op_eq : OpR X (compareOp .Eq) rEq := by
  intro pins s σ H x y v u Q I rx ry h
  obtain ⟨hs, q⟩ := h
  cases x with
  | non =>
    cases rx
    cases y with
    | non => cases ry; exact PySem.EqNone.eq_none_none (fin_bl I q (by simp))
    | bl j => cases ry; exact PySem.EqNone.eq_none_bool (fin_bl I q (by simp))
    | int j => obtain ⟨t', rfl⟩ := ry; exact PySem.EqNone.eq_none_int (fin_bl I q (by simp))
    | str j => obtain ⟨t', rfl⟩ := ry; exact PySem.EqNone.eq_none_str (fin_bl I q (by simp))
    | _ => exact absurd (show false = true from hs) Bool.false_ne_true
  | bl i =>
    cases rx
    cases y with
    | non => cases ry; exact PySem.EqNone.eq_bool_none (fin_bl I q (by simp))
    | bl j => cases ry; exact eq_bool (fin_bl I q dec_bl)
    | str j => obtain ⟨t', rfl⟩ := ry; exact PySem.EqMixed.eq_bool_str (fin_bl I q (by simp))
    | _ => exact absurd (show false = true from hs) Bool.false_ne_true
  | int i =>
    obtain ⟨t, rfl⟩ := rx
    cases y with
    | non => cases ry; exact PySem.EqNone.eq_int_none (fin_bl I q (by simp))
    | int j => obtain ⟨t', rfl⟩ := ry; exact eq_int (fin_bl I q dec_int)
    | str j => obtain ⟨t', rfl⟩ := ry; exact PySem.EqMixed.eq_int_str (fin_bl I q (by simp))
    | _ => exact absurd (show false = true from hs) Bool.false_ne_true
  | str i =>
    obtain ⟨t, rfl⟩ := rx
    cases y with
    | non => cases ry; exact PySem.EqNone.eq_str_none (fin_bl I q (by simp))
    | bl j => cases ry; exact PySem.EqMixed.eq_str_bool (fin_bl I q (by simp))
    | int j => obtain ⟨t', rfl⟩ := ry; exact PySem.EqMixed.eq_str_int (fin_bl I q (by simp))
    | str j => obtain ⟨t', rfl⟩ := ry; exact eq_str (fin_bl I q dec_str)
    | _ => exact absurd (show false = true from hs) Bool.false_ne_true
  | byt i =>
    obtain ⟨t, rfl⟩ := rx
    cases y with
    | byt j => obtain ⟨t', rfl⟩ := ry; exact PySem.W.eq_bytes (fin_bl I q dec_byt)
    | _ => exact absurd (show false = true from hs) Bool.false_ne_true
  | _ => cases y <;> exact absurd (show false = true from hs) Bool.false_ne_true
theorem op_ne : OpR X (compareOp .NotEq) rNe := by
  intro pins s σ H x y v u Q I rx ry h
  obtain ⟨hs, q⟩ := h
  cases x with
  | non =>
    cases rx
    cases y with
    | non => cases ry; exact PySem.EqNone.ne_none_none (fin_bl I q (by simp))
    | bl j => cases ry; exact PySem.EqNone.ne_none_bool (fin_bl I q (by simp))
    | int j => obtain ⟨t', rfl⟩ := ry; exact PySem.EqNone.ne_none_int (fin_bl I q (by simp))
    | str j => obtain ⟨t', rfl⟩ := ry; exact PySem.EqNone.ne_none_str (fin_bl I q (by simp))
    | _ => exact absurd (show false = true from hs) Bool.false_ne_true
  | bl i =>
    cases rx
    cases y with
    | non => cases ry; exact PySem.EqNone.ne_bool_none (fin_bl I q (by simp))
    | bl j => cases ry; exact ne_bool (fin_bl I q (congrArg not dec_bl))
    | str j => obtain ⟨t', rfl⟩ := ry; exact PySem.EqMixed.ne_bool_str (fin_bl I q (by simp))
    | _ => exact absurd (show false = true from hs) Bool.false_ne_true
  | int i =>
    obtain ⟨t, rfl⟩ := rx
    cases y with
    | non => cases ry; exact PySem.EqNone.ne_int_none (fin_bl I q (by simp))
    | int j => obtain ⟨t', rfl⟩ := ry; exact ne_int (fin_bl I q (congrArg not dec_int))
    | str j => obtain ⟨t', rfl⟩ := ry; exact PySem.EqMixed.ne_int_str (fin_bl I q (by simp))
    | _ => exact absurd (show false = true from hs) Bool.false_ne_true
  | str i =>
    obtain ⟨t, rfl⟩ := rx
    cases y with
    | non => cases ry; exact PySem.EqNone.ne_str_none (fin_bl I q (by simp))
    | bl j => cases ry; exact PySem.EqMixed.ne_str_bool (fin_bl I q (by simp))
    | int j => obtain ⟨t', rfl⟩ := ry; exact PySem.EqMixed.ne_str_int (fin_bl I q (by simp))
    | str j => obtain ⟨t', rfl⟩ := ry; exact ne_str (fin_bl I q (congrArg not dec_str))
    | _ => exact absurd (show false = true from hs) Bool.false_ne_true
  | byt i =>
    obtain ⟨t, rfl⟩ := rx
    cases y with
    | byt j => obtain ⟨t', rfl⟩ := ry; exact PySem.W.ne_bytes (fin_bl I q (congrArg not dec_byt))
    | _ => exact absurd (show false = true from hs) Bool.false_ne_true
  | _ => cases y <;> exact absurd (show false = true from hs) Bool.false_ne_true

theorem op_lt : OpR X (compareOp .Lt) (rI0 fun i j => .bl (decide (i < j))) := opB0 fun _ _ _ _ _ _ _ q => lt_int q
theorem op_le : OpR X (compareOp .LtE) (rI0 fun i j => .bl (decide (i ≤ j))) := opB0 fun _ _ _ _ _ _ _ q => le_int q
theorem op_gt : OpR X (compareOp .Gt) (rI0 fun i j => .bl (decide (j < i))) := opB0 fun _ _ _ _ _ _ _ q => gt_int q
theorem op_ge : OpR X (compareOp .GtE) (rI0 fun i j => .bl (decide (j ≤ i))) := opB0 fun _ _ _ _ _ _ _ q => ge_int q
theorem op_lt_str : OpR X (compareOp .Lt) (fun x y H Q => ∃ i j, x = .str i ∧ y = .str j ∧ Q (.bl (decide (i.cps.toList < j.cps.toList))) H) := by
  intro pins s σ H x y v u Q I rx ry h
  obtain ⟨i, j, rfl, rfl, q⟩ := h
  obtain ⟨t, rfl⟩ := rx
  obtain ⟨t', rfl⟩ := ry
  exact lt_str (fin_bl I q rfl)
/-- the one string within the other -/
theorem op_in_str : OpR X (compareOp .In) (fun x y H Q => ∃ i j, x = .str i ∧ y = .str j ∧ Q (.bl (!(Builtin.Str.occurrences j i 0 j.length 1).isEmpty)) H) := by
  intro pins s σ H x y v u Q I rx ry h
  obtain ⟨i, j, rfl, rfl, q⟩ := h
  obtain ⟨t, rfl⟩ := rx
  obtain ⟨t', rfl⟩ := ry
  exact in_str (fin_bl I q rfl)

/-- is None, is not None: the right side a value none -/
theorem op_isN : OpR X (compareOp .Is) (fun x y H Q => y = .non ∧ Q (.bl (decide (x = .non))) H) := by
  intro pins s σ H x y v u Q I rx ry h
  obtain ⟨rfl, q⟩ := h
  cases ry
  refine is_none_gen (fin_bl I q ?_)
  cases x <;> first
    | (cases rx; rfl)
    | (obtain ⟨t, rfl⟩ := rx; rfl)
theorem op_notN : OpR X (compareOp .IsNot) (fun x y H Q => y = .non ∧ Q (.bl (!decide (x = .non))) H) := by
  intro pins s σ H x y v u Q I rx ry h
  obtain ⟨rfl, q⟩ := h
  cases ry
  refine isnot_none_gen (fin_bl I q ?_)
  cases x <;> first
    | (cases rx; rfl)
    | (obtain ⟨t, rfl⟩ := rx; rfl)

theorem op_notin_str : OpR X (compareOp .NotIn) (fun x y H Q => ∃ i j, x = .str i ∧ y = .str j ∧ Q (.bl (!(!(Builtin.Str.occurrences j i 0 j.length 1).isEmpty))) H) := by
  intro pins s σ H x y v u Q I rx ry h
  obtain ⟨i, j, rfl, rfl, q⟩ := h
  obtain ⟨t, rfl⟩ := rx
  obtain ⟨t', rfl⟩ := ry
  exact notIn_str (fin_bl I q rfl)
/-- is, is not of two objects that are tracked lists or instances -/
def isObj : HO → Bool
  | .lst _ => true
  | .ins _ _ _ => true
  | _ => false
theorem obj_there {pins : List (Addr × Obj)} {s : Shared} {σ : St} {H : Hp} {a : Addr} {o : HO} (I : Inv X pins σ H s) (h : H a = some o) (p : isObj o = true) : ∃ ob, s.heap.get? a = some ob ∧ ob.cls ≠ .type "tuple" := by
  cases o with
  | lst xs =>
    obtain ⟨_, its, n, _, e⟩ : xs.length ≤ sizeLine ∧ ∃ (its : List Value) (n : Nat), Vals xs its ∧ s.heap.get? a = some { cls := .type "list", data := .seq its.toArray n } := I.hok a _ h
    exact ⟨_, e, (by show Value.type "list" ≠ .type "tuple"; decide +kernel)⟩
  | ins C dx fs =>
    have x := I.hok a _ h
    obtain ⟨_, _, _, e, _⟩ := x
    exact ⟨_, e, (by show Value.ref C ≠ .type "tuple"; exact fun z => by cases z)⟩
  | _ => exact absurd (show false = true from p) Bool.false_ne_true
theorem op_is_ref : OpR X (compareOp .Is) (fun x y H Q => ∃ a b oa ob, x = .ref a ∧ y = .ref b ∧ H a = some oa ∧ isObj oa = true ∧ H b = some ob ∧ isObj ob = true ∧ Q (.bl (decide (a = b))) H) := by
  intro pins s σ H x y v u Q I rx ry h
  obtain ⟨a, b, oa, ob, rfl, rfl, ha, pa, hb, pb, q⟩ := h
  cases rx
  cases ry
  obtain ⟨o1, e1, n1⟩ := obj_there I ha pa
  obtain ⟨o2, e2, _⟩ := obj_there I hb pb
  by_cases z : a = b
  · subst z
    exact wpAny_is_ref_self (fin_bl I q (by simp))
  · exact wpAny_is_ref_other z e1 e2 n1 (fin_bl I q (by simp [z]))
theorem op_isnot_ref : OpR X (compareOp .IsNot) (fun x y H Q => ∃ a b oa ob, x = .ref a ∧ y = .ref b ∧ H a = some oa ∧ isObj oa = true ∧ H b = some ob ∧ isObj ob = true ∧ Q (.bl (!decide (a = b))) H) := by
  intro pins s σ H x y v u Q I rx ry h
  obtain ⟨a, b, oa, ob, rfl, rfl, ha, pa, hb, pb, q⟩ := h
  cases rx
  cases ry
  obtain ⟨o1, e1, n1⟩ := obj_there I ha pa
  obtain ⟨o2, e2, _⟩ := obj_there I hb pb
  by_cases z : a = b
  · subst z
    exact wpAny_isNot_ref_self (fin_bl I q (by simp))
  · exact wpAny_isNot_ref_other z e1 e2 n1 (fin_bl I q (by simp [z]))

/-- two rules for one operation: by cases -/
theorem OpR.or {f : Value → Value → Sem Value} {r r' : R2} (h : OpR X f r) (h' : OpR X f r') : OpR X f (fun x y H Q => r x y H Q ∨ r' x y H Q) := by
  intro pins s σ H x y v u Q I rx ry q
  rcases q with q | q
  · exact h pins s σ H x y v u Q I rx ry q
  · exact h' pins s σ H x y v u Q I rx ry q

theorem nomark (b : Expr) {op : CmpOp} (h : op ≠ .In := by decide) (h2 : op ≠ .NotIn := by decide) : behindInMarks op b = false := by
  have e1 : (op == CmpOp.In) = false := by cases op <;> first | rfl | exact absurd rfl h
  have e2 : (op == CmpOp.NotIn) = false := by cases op <;> first | rfl | exact absurd rfl h2
  cases b <;> simp [behindInMarks, e1, e2]
/-- a comparison as a value; hm: nomark b, or (for in, not in) by with_unfolding_all rfl -/
theorem pe_cmpR {op : CmpOp} {r : R2} (ho : OpR X (compareOp op) r) (ha : PE X a ta) (hb : PE X b tb) (hm : behindInMarks op b = false) : PE X (.Compare a [op] [b] pos) (tOp r ta tb) := by
  intro pins s σ H Q I h
  exact wpAny_Compare1 (binT ha hb I h fun v u s2 x y H2 I2 rx ry q => ho pins s2 σ H2 x y v u Q I2 rx ry q) hm
/-- a reading of a value as a test -/
def tTest (t : TE) : TT := fun σ H Q => t σ H fun x H' => ∃ k, x = .bl k ∧ Q k H'
theorem pt_cmpR {op : CmpOp} {r : R2} (ho : OpR X (compareOp op) r) (ha : PE X a ta) (hb : PE X b tb) (hm : behindInMarks op b = false) : PT X (.Compare a [op] [b] pos) (tTest (tOp r ta tb)) := by
  intro pins s σ H Q I h
  refine wpAny_isTrue_Compare1 (thn (ha pins s σ H _ I h) fun v s1 ⟨x, H1, I1, r1, q1⟩ => thn (hb pins s1 σ H1 _ I1 q1) fun u s2 ⟨y, H2, I2, r2, q2⟩ =>
    thn (ho pins s2 σ H2 x y v u _ I2 r1 r2 q2) fun c s3 ⟨z, H3, I3, r3, k, e, q3⟩ => ?_) hm
  subst e
  cases r3
  exact wpAny_truthy_bool ⟨H3, I3, q3⟩
/-- a op1 b op2 c -/
def tChain (r r' : R2) (ta tb tc : TE) : TE := fun σ H Q => ta σ H fun x H1 => tb σ H1 fun y H2 => r x y H2 fun z H3 => ∃ k, z = .bl k ∧
  (if k = true then tc σ H3 fun w' H4 => r' y w' H4 Q else Q (.bl false) H3)
theorem pe_chain {op op' : CmpOp} {r r' : R2} (ho : OpR X (compareOp op) r) (ho' : OpR X (compareOp op') r') (ha : PE X a ta) (hb : PE X b tb) (hc : PE X c tc)
    (hm : lastMarks [op, op'] [b, c] = false := by with_unfolding_all rfl) : PE X (.Compare a [op, op'] [b, c] pos) (tChain r r' ta tb tc) := by
  intro pins s σ H Q I h
  refine Compare_chain (thn (ha pins s σ H _ I h) fun v s1 ⟨x, H1, I1, r1, q1⟩ => chain_link (thn (hb pins s1 σ H1 _ I1 q1) fun u s2 ⟨y, H2, I2, r2, q2⟩ =>
    thn (ho pins s2 σ H2 x y v u _ I2 r1 r2 q2) fun d s3 ⟨z, H3, I3, r3, k, e, q3⟩ => ?_)) hm
  subst e
  cases r3
  refine wpAny_truthy_bool ?_
  cases k with
  | false => exact ite_ff ⟨.bl false, H3, I3, rfl, q3⟩
  | true => exact ite_tt (chain_last (thn (hc pins s3 σ H3 _ I3 q3) fun w' s4 ⟨z', H4, I4, r4, q4⟩ => ho' pins s4 σ H4 y z' u w' Q I4 r2 r4 q4))
theorem pt_chain {op op' : CmpOp} {r r' : R2} (ho : OpR X (compareOp op) r) (ho' : OpR X (compareOp op') r') (ha : PE X a ta) (hb : PE X b tb) (hc : PE X c tc)
    (hm : lastMarks [op, op'] [b, c] = false := by with_unfolding_all rfl) : PT X (.Compare a [op, op'] [b, c] pos) (tTest (tChain r r' ta tb tc)) := by
  intro pins s σ H Q I h
  refine isTrue_chain (thn (ha pins s σ H _ I h) fun v s1 ⟨x, H1, I1, r1, q1⟩ => test_link (thn (hb pins s1 σ H1 _ I1 q1) fun u s2 ⟨y, H2, I2, r2, q2⟩ =>
    thn (ho pins s2 σ H2 x y v u _ I2 r1 r2 q2) fun d s3 ⟨z, H3, I3, r3, k, e, q3⟩ => ?_)) hm
  subst e
  cases r3
  refine wpAny_truthy_bool ?_
  cases k with
  | false =>
    obtain ⟨k', e', q'⟩ := q3
    cases e'
    exact ite_ff ⟨H3, I3, q'⟩
  | true =>
    refine ite_tt (test_last (thn (hc pins s3 σ H3 _ I3 q3) fun w' s4 ⟨z', H4, I4, r4, q4⟩ => thn (ho' pins s4 σ H4 y z' u w' _ I4 r2 r4 q4) fun d' s5 ⟨z2, H5, I5, r5, k2, e2, q5⟩ => ?_))
    subst e2
    cases r5
    exact wpAny_truthy_bool ⟨H5, I5, q5⟩

/-! ### truth -/
/-- a value's truth by the abstract heap -/
def TruV (K : PySem.W.Frag) (x : V) (H : Hp) (k : Bool) : Prop :=
  match x with
  | .non => k = false
  | .bl b => k = b
  | .int i => k = (i != 0)
  | .str y => y.length ≤ sizeLine ∧ k = ((y.length : Int) != 0)
  | .byt y => y.size ≤ sizeLine ∧ k = ((y.size : Int) != 0)
  | .ref p => (∃ xs, SqL K H p xs ∧ k = !xs.isEmpty) ∨ (∃ xs, SqT K H p xs ∧ k = !xs.isEmpty) ∨ ∃ kvs, H p = some (.dK kvs) ∧ k = !kvs.isEmpty
  | _ => False
theorem isEmpty_kv {κ : Type} {kvs : List (κ × V)} {vs : List (κ × Value)} (r : KV kvs vs) : (!vs.isEmpty) = !kvs.isEmpty := by
  cases r <;> rfl
theorem isEmpty_of {xs : List V} {its : List Value} (r : Vals xs its) : (!its.toArray.isEmpty) = !xs.isEmpty := by
  cases r <;> simp
theorem line63 : (sizeLine : Nat) < 2 ^ 63 := by rw [sizeLine_eq]; decide
theorem tru_ok : TruR X (fun x H Q => ∃ k, TruV X.K x H k ∧ Q k H) := by
  intro pins s σ H x v Q I rx h
  obtain ⟨k, e, q⟩ := h
  have hl := line63
  have hs : sizeLine = 16777216 := sizeLine_eq
  cases x with
  | non =>
    cases rx
    have e' : k = false := e
    subst e'
    exact truthy_none ⟨H, I, q⟩
  | bl b =>
    cases rx
    have e' : k = b := e
    subst e'
    exact wpAny_truthy_bool ⟨H, I, q⟩
  | int i =>
    obtain ⟨t, rfl⟩ := rx
    have e' : k = (i != 0) := e
    subst e'
    exact PySem.P.truthy_int ⟨H, I, q⟩
  | str y =>
    obtain ⟨t, rfl⟩ := rx
    obtain ⟨hy, e'⟩ : y.length ≤ sizeLine ∧ k = ((y.length : Int) != 0) := e
    subst e'
    exact PySem.P.truthy_str (by omega) ⟨H, I.tok _, q⟩
  | byt y =>
    obtain ⟨t, rfl⟩ := rx
    obtain ⟨hy, e'⟩ : y.size ≤ sizeLine ∧ k = ((y.size : Int) != 0) := e
    subst e'
    exact PySem.W.truthy_bytes (by omega) ⟨H, I.tok _, q⟩
  | ref p =>
    cases rx
    have e' : (∃ xs, SqL X.K H p xs ∧ k = !xs.isEmpty) ∨ (∃ xs, SqT X.K H p xs ∧ k = !xs.isEmpty) ∨ ∃ kvs, H p = some (.dK kvs) ∧ k = !kvs.isEmpty := e
    rcases e' with ⟨xs, hx, e'⟩ | ⟨xs, hx, e'⟩ | ⟨kvs, hx, e'⟩
    · subst e'
      obtain ⟨its, r, pl, hz⟩ := I.list hx
      have hlen := r.length
      exact wpAny_truthy_list pl.isList (by simp only [List.size_toArray]; omega) ⟨H, I.tok _, by rw [isEmpty_of r]; exact q⟩
    · subst e'
      obtain ⟨its, r, pl, hz⟩ := I.tuple hx
      have hlen := r.length
      exact truthy_tuple pl (by simp only [List.size_toArray]; omega) ⟨H, I.tok _, by rw [isEmpty_of r]; exact q⟩
    · subst e'
      obtain ⟨hz, hS, vs, r, m⟩ : kvs.length ≤ sizeLine ∧ (p == sysModules) = false ∧ ∃ vs, KV kvs vs ∧ s.heap.DictOf (mixKind X.prog X.w) p vs := I.hok p _ hx
      have hlen : kvs.length = vs.length := Paired.length r
      exact wpAny_truthy_dict hS m (by omega) ⟨H, I.tok _, by rw [isEmpty_kv r]; exact q⟩
  | _ => exact (show False from e).elim
/-- any expression whose test is its value's truth (a name, a call, a subscript, a field ..: he by fun _ => rfl) -/
theorem pt_truth (ha : PE X a ta) (he : ∀ whole, isTrue a X.env whole = (do let v ← whole; standAt a.pos; holding [v] (truthy v))) :
    PT X a (fun σ H Q => ta σ H fun x H' => ∃ k, TruV X.K x H' k ∧ Q k H') := by
  intro pins s σ H Q I h
  exact isTrue_plain (thn (ha pins s σ H _ I h) fun v s1 ⟨x, H1, I1, r1, q1⟩ => tru_ok pins s1 σ H1 x v Q I1 r1 q1) (he _)

/-! ### strs and bytes -/
theorem pe_byt {x : List UInt8} {k : Nat} : PE X (.Constant (.bytes x) k pos) (fun _ H Q => Q (.byt x.toArray) H) := fun _ _ _ H _ I h => PySem.W.Constant_bytes ⟨.byt x.toArray, H, I.tok _, ⟨_, rfl⟩, h⟩
theorem op_add_str : OpR X (binaryOp .Add) (fun x y H Q => ∃ i j, x = .str i ∧ y = .str j ∧ i.length + j.length ≤ sizeLine ∧ Q (.str (i ++ j)) H) := by
  intro pins s σ H x y v u Q I rx ry h
  obtain ⟨i, j, rfl, rfl, hz, q⟩ := h
  obtain ⟨t, rfl⟩ := rx
  obtain ⟨t', rfl⟩ := ry
  exact add_str (fun t' tk => ⟨.str (i ++ j), H, I.tok _, ⟨_, rfl⟩, q⟩) hz
theorem iop_add_str : OpR X (inplaceOp .Add) (fun x y H Q => ∃ i j, x = .str i ∧ y = .str j ∧ i.length + j.length ≤ sizeLine ∧ Q (.str (i ++ j)) H) := by
  intro pins s σ H x y v u Q I rx ry h
  obtain ⟨i, j, rfl, rfl, hz, q⟩ := h
  obtain ⟨t, rfl⟩ := rx
  obtain ⟨t', rfl⟩ := ry
  exact iadd_str (fun t' tk => ⟨.str (i ++ j), H, I.tok _, ⟨_, rfl⟩, q⟩) hz
theorem op_add_byt : OpR X (binaryOp .Add) (fun x y H Q => ∃ i j, x = .byt i ∧ y = .byt j ∧ i.size + j.size ≤ 16777216 ∧ Q (.byt (i ++ j)) H) := by
  intro pins s σ H x y v u Q I rx ry h
  obtain ⟨i, j, rfl, rfl, hz, q⟩ := h
  obtain ⟨t, rfl⟩ := rx
  obtain ⟨t', rfl⟩ := ry
  exact PySem.W.KBy.add_bytes hz (fun t' tk => ⟨.byt (i ++ j), H, I.tok _, ⟨_, rfl⟩, q⟩)

def PlainIxT (b : Expr) : Prop := ∀ o i, subscripted b false o i = operate [o, i] (getItem o i)
/-- s[i], 0 ≤ i < len -/
theorem pe_item_str (ha : PE X a ta) (hb : PE X b tb) (hs : PlainIxT b) :
    PE X (.Subscript a b pos) (tOp (fun x y H Q => ∃ z i c, x = .str z ∧ y = .int i ∧ 0 ≤ i ∧ i < 2 ^ 63 ∧ i < z.length ∧ z.cps[i.toNat]? = some c ∧ Q (.str ⟨#[c]⟩) H) ta tb) := by
  intro pins s σ H Q I h
  refine Subscript_ (binT ha hb I h fun v u s2 x y H2 I2 rx ry q => ?_)
  obtain ⟨z, i, c, rfl, rfl, h0, h63, h1, hc, q⟩ := q
  obtain ⟨t, rfl⟩ := rx
  obtain ⟨t', rfl⟩ := ry
  have e : seqIndex? i z.length = some i.toNat := PySem.StrLaws.seqIndex_nonneg h0 h1
  exact tail_any (typeIs_str s2 z t) slot_str_getitem.lookup (getItem_str (c := c) (by
    have e1 : decide (i < -(2 ^ 63 : Int)) = false := decide_eq_false (by omega)
    have e2 : decide (i ≥ 2 ^ 63) = false := decide_eq_false (by omega)
    rw [e1, e2] <;> rfl) (by rw [e]; exact hc) ⟨.str ⟨#[c]⟩, H2, I2.tok _, ⟨_, rfl⟩, q⟩) (hs _ _)
/-- b[i], 0 ≤ i < len -/
theorem pe_item_byt (ha : PE X a ta) (hb : PE X b tb) (hs : PlainIxT b) :
    PE X (.Subscript a b pos) (tOp (fun x y H Q => ∃ (z : List UInt8) (i : Int), x = .byt z.toArray ∧ y = .int i ∧ z.length ≤ sizeLine ∧ 0 ≤ i ∧ i < z.length ∧ Q (.int ((z.getD i.toNat 0).toNat : Nat)) H) ta tb) := by
  intro pins s σ H Q I h
  refine Subscript_ (binT ha hb I h fun v u s2 x y H2 I2 rx ry q => ?_)
  obtain ⟨z, i, rfl, rfl, hz, h0, h1, q⟩ := q
  obtain ⟨t, rfl⟩ := rx
  obtain ⟨t', rfl⟩ := ry
  have hl : sizeLine = 16777216 := sizeLine_eq
  exact tail_any (PySem.W.typeIs_bytes s2 z.toArray t) PySem.W.FB.slot_bytes_getitem.lookup (PySem.W.getItem_bytes (by omega) h0 h1 ⟨.int ((z.getD i.toNat 0).toNat : Nat), H2, I2.tok _, ⟨_, rfl⟩, q⟩) (hs _ _)

/-! ### scalar builtins, by CallR -/
theorem vals1 {x : V} {us : List Value} (r : Vals [x] us) : ∃ u, us = [u] ∧ RelV x u := by
  cases r with
  | cons r1 r2 => cases r2; exact ⟨_, rfl, r1⟩
theorem vals2 {x y : V} {us : List Value} (r : Vals [x, y] us) : ∃ u w', us = [u, w'] ∧ RelV x u ∧ RelV y w' := by
  cases r with
  | cons r1 r2 =>
    cases r2 with
    | cons r3 r4 => cases r4; exact ⟨_, _, rfl, r1, r3⟩
theorem call_abs : CallR X (.builtin "abs") (fun xs H Q => ∃ i, xs = [.int i] ∧ Q (.int (if i < 0 then -i else i)) H) := by
  intro pins s σ H xs us Q I r h
  obtain ⟨i, rfl, q⟩ := h
  obtain ⟨u, rfl, t, rfl⟩ := vals1 r
  exact call_abs_int fun u tk => ⟨.int (if i < 0 then -i else i), H, I.tok _, ⟨_, rfl⟩, q⟩
theorem call_max2 (hc : X.calm = true) : CallR X (.builtin "max") (fun xs H Q => ∃ i j, xs = [.int i, .int j] ∧ Q (.int (if j > i then j else i)) H) := by
  intro pins s σ H xs us Q I r h
  obtain ⟨i, j, rfl, q⟩ := h
  obtain ⟨u, w', rfl, ⟨t, rfl⟩, ⟨t', rfl⟩⟩ := vals2 r
  refine max_two_ints (I.ok.hd hc) fun h' tk k => ⟨_, H, I.kept k, ?_, q⟩
  by_cases hj : j > i
  · rw [if_pos hj, if_pos hj]; exact ⟨_, rfl⟩
  · rw [if_neg hj, if_neg hj]; exact ⟨_, rfl⟩
theorem call_min2 (hc : X.calm = true) : CallR X (.builtin "min") (fun xs H Q => ∃ i j, xs = [.int i, .int j] ∧ Q (.int (if j < i then j else i)) H) := by
  intro pins s σ H xs us Q I r h
  obtain ⟨i, j, rfl, q⟩ := h
  obtain ⟨u, w', rfl, ⟨t, rfl⟩, ⟨t', rfl⟩⟩ := vals2 r
  refine min_two_ints (I.ok.hd hc) fun h' tk k => ⟨_, H, I.kept k, ?_, q⟩
  by_cases hj : j < i
  · rw [if_pos hj, if_pos hj]; exact ⟨_, rfl⟩
  · rw [if_neg hj, if_neg hj]; exact ⟨_, rfl⟩
theorem call_int1 : CallR X (.type "int") (fun xs H Q => (∃ i, xs = [.int i] ∧ Q (.int i) H) ∨ ∃ k, xs = [.bl k] ∧ Q (.int (if k then 1 else 0)) H) := by
  intro pins s σ H xs us Q I r h
  rcases h with ⟨i, rfl, q⟩ | ⟨k, rfl, q⟩
  · obtain ⟨u, rfl, t, rfl⟩ := vals1 r
    exact call_int_int ⟨.int i, H, I, ⟨_, rfl⟩, q⟩
  · obtain ⟨u, rfl, r1⟩ := vals1 r
    cases r1
    exact call_int_bool ⟨.int (if k then 1 else 0), H, I.tok _, ⟨_, rfl⟩, q⟩
theorem call_bool1 : CallR X (.type "bool") (fun xs H Q => (∃ i, xs = [.int i] ∧ Q (.bl (i != 0)) H) ∨ ∃ k, xs = [.bl k] ∧ Q (.bl k) H) := by
  intro pins s σ H xs us Q I r h
  rcases h with ⟨i, rfl, q⟩ | ⟨k, rfl, q⟩
  · obtain ⟨u, rfl, t, rfl⟩ := vals1 r
    exact call_bool_int ⟨.bl (i != 0), H, I, rfl, q⟩
  · obtain ⟨u, rfl, r1⟩ := vals1 r
    cases r1
    exact call_bool_bool ⟨.bl k, H, I, rfl, q⟩
theorem call_str_int : CallR X (.type "str") (fun xs H Q => ∃ i, xs = [.int i] ∧ i.natAbs.log2 < 1920 ∧ Q (.str (toString i)) H) := by
  intro pins s σ H xs us Q I r h
  obtain ⟨i, rfl, hz, q⟩ := h
  obtain ⟨u, rfl, t, rfl⟩ := vals1 r
  exact PySem.P.str_of_int hz ⟨.str _, H, I.tok _, ⟨_, rfl⟩, q⟩
theorem call_ord : CallR X (.builtin "ord") (fun xs H Q => ∃ x, xs = [.str x] ∧ x.length = 1 ∧ Q (.int (x.cps.getD 0 0 : Nat)) H) := by
  intro pins s σ H xs us Q I r h
  obtain ⟨x, rfl, hz, q⟩ := h
  obtain ⟨u, rfl, t, rfl⟩ := vals1 r
  exact ord_of_one hz ⟨.int _, H, I.tok _, ⟨_, rfl⟩, q⟩
theorem call_chr : CallR X (.builtin "chr") (fun xs H Q => ∃ i, xs = [.int i] ∧ 0 ≤ i ∧ i ≤ 1114111 ∧ Q (.str ⟨#[i.toNat]⟩) H) := by
  intro pins s σ H xs us Q I r h
  obtain ⟨i, rfl, h0, h1, q⟩ := h
  obtain ⟨u, rfl, t, rfl⟩ := vals1 r
  exact chr_of_range h0 h1 ⟨.str _, H, I.tok _, ⟨_, rfl⟩, q⟩
/-- len of a str, a bytes, a list, a tuple -/
def LenV (K : PySem.W.Frag) (x : V) (H : Hp) (n : Nat) : Prop :=
  match x with
  | .str y => y.length ≤ sizeLine ∧ n = y.length
  | .byt y => y.size ≤ sizeLine ∧ n = y.size
  | .ref p => (∃ xs, SqL K H p xs ∧ n = xs.length) ∨ ∃ xs, SqT K H p xs ∧ n = xs.length
  | _ => False
theorem call_len : CallR X (.builtin "len") (fun xs H Q => ∃ x n, xs = [x] ∧ LenV X.K x H n ∧ Q (.int n) H) := by
  intro pins s σ H xs us Q I r h
  obtain ⟨x, n, rfl, e, q⟩ := h
  obtain ⟨u, rfl, rx⟩ := vals1 r
  have hl := line63
  have hs : sizeLine = 16777216 := sizeLine_eq
  cases x with
  | str y =>
    obtain ⟨t, rfl⟩ := rx
    obtain ⟨hy, e'⟩ : y.length ≤ sizeLine ∧ n = y.length := e
    subst e'
    exact len_str (by omega) ⟨.int _, H, I.tok _, ⟨_, rfl⟩, q⟩
  | byt y =>
    obtain ⟨t, rfl⟩ := rx
    obtain ⟨hy, e'⟩ : y.size ≤ sizeLine ∧ n = y.size := e
    subst e'
    exact PySem.W.len_bytes (by omega) ⟨.int _, H, I.tok _, ⟨_, rfl⟩, q⟩
  | ref p =>
    cases rx
    have e' : (∃ xs, SqL X.K H p xs ∧ n = xs.length) ∨ ∃ xs, SqT X.K H p xs ∧ n = xs.length := e
    rcases e' with ⟨xs, hx, e'⟩ | ⟨xs, hx, e'⟩
    · subst e'
      obtain ⟨its, r', pl, hz⟩ := I.list hx
      have hlen := r'.length
      exact Calls.call_len_list pl.isList (by simp only [List.size_toArray]; omega) ⟨.int xs.length, H, I.tok _, ⟨_, by simp only [List.size_toArray]; rw [hlen]⟩, q⟩
    · subst e'
      obtain ⟨its, r', pl, hz⟩ := I.tuple hx
      have hlen := r'.length
      exact len_tuple pl (by simp only [List.size_toArray]; omega) ⟨.int xs.length, H, I.tok _, ⟨_, by simp only [List.size_toArray]; rw [hlen]⟩, q⟩
  | _ => exact (show False from e).elim
/-- divmod: a new tuple -/
theorem call_divmod : CallR X (.builtin "divmod") (fun xs H Q => ∃ i j, xs = [.int i, .int j] ∧ CDiv i j ∧ ∀ p, H p = none → Q (.ref p) (upd H p (.tup [.int (i / j), .int (i % j)]))) := by
  intro pins s σ H xs us Q I r h
  obtain ⟨i, j, rfl, ⟨h1, h2⟩, q⟩ := h
  obtain ⟨u, w', rfl, ⟨t, rfl⟩, ⟨t', rfl⟩⟩ := vals2 r
  refine divmod_int (by omega) ?_ (.inl (PyProof.noPylong_small (by omega)))
  rw [Int.fdiv_eq_ediv_of_nonneg i (by omega), Int.fmod_eq_emod_of_nonneg i (by omega)]
  have hn : H s.heap.objs.size = none := I.hok.fresh (Nat.le_refl _)
  refine ⟨.ref s.heap.objs.size, _, ?_, rfl, q _ hn⟩
  refine I.laid (fun b o e => Heap.get?_push_of_some _ e) (Nat.le_refl _) ⟨by simp only [List.length_cons, List.length_nil]; rw [sizeLine_eq]; decide, [.int (i / j) s.toks, .int (i % j) (s.toks + 1)], .cons ⟨_, rfl⟩ (.cons ⟨_, rfl⟩ .nil), ?_⟩
  exact ⟨_, Heap.get?_push_size s.heap rfl, rfl, 0, rfl⟩
end
end L2

namespace L2
open PySem PySem.Spec PyProof.Rows

/-! ### an instance, its attributes a map -/
structure ObjM (h : Heap) (x dx C : Addr) (mA : Str → Option Value) : Prop where
  obj : h.get? x = some (PySem.W.instObj C dx)
  ns : h.Ns1 dx mA
  ne : dx ≠ x

theorem lookIn_ns {h : Heap} {dx : Addr} {mA : Str → Option Value} (n : h.Ns1 dx mA) : ∃ od, h.get? dx = some od ∧ ∀ name, PySem.W.lookIn name od = some (mA name) := by
  obtain ⟨o, es, ep, ho, hd, hk, _, hm⟩ := n
  refine ⟨o, ho, fun name => ?_⟩
  have e := hm name
  unfold nsFind findBy at e
  rw [← Array.find?_toList] at e
  unfold PySem.W.lookIn
  rw [hd]
  dsimp only
  split
  · rename_i y q
    rw [q] at e
    exact congrArg some e
  · rename_i q
    rw [q] at e
    have a : es.toList.any (·.refKey) = false := by
      rw [List.any_eq_false]
      intro y hy
      obtain ⟨z, t, hkey⟩ := hk y (Array.mem_toList_iff.mp hy)
      simp [DictEntry.refKey, hkey]
    have a' : ¬ es.toList.any (·.refKey) = true := by rw [a]; exact Bool.false_ne_true
    rw [if_neg a']
    exact congrArg some e

theorem ObjM.look {h : Heap} {x dx C : Addr} {mA : Str → Option Value} (I : ObjM h x dx C mA) : ∃ od, PySem.W.InstAt h x (PySem.W.instObj C dx) C (some od) ∧ ∀ name, PySem.W.lookIn name od = some (mA name) :=
  let ⟨od, ho, hl⟩ := lookIn_ns I.ns
  ⟨od, ⟨I.obj, rfl, rfl, ho⟩, hl⟩

section
variable {prog : Program} {w : World} {A : Around} {E : Value → Shared → Prop} {s : Shared} {K : PySem.W.Frag} {x dx C f : Addr} {mA : Str → Option Value} {name : Str} {v : Value}

theorem get_map {expr : Bool} {Q : Value → Shared → Prop} (X : K.In s.heap) (I : ObjM s.heap x dx C mA) (hg : PySem.W.plainGet K C name = true) (hh : PySem.W.hasDictIn K C = true)
    (ha : PySem.W.findIn K (.ref C) name = some none) (hv : mA name = some v) (hv' : PySem.W.handedIn v = true) (h : Q v { s with toks := s.toks + 1 }) :
    wpAny (model prog w) A (getAttr (.ref x) name expr) Q E s := by
  obtain ⟨od, J, hl⟩ := I.look
  exact PySem.W.get_value X J (PySem.W.plainGet_of hg).1 (PySem.W.findObj_own hh ha rfl (by rw [hl, hv])) hv' h

theorem get_const {expr : Bool} {a : Value} {Q : Value → Shared → Prop} (X : K.In s.heap) (I : ObjM s.heap x dx C mA) (hg : PySem.W.plainGet K C name = true) (hh : PySem.W.hasDictIn K C = true)
    (ha : PySem.W.findIn K (.ref C) name = some (some a)) (hn : PySem.W.specialIn K a "__get__" = some none) (hc : PySem.W.copiedNames.contains name = false) (hv : mA name = none) (hv' : PySem.W.handedIn a = true)
    (h : Q a { s with toks := s.toks + 1 }) : wpAny (model prog w) A (getAttr (.ref x) name expr) Q E s := by
  obtain ⟨od, J, hl⟩ := I.look
  exact PySem.W.get_value X J (PySem.W.plainGet_of hg).1 (PySem.W.findObj_cls hh ha hn hv' hc (by rw [hl, hv])) hv' h

theorem get_meth {pl : Sem Bool} {Q : Value × List Value → Shared → Prop} (X : K.In s.heap) (I : ObjM s.heap x dx C mA) (hg : PySem.W.plainGet K C name = true)
    (hf : PySem.W.findIn K (.ref C) name = some (some (.ref f))) (ht : PySem.W.isFn K (.ref f) = true) (hv : mA name = none) (h : Q (.ref f, [.ref x]) s) :
    wpAny (model prog w) A (getMethod (.ref x) name pl) Q E s := by
  obtain ⟨od, J, hl⟩ := I.look
  exact PySem.W.method_fn X J (PySem.W.plainGet_of hg).1 (PySem.W.plainGet_of hg).2 hf (beq_iff_eq.mp ht) (by show (PySem.W.lookIn name od).map (·.isSome) = some false; rw [hl, hv]; rfl) h

theorem set_map {ns : List Str} {Q : Unit → Shared → Prop} (X : K.In s.heap) (I : ObjM s.heap x dx C mA)
    (hs : PySem.W.findIn K (.ref C) "__setattr__" = some (some (.builtin "object.__setattr__"))) (hp : PySem.W.plainOver K C = true) (ht : PySem.W.takerIn K C name = some none) (hh : PySem.W.hasDictIn K C = true)
    (hw : PySem.Within mA ns) (hsz : ns.length ≤ sizeLine)
    (h : ∀ h', ObjM h' x dx C (fun y => if y = name then some v else mA y) → Heap.SameBut dx s.heap h' → Q () { s with heap := h', toks := s.toks + 2 }) :
    wpAny (model prog w) A (setAttr (.ref x) name v) Q E s := by
  obtain ⟨od, J, hl⟩ := I.look
  refine PySem.W.set_plain X J hs (PySem.W.osa_open (s := { s with toks := s.toks + 1 }) (r := none) X J hp ht fun b => ?_)
  obtain ⟨cd, hc, hd'⟩ := PySem.W.any_some hh
  have hx : s.heap.get? x = some ⟨.ref C, some dx, .plain, #[]⟩ := I.obj
  refine wpAny_bind (wpAny_pure (wpAny_bind (wpAny_bind (wpAny_loadPart hx (wpAny_bind (PySem.W.Looks.here (s := { s with toks := s.toks + 1 }) (PySem.W.looks_clsIn X hc) ?_))))))
  rw [hd']
  refine wpAny_pure (a := some dx) (wpAny_bind (wpAny_pure (wpAny_bind ?_)))
  refine wpAny_nsSet1 (s := { s with toks := s.toks + 1 }) I.ns fun h' hn2 hs2 => ?_
  obtain ⟨oD, esD, epD, hoD, hdD, hcD⟩ := hn2.count (PySem.Within.cons name v hw)
  refine wpAny_bind (wpAny_lookBehind hoD (by rw [hdD]; exact pastItsLine_dict (Nat.le_trans hcD (by rw [List.length_cons]; omega))) ?_)
  exact wpAny_pure (h _ ⟨(hs2.2 _ (Ne.symm I.ne)).trans I.obj, hn2, I.ne⟩ hs2)

/-- C(..): the dict at the heap's end, the instance behind it; then its __init__ -/
theorem make_map {R : Result → Shared → Prop} {vs : List Value} {kw : List (Str × Value)} (X : K.In s.heap) (hm : PySem.W.makesIn K C = true)
    (hi : PySem.W.findIn K (.ref C) "__init__" = some (some (.ref f))) (hf : PySem.W.typeIn K (.ref f) = some (.type "function"))
    (h : codeAny (model prog w) (A.under (.builtin "type.__call__" ⟨.ref C :: vs, kw⟩)) (.call (.ref f) ⟨.ref (s.heap.objs.size + 1) :: vs, kw⟩) (PySem.W.InitBack (s.heap.objs.size + 1) R)
      { s with heap := (s.heap.push PySem.W.emptyDict).push (PySem.W.instObj C s.heap.objs.size) }) :
    codeAny (model prog w) A (.call (.ref C) ⟨vs, kw⟩) R s := by
  obtain ⟨hh, g, d, t, os⟩ := s
  exact PySem.W.make_core (PySem.W.makes_of X hm) (PySem.W.looks_findIn X hi) (fun self => PySem.W.bind_fn X self hf) (.inl rfl) h
/-- C() where there is no __init__ but object's -/
theorem make_map0 {R : Result → Shared → Prop} (X : K.In s.heap) (hm : PySem.W.makesIn K C = true)
    (hi : PySem.W.findIn K (.ref C) "__init__" = some (some (.builtin "object.__init__")))
    (hb : ∀ self, PySem.W.Looks (model prog w) s.heap (bindSpecial (.builtin "object.__init__") self) (.builtin "object.__init__", [self]))
    (h : codeAny (model prog w) (A.under (.builtin "type.__call__" ⟨[.ref C], []⟩)) (.call (.builtin "object.__init__") ⟨[.ref (s.heap.objs.size + 1)], []⟩) (PySem.W.InitBack (s.heap.objs.size + 1) R)
      { s with heap := (s.heap.push PySem.W.emptyDict).push (PySem.W.instObj C s.heap.objs.size) }) :
    codeAny (model prog w) A (.call (.ref C) ⟨[], []⟩) R s := by
  obtain ⟨hh, g, d, t, os⟩ := s
  exact PySem.W.make_core (PySem.W.makes_of X hm) (PySem.W.looks_findIn X hi) hb (.inr ⟨rfl, rfl⟩) h
end

/-! ### the attributes as a list of pairs -/
def putF (f : Str) (v : V) : List (Str × V) → List (Str × V)
  | [] => [(f, v)]
  | (g, x) :: r => if g = f then (g, v) :: r else (g, x) :: putF f v r
theorem lookup_putF (f g : Str) (v : V) : ∀ fs : List (Str × V), (putF f v fs).lookup g = if g = f then some v else fs.lookup g
  | [] => by
    show List.lookup g [(f, v)] = _
    by_cases h : g = f
    · have hb : (g == f) = true := beq_iff_eq.mpr h
      simp only [List.lookup, hb, if_pos h]
    · have hb : (g == f) = false := beq_eq_false_iff_ne.mpr h
      simp only [List.lookup, hb, if_neg h]
  | (k, x) :: r => by
    have ih := lookup_putF f g v r
    rw [show putF f v ((k, x) :: r) = (if k = f then (k, v) :: r else (k, x) :: putF f v r) from rfl]
    by_cases hk : k = f
    · rw [if_pos hk]
      by_cases h : g = k
      · have hb : (g == k) = true := beq_iff_eq.mpr h
        simp only [List.lookup, hb, if_pos (h.trans hk)]
      · have hb : (g == k) = false := beq_eq_false_iff_ne.mpr h
        simp only [List.lookup, hb, if_neg (fun e : g = f => h (e.trans hk.symm))]
    · rw [if_neg hk]
      by_cases h : g = k
      · have hb : (g == k) = true := beq_iff_eq.mpr h
        simp only [List.lookup, hb, if_neg (fun e : g = f => hk (h.symm.trans e))]
      · have hb : (g == k) = false := beq_eq_false_iff_ne.mpr h
        simp only [List.lookup, hb]
        exact ih
theorem keys_putF (f : Str) (v : V) : ∀ fs : List (Str × V), f ∈ (putF f v fs).map (·.1) ∧ ∀ g, g ∈ fs.map (·.1) → g ∈ (putF f v fs).map (·.1)
  | [] => ⟨by simp [putF], fun g h => by simp at h⟩
  | (k, x) :: r => by
    obtain ⟨i1, i2⟩ := keys_putF f v r
    rw [show putF f v ((k, x) :: r) = (if k = f then (k, v) :: r else (k, x) :: putF f v r) from rfl]
    by_cases hk : k = f
    · rw [if_pos hk]
      subst hk
      exact ⟨by simp, fun g h => by simpa using h⟩
    · rw [if_neg hk]
      refine ⟨?_, fun g h => ?_⟩
      · rw [List.map_cons]
        exact List.mem_cons_of_mem _ i1
      · rw [List.map_cons] at h ⊢
        rcases List.mem_cons.mp h with e | e
        · exact List.mem_cons.mpr (.inl e)
        · exact List.mem_cons_of_mem _ (i2 g e)
theorem length_putF (f : Str) (v : V) : ∀ fs : List (Str × V), (putF f v fs).length ≤ fs.length + 1
  | [] => by simp [putF]
  | (k, x) :: r => by
    have ih := length_putF f v r
    rw [show putF f v ((k, x) :: r) = (if k = f then (k, v) :: r else (k, x) :: putF f v r) from rfl]
    by_cases hk : k = f
    · rw [if_pos hk, List.length_cons, List.length_cons]; omega
    · rw [if_neg hk, List.length_cons, List.length_cons]; omega

theorem RelO.some_of {v : V} {o : Option Value} (r : RelO (some v) o) : ∃ u, o = some u ∧ RelV v u := by
  cases o with
  | none => exact (show False from r).elim
  | some u => exact ⟨u, rfl, r⟩
theorem RelO.none_of {o : Option Value} (r : RelO none o) : o = none := by
  cases o with
  | none => rfl
  | some u => exact (show False from r).elim
theorem handed_of {v : V} {u : Value} (r : RelV v u) : PySem.W.handedIn u = true := by
  cases v with
  | non => cases (show u = Value.none from r); rfl
  | bl b => cases (show u = Value.bool b from r); rfl
  | int i => obtain ⟨t, e⟩ := (show ∃ t, u = Value.int i t from r); cases e; rfl
  | str x => obtain ⟨t, e⟩ := (show ∃ t, u = Value.str x t from r); cases e; rfl
  | byt b => obtain ⟨t, e⟩ := (show ∃ t, u = Value.bytes b t from r); cases e; rfl
  | flt b => obtain ⟨t, e⟩ := (show ∃ t, u = Value.float b t from r); cases e; rfl
  | ref a => cases (show u = Value.ref a from r); rfl
  | ty n => cases (show u = Value.type n from r); rfl

section
variable {P : Program} {w : World} {H H' : Hp} {h h' : Heap} {a C dx : Addr} {fs fs' : List (Str × V)}
theorem ins_get (hok : HOk P w H h) (e : H a = some (.ins C dx fs)) : ∃ mA, ObjM h a dx C mA ∧ (∀ f, RelO (fs.lookup f) (mA f)) ∧ PySem.Within mA (fs.map (·.1)) ∧ fs.length ≤ 1000 ∧ H dx = some (.own a) := by
  obtain ⟨d, z, ne, ob, mA, n, r, q⟩ := (show ObjOk P w H h a (.ins C dx fs) from hok a _ e)
  exact ⟨mA, ⟨ob, n, ne⟩, r, q, z, d⟩
end

/-! ### what of the text a class must have -/
structure Cls (K : PySem.W.Frag) (C : Addr) : Prop where
  pg : PySem.W.plainGet K C Str.empty = true
  hd : PySem.W.hasDictIn K C = true
  po : PySem.W.plainOver K C = true
  sa : PySem.W.findIn K (.ref C) "__setattr__" = some (some (.builtin "object.__setattr__"))
theorem Cls.get {K : PySem.W.Frag} {C : Addr} (c : Cls K C) (f : Str) : PySem.W.plainGet K C f = true := c.pg
/-- no class of it has the name -/
def NoAttr (K : PySem.W.Frag) (C : Addr) (f : Str) : Prop := PySem.W.findIn K (.ref C) f = some none
theorem NoAttr.taker {K : PySem.W.Frag} {C : Addr} {f : Str} (n : NoAttr K C f) : PySem.W.takerIn K C f = some none := by
  unfold PySem.W.takerIn
  rw [show PySem.W.findIn K (.ref C) f = some none from n]
  rfl
/-- a constant of the class -/
structure Con (K : PySem.W.Frag) (C : Addr) (f : Str) (v : V) (u : Value) : Prop where
  at_ : PySem.W.findIn K (.ref C) f = some (some u)
  rel : RelV v u
  get : PySem.W.specialIn K u "__get__" = some none
  cp : PySem.W.copiedNames.contains f = false
/-- a method: a plain def of the class or of one above it -/
structure Meth (K : PySem.W.Frag) (C : Addr) (m : Str) (f : Addr) : Prop where
  at_ : PySem.W.findIn K (.ref C) m = some (some (.ref f))
  fn : PySem.W.isFn K (.ref f) = true
  kp : PySem.W.keepIn K (.ref f) = true

section
variable {X : Cx} {pins : List (Addr × Obj)} {σ : St} {H : Hp} {s : Shared} {a C dx : Addr} {fs : List (Str × V)} {f : Str} {v : V} {A : Around} {E : Value → Shared → Prop}

theorem getattr_ok {b : Bool} {Q : Value → Shared → Prop} (I : Inv X pins σ H s) (e : H a = some (.ins C dx fs)) (c : Cls X.K C) (n : NoAttr X.K C f) (l : fs.lookup f = some v)
    (h : ∀ u s', Inv X pins σ H s' → RelV v u → Q u s') : wpAny (model X.prog X.w) A (getAttr (.ref a) f b) Q E s := by
  obtain ⟨mA, O, r, _, _, _⟩ := ins_get I.hok e
  obtain ⟨u, hu, ru⟩ := RelO.some_of (v := v) (o := mA f) (by rw [← l]; exact r f)
  exact get_map I.kIn O (c.get f) c.hd n hu (handed_of ru) (h u _ (I.tok _) ru)

theorem getcon_ok {b : Bool} {u : Value} {Q : Value → Shared → Prop} (I : Inv X pins σ H s) (e : H a = some (.ins C dx fs)) (c : Cls X.K C) (k : Con X.K C f v u) (l : fs.lookup f = none)
    (h : ∀ s', Inv X pins σ H s' → Q u s') : wpAny (model X.prog X.w) A (getAttr (.ref a) f b) Q E s := by
  obtain ⟨mA, O, r, _, _, _⟩ := ins_get I.hok e
  have hn : mA f = none := RelO.none_of (by rw [← l]; exact r f)
  exact get_const I.kIn O (c.get f) c.hd k.at_ k.get k.cp hn (handed_of k.rel) (h _ (I.tok _))

theorem getmeth_ok {m : Str} {g : Addr} {pl : Sem Bool} {Q : Value × List Value → Shared → Prop} (I : Inv X pins σ H s) (e : H a = some (.ins C dx fs)) (c : Cls X.K C) (k : Meth X.K C m g) (l : fs.lookup m = none)
    (h : Q (.ref g, [.ref a]) s) : wpAny (model X.prog X.w) A (getMethod (.ref a) m pl) Q E s := by
  obtain ⟨mA, O, r, _, _, _⟩ := ins_get I.hok e
  have hn : mA m = none := RelO.none_of (by rw [← l]; exact r m)
  exact get_meth I.kIn O (c.get m) k.at_ k.fn hn h

theorem setattr_ok {y : V} {u : Value} {Q : Unit → Shared → Prop} (I : Inv X pins σ H s) (e : H a = some (.ins C dx fs)) (c : Cls X.K C) (n : NoAttr X.K C f) (hl : fs.length < 1000) (ry : RelV y u)
    (h : ∀ s', Inv X pins σ (upd H a (.ins C dx (putF f y fs))) s' → Q () s') : wpAny (model X.prog X.w) A (setAttr (.ref a) f u) Q E s := by
  obtain ⟨mA, O, r, wi, _, ho⟩ := ins_get I.hok e
  have hz : (fs.map (·.1)).length ≤ sizeLine := by rw [List.length_map, sizeLine_eq]; omega
  refine set_map I.kIn O c.sa c.po n.taker c.hd wi hz fun h' O' sb => h _ ?_
  have hd : ∃ o, h'.get? dx = some o := let ⟨o, _, _, e', _⟩ := O'.ns; ⟨o, e'⟩
  refine I.write (x := a) (e := dx) (by rw [e]; exact True.intro) (.inr ho) (fun b q hb z => (sb.2 b hb).trans z) hd ?_
  refine ⟨by rw [upd_ne O.ne]; exact ho, ?_, O.ne, O'.obj, _, O'.ns, fun g => ?_, fun g hg => ?_⟩
  · have := length_putF f y fs; omega
  · show RelO ((putF f y fs).lookup g) (if g = f then some u else mA g)
    rw [lookup_putF]
    by_cases q : g = f
    · rw [if_pos q, if_pos q]; exact ry
    · rw [if_neg q, if_neg q]; exact r g
  · by_cases q : g = f
    · rw [q]; exact (keys_putF f y fs).1
    · refine (keys_putF f y fs).2 g (wi g fun z => hg ?_)
      show (if g = f then some u else mA g) = none
      rw [if_neg q]; exact z

/-- a new instance, tracked, without attributes -/
theorem Inv.made (I : Inv X pins σ H s) : Inv X pins σ (upd (upd H s.heap.objs.size (.own (s.heap.objs.size + 1))) (s.heap.objs.size + 1) (.ins C s.heap.objs.size []))
    { s with heap := (s.heap.push PySem.W.emptyDict).push (PySem.W.instObj C s.heap.objs.size) } := by
  have e1 : (s.heap.push PySem.W.emptyDict).get? s.heap.objs.size = some PySem.W.emptyDict := Heap.get?_push_size s.heap rfl
  have e2 : ((s.heap.push PySem.W.emptyDict).push (PySem.W.instObj C s.heap.objs.size)).get? (s.heap.objs.size + 1) = some (PySem.W.instObj C s.heap.objs.size) := by
    have := Heap.get?_push_size (s.heap.push PySem.W.emptyDict) (o := PySem.W.instObj C s.heap.objs.size) rfl
    rwa [Heap.size_push] at this
  have e3 : (s.heap.push PySem.W.emptyDict).Ns s.heap.objs.size (fun _ => none) := ⟨PySem.W.emptyDict, #[], _, e1, rfl, (fun e he => absurd he (by simp)), fun _ => rfl⟩
  have I1 := I.laid (a := s.heap.objs.size) (o := .own (s.heap.objs.size + 1)) (h' := s.heap.push PySem.W.emptyDict) (t' := s.toks) (fun b u q => Heap.get?_push_of_some _ q) (Nat.le_refl _) ⟨_, e1⟩
  refine I1.laid (a := s.heap.objs.size + 1) (o := .ins C s.heap.objs.size []) (t' := s.toks) (fun b u q => Heap.get?_push_of_some _ q) (Nat.le_of_eq (Heap.size_push _ _)) ?_
  have ne : s.heap.objs.size ≠ s.heap.objs.size + 1 := Nat.ne_of_lt (Nat.lt_succ_self _)
  refine ⟨by rw [upd_ne ne, upd_same], Nat.zero_le _, ne, e2, fun _ => none, (Heap.Ns1.of_empty e3).at fun o q => Heap.get?_push_of_some _ q, fun _ => True.intro, fun y hy => absurd rfl hy⟩

/-- e.f where nothing but the object is asked: through attributeBase (super) and the last hold -/
theorem attr_of {prog : Program} {w : World} {env : Env} {e : Expr} {f : Str} {pos : Pos} {s : Shared} {Q : Value → Shared → Prop} (hb : attributeBase e f env (eval e env) = eval e env)
    (h : wpAny (model prog w) A (eval e env) (fun o s₁ => wpAny (model prog w) A (getAttr o f true) Q E s₁) E s) : wpAny (model prog w) A (eval (.Attribute e f pos) env) Q E s :=
  Attribute_any_ h (by rw [arm_eval_Attribute, hb])
end

/-! ### readings and rules -/
/-- e.f, an attribute of the instance -/
def tFld (K : PySem.W.Frag) (ta : TE) (f : Str) : TE := fun σ H Q => ta σ H fun x H1 => ∃ a C dx fs v, x = .ref a ∧ H1 a = some (.ins C dx fs) ∧ Cls K C ∧ NoAttr K C f ∧ fs.lookup f = some v ∧ Q v H1
/-- e.f, a constant of the class -/
def tCon (K : PySem.W.Frag) (ta : TE) (f : Str) : TE := fun σ H Q => ta σ H fun x H1 => ∃ a C dx fs v u, x = .ref a ∧ H1 a = some (.ins C dx fs) ∧ Cls K C ∧ Con K C f v u ∧ fs.lookup f = none ∧ Q v H1
/-- e.f = value -/
def sFld (K : PySem.W.Frag) (ta tv : TE) (f : Str) : TS := fun D σ H => tv σ H fun y H1 => ta σ H1 fun x H2 => ∃ a C dx fs, x = .ref a ∧ H2 a = some (.ins C dx fs) ∧ Cls K C ∧ NoAttr K C f ∧ fs.length < 1000 ∧
  D.nx σ (upd H2 a (.ins C dx (putF f y fs)))
/-- an augmented operator on two values -/
def InOp (X : Cx) (op : Operator) (rd : V → V → Hp → VK → Prop) : Prop :=
  ∀ (pins : List (Addr × Obj)) (s : Shared) (σ : St) (H : Hp) (x y : V) (u v : Value) (Q : VK), Inv X pins σ H s → RelV x u → RelV y v → rd x y H Q → wpAny (model X.prog X.w) X.A (inplaceOp op u v) (EP X pins σ Q) X.xe s
/-- e.f op= value -/
def sFldAug (K : PySem.W.Frag) (ta tv : TE) (rd : V → V → Hp → VK → Prop) (f : Str) : TS := fun D σ H => ta σ H fun x H1 => ∃ a C dx fs v, x = .ref a ∧ H1 a = some (.ins C dx fs) ∧ Cls K C ∧ NoAttr K C f ∧ fs.lookup f = some v ∧
  tv σ H1 fun y H2 => rd v y H2 fun z H3 => ∃ dx' fs', H3 a = some (.ins C dx' fs') ∧ fs'.length < 1000 ∧ D.nx σ (upd H3 a (.ins C dx' (putF f z fs')))

section
variable {X : Cx} {o e value : Expr} {f : Str} {pos pos' tpos : Pos} {ta tv : TE}
theorem pe_fld (he : PE X e ta) (hb : attributeBase e f X.env (eval e X.env) = eval e X.env) : PE X (.Attribute e f pos) (tFld X.K ta f) := by
  intro pins s σ H Q I h
  refine attr_of hb (thn (he pins s σ H _ I h) fun u s1 ⟨x, H1, I1, rx, a, C, dx, fs, v, ex, ea, c, n, l, q⟩ => ?_)
  subst ex
  obtain rfl : u = Value.ref a := rx
  exact getattr_ok I1 ea c n l fun u' s2 I2 ru => ⟨v, H1, I2, ru, q⟩
theorem pe_con (he : PE X e ta) (hb : attributeBase e f X.env (eval e X.env) = eval e X.env) : PE X (.Attribute e f pos) (tCon X.K ta f) := by
  intro pins s σ H Q I h
  refine attr_of hb (thn (he pins s σ H _ I h) fun u s1 ⟨x, H1, I1, rx, a, C, dx, fs, v, u0, ex, ea, c, k, l, q⟩ => ?_)
  subst ex
  obtain rfl : u = Value.ref a := rx
  exact getcon_ok I1 ea c k l fun s2 I2 => ⟨v, H1, I2, k.rel, q⟩
theorem ps_fld (ha : PE X o ta) (hv : PE X value tv) (hs : swapsWith value (some (.Attribute o f pos')) pos.line X.env = pure false) : PS X (.Assign [.Attribute o f pos'] value pos) (sFld X.K ta tv f) := by
  intro pins s σ H D I h
  refine plainObj_wpAny_Assign_Attribute (thn (hv pins s σ H _ I h) fun u s1 ⟨y, H1, I1, ry, q⟩ => thn (ha pins s1 σ H1 _ I1 q) fun ov s2 ⟨x, H2, I2, rx, a, C, dx, fs, ex, ea, c, n, l, q2⟩ => ?_) hs
  subst ex
  obtain rfl : ov = Value.ref a := rx
  exact setattr_ok I2 ea c n l ry fun s3 I3 => ⟨σ, _, I3, q2⟩
theorem ps_fldaug {op : Operator} {rd : V → V → Hp → VK → Prop} (ha : PE X o ta) (hv : PE X value tv) (hop : InOp X op rd) : PS X (.AugAssign (.Attribute o f tpos) op value pos) (sFldAug X.K ta tv rd f) := by
  intro pins s σ H D I h
  refine wpAny_AugAssign_AttributeAny (thn (ha pins s σ H _ I h) fun ov s1 ⟨x, H1, I1, rx, a, C, dx, fs, v, ex, ea, c, n, l, q⟩ => ?_)
  subst ex
  obtain rfl : ov = Value.ref a := rx
  refine getattr_ok I1 ea c n l fun u s2 I2 ru => thn (hv pins s2 σ H1 _ I2 q) fun w3 s3 ⟨y, H2, I3, ry, q3⟩ => thn (hop pins s3 σ H2 v y u w3 _ I3 ru ry q3) fun w4 s4 ⟨z, H3, I4, rz, dx', fs', ea', l', q4⟩ => ?_
  exact setattr_ok I4 ea' c n l' rz fun s5 I5 => ⟨σ, _, I5, q4⟩
def rAdd : V → V → Hp → VK → Prop := fun x y H Q => ∃ i j, x = .int i ∧ y = .int j ∧ Q (.int (i + j)) H
def rSub : V → V → Hp → VK → Prop := fun x y H Q => ∃ i j, x = .int i ∧ y = .int j ∧ Q (.int (i - j)) H
theorem in_add : InOp X .Add rAdd := by
  rintro pins s σ H x y u v Q I rx ry ⟨i, j, rfl, rfl, q⟩
  obtain ⟨t, rfl⟩ := (show ∃ t, u = Value.int i t from rx)
  obtain ⟨t', rfl⟩ := (show ∃ t', v = Value.int j t' from ry)
  exact PyProof.Rows.iadd_int ⟨.int (i + j), H, I.tok _, ⟨_, rfl⟩, q⟩
theorem in_sub : InOp X .Sub rSub := by
  rintro pins s σ H x y u v Q I rx ry ⟨i, j, rfl, rfl, q⟩
  obtain ⟨t, rfl⟩ := (show ∃ t, u = Value.int i t from rx)
  obtain ⟨t', rfl⟩ := (show ∃ t', v = Value.int j t' from ry)
  exact PyProof.Rows.isub_int ⟨.int (i - j), H, I.tok _, ⟨_, rfl⟩, q⟩

/-- what is between an instance and its method: the tree of a method call -/
theorem methcall_of {pl : Sem Bool} {m : Str} {apos : Pos} {args : List Expr} {pins : List (Addr × Obj)} {s : Shared} {σ : St} {H : Hp} {Q : Value → Shared → Prop} {te : TE} (he : PE X e te) (I : Inv X pins σ H s)
    (h : te σ H fun x H1 => ∃ a C dx fs g, x = .ref a ∧ H1 a = some (.ins C dx fs) ∧ Cls X.K C ∧ Meth X.K C m g ∧ fs.lookup m = none ∧
      ∀ s1, Inv X pins σ H1 s1 → wpAny (model X.prog X.w) X.A (callWith pos (.ref g) [.ref a] (backTo pos (starEach args X.env)) (backToKw pos (keywordEach [] X.env))) Q X.xe s1)
    (ht : eval (.Call (.Attribute e m apos) args [] pos) X.env = (do
      let ov ← eval e X.env
      standAt apos.atName
      let (f, first) ← holding [ov] (getMethod ov m pl)
      callWith pos f first (backTo pos (starEach args X.env)) (backToKw pos (keywordEach [] X.env)))) :
    wpAny (model X.prog X.w) X.A (eval (.Call (.Attribute e m apos) args [] pos) X.env) Q X.xe s := by
  refine PySem.W.methodCall_KW (pl := pl) (thn (he pins s σ H _ I h) fun u s1 ⟨x, H1, I1, rx, a, C, dx, fs, g, ex, ea, c, k, l, q⟩ => ?_) ht
  subst ex
  obtain rfl : u = Value.ref a := rx
  exact getmeth_ok I1 ea c k l (q s1 I1)
end

/-! ### isinstance -/
section
variable {X : Cx} {pins : List (Addr × Obj)} {σ : St} {H : Hp} {s : Shared} {A : Around} {E : Value → Shared → Prop} {Q : Value → Shared → Prop} {c : Value} {b : Bool}
/-- the type of a value, as the fragment's deciders take it; for an instance its class -/
inductive TyOf (K : PySem.W.Frag) (H : Hp) : V → Value → Prop where
  | non : TyOf K H .non (.type "NoneType")
  | bl (x : Bool) : TyOf K H (.bl x) (.type "bool")
  | int (i : Int) : TyOf K H (.int i) (.type "int")
  | str (x : Str) : TyOf K H (.str x) (.type "str")
  | flt (x : UInt64) : TyOf K H (.flt x) (.type "float")
  | lst {a : Addr} {xs : List V} (e : H a = some (.lst xs)) : TyOf K H (.ref a) (.type "list")
  | frz {a : Addr} {o : Obj} {xs : List V} (e : H a = some (.frz o (.lst xs))) : TyOf K H (.ref a) (.type "list")
  | tup {a : Addr} {xs : List V} (e : H a = some (.tup xs)) : TyOf K H (.ref a) (.type "tuple")
  | dK {a : Addr} {kvs : List (Key × V)} (e : H a = some (.dK kvs)) : TyOf K H (.ref a) (.type "dict")
  | dT {a : Addr} {kvs : List (List Key × V)} (e : H a = some (.dT kvs)) : TyOf K H (.ref a) (.type "dict")
  | ins {a C dx : Addr} {fs : List (Str × V)} (e : H a = some (.ins C dx fs)) (cl : Cls K C) (ha : PySem.W.findIn K (.ref C) "__class__" = some (some (.builtin "object.__class__")))
      (hn : PySem.W.specialIn K (.builtin "object.__class__") "__get__" = some (some (.builtin "getset_descriptor.__get__"))) (htk : PySem.W.takesIn K (.builtin "object.__class__") = some true)
      (hm : PySem.W.mroIn K C (.type "object") = some true) : TyOf K H (.ref a) (.ref C)
/-- isinstance(x, c) for one class c, a built-in or an own one: kitOne's answer -/
theorem isinst_ok {x : V} {u t : Value} (I : Inv X pins σ H s) (rx : RelV x u) (ty : TyOf X.K H x t) (e : PySem.W.kitOne X.K t c = some b) (h : ∀ tk, Q (.bool b) { s with toks := tk }) :
    wpAny (model X.prog X.w) A (call (.builtin "isinstance") [u, c]) Q E s := by
  cases ty with
  | non => cases (show u = Value.none from rx); exact PySem.W.kia_one PySem.W.kitx_none I.kIn True.intro e (fun z => nomatch z) h
  | bl y => cases (show u = Value.bool y from rx); exact PySem.W.kia_one PySem.W.kitx_bool I.kIn True.intro e (fun z => nomatch z) h
  | int i => obtain ⟨t, q⟩ := (show ∃ t, u = Value.int i t from rx); cases q; exact PySem.W.kia_one PySem.W.kitx_int I.kIn True.intro e (fun z => nomatch z) h
  | str y => obtain ⟨t, q⟩ := (show ∃ t, u = Value.str y t from rx); cases q; exact PySem.W.kia_one PySem.W.kitx_str I.kIn True.intro e (fun z => nomatch z) h
  | flt y => obtain ⟨t, q⟩ := (show ∃ t, u = Value.float y t from rx); cases q; exact PySem.W.kia_one PySem.W.kitx_float I.kIn True.intro e (fun z => nomatch z) h
  | @lst a xs ea =>
    cases (show u = Value.ref a from rx)
    obtain ⟨_, _, n, _, h1⟩ := (show ObjOk X.prog X.w H s.heap a (.lst xs) from I.hok a _ ea)
    exact PySem.W.kia_one PySem.W.kitx_list I.kIn ⟨_, h1, rfl⟩ e (fun z => nomatch z) h
  | @frz a ob xs ea =>
    cases (show u = Value.ref a from rx)
    obtain ⟨_, _, _, n, _, h1⟩ := (show ObjOk X.prog X.w H s.heap a (.frz ob (.lst xs)) from I.hok a _ ea)
    exact PySem.W.kia_one PySem.W.kitx_list I.kIn ⟨_, h1, rfl⟩ e (fun z => nomatch z) h
  | @tup a xs ea =>
    cases (show u = Value.ref a from rx)
    obtain ⟨_, _, _, p⟩ := (show ObjOk X.prog X.w H s.heap a (.tup xs) from I.hok a _ ea)
    obtain ⟨o, h1, h2, _⟩ := p
    exact PySem.W.kia_one PySem.W.kitx_tuple I.kIn ⟨o, h1, h2⟩ e (fun z => nomatch z) h
  | @dK a kvs ea =>
    cases (show u = Value.ref a from rx)
    obtain ⟨_, _, vs, _, p⟩ := (show ObjOk X.prog X.w H s.heap a (.dK kvs) from I.hok a _ ea)
    obtain ⟨o, es, ep, h1, h2, _⟩ := p
    exact PySem.W.kia_one PySem.W.kitx_dict I.kIn ⟨o, h1, h2.1⟩ e (fun z => nomatch z) h
  | @dT a kvs ea =>
    cases (show u = Value.ref a from rx)
    obtain ⟨_, _, xs, _, o, es, ep, h1, h2, _⟩ := (show ObjOk X.prog X.w H s.heap a (.dT kvs) from I.hok a _ ea)
    exact PySem.W.kia_one PySem.W.kitx_dict I.kIn ⟨o, h1, h2.1⟩ e (fun z => nomatch z) h
  | @ins a C dx fs ea cl ha hn htk hm =>
    cases (show u = Value.ref a from rx)
    obtain ⟨mA, O, _⟩ := ins_get I.hok ea
    obtain ⟨od, J, _⟩ := O.look
    exact PySem.W.kia_one (PySem.W.kitx_own (cl.get _) cl.hd ha hn htk hm) I.kIn J e (fun z => nomatch z) h
end
end L2

namespace L2
open PySem PySem.Spec PyProof.Rows

/-! ### room -/
structure Room (k : Nat) (A : Around) : Prop where
  hd : A.handled = none
  dp : A.depth + 3 * k + 5 < recursionLimit
  un : A.units + 16 * k + 200 < cLine
  gd : A.guards = some []
theorem Room.mono {j k : Nat} {A : Around} (r : Room k A) (h : j ≤ k) : Room j A := ⟨r.hd, by have := r.dp; omega, by have := r.un; omega, r.gd⟩
theorem Room.deeper {k : Nat} {A : Around} (r : Room (k + 1) A) (env : Env) : Room k (A.deeper env) :=
  ⟨r.hd, by have := r.dp; show A.depth + 1 + 3 * k + 5 < _; omega, by have := r.un; show A.units + 3 + 16 * k + 200 < _; omega, r.gd⟩
theorem Room.in1 {k : Nat} {A : Around} (r : Room (k + 1) A) : Room k A.in1 :=
  ⟨r.hd, by have := r.dp; show A.depth + 3 * k + 5 < _; omega, by have := r.un; show A.units + 1 + 16 * k + 200 < _; omega, r.gd⟩
theorem make_depth {A : Around} {C : Addr} {us : List Value} {kw : List (Str × Value)} : (A.under (.builtin "type.__call__" ⟨.ref C :: us, kw⟩)).depth = A.depth + 1 := by
  first | rfl | simp [Around.under, Code.weight, Code.isCreation, Code.isGuard, Code.isCaller, Code.frames, Code.isFrame, guardIds]
theorem make_units {A : Around} {C : Addr} {us : List Value} {kw : List (Str × Value)} : (A.under (.builtin "type.__call__" ⟨.ref C :: us, kw⟩)).units = A.units + 1 := by
  first | rfl | simp [Around.under, Code.cUnits, Code.frames, Code.isFrame]
theorem make_guards {A : Around} {C : Addr} {us : List Value} {kw : List (Str × Value)} : (A.under (.builtin "type.__call__" ⟨.ref C :: us, kw⟩)).guards = A.guards := by
  first | rfl | simp [Around.under, Code.cUnits, Code.frames, Code.isFrame]
theorem Room.make {k : Nat} {A : Around} (r : Room (k + 1) A) (C : Addr) (us : List Value) (kw : List (Str × Value)) : Room k (A.under (.builtin "type.__call__" ⟨.ref C :: us, kw⟩)) :=
  ⟨r.hd, by have := r.dp; rw [make_depth]; omega, by have := r.un; rw [make_units]; omega, by rw [make_guards]; exact r.gd⟩
theorem Room.depth {k : Nat} {A : Around} (r : Room k A) : A.depth < recursionLimit := by have := r.dp; omega
theorem Room.units {k : Nat} {A : Around} (r : Room k A) : A.units + 64 < cLine := by have := r.un; omega
theorem Room.units0 {k : Nat} {A : Around} (r : Room k A) : A.units < cLine := by have := r.un; omega

/-! ### argument lists and displays -/
def tNil : TA := fun _ H Q => Q [] H
def tCons (ta : TE) (tr : TA) : TA := fun σ H Q => ta σ H fun x H1 => tr σ H1 fun xs H2 => Q (x :: xs) H2
section
variable {X : Cx} {e : Expr} {es : List Expr} {te : TE} {t : TA} {pos : Pos}
theorem pa_nil : PA X [] tNil := fun _ _ _ _ H Q I h => Calls.spliced_nil ⟨[], H, I, .nil, h⟩
theorem pa_cons (ha : PE X e te) (hr : PA X es t) (hs : starEach (e :: es) X.env = (false, eval e X.env) :: starEach es X.env := by rfl) : PA X (e :: es) (tCons te t) := by
  intro pos pins s σ H Q I h
  rw [hs]
  show wpAny _ _ (spliced ((false, eval e X.env) :: backTo pos (starEach es X.env))) _ _ s
  refine Calls.spliced_cons (thn (ha pins s σ H _ I h) fun u s1 ⟨x, H1, I1, r1, q1⟩ => ?_)
  exact thn (hr pos pins s1 σ H1 _ I1 q1) fun us s2 ⟨xs, H2, I2, r2, q2⟩ => ⟨x :: xs, H2, I2, .cons r1 r2, q2⟩

/-- a tuple, a list of written items -/
def tTup (t : TA) : TE := fun σ H Q => t σ H fun xs H1 => xs.length ≤ sizeLine ∧ ∀ p, H1 p = none → Q (.ref p) (upd H1 p (.tup xs))
def tLst (t : TA) : TE := fun σ H Q => t σ H fun xs H1 => xs.length ≤ sizeLine ∧ ∀ p, H1 p = none → Q (.ref p) (upd H1 p (.lst xs))
theorem pe_tup {x1} (h : PA X es t) : PE X (.Tuple es x1 pos) (tTup t) := by
  intro pins s σ H Q I hq
  refine wpAny_Tuple_spliced (thn (h pos pins s σ H _ I hq) fun us s1 ⟨xs, H1, I1, r, z, q⟩ => ⟨by rw [← r.length]; exact z, ?_⟩)
  have hf : H1 s1.heap.objs.size = none := I1.hok.fresh (Nat.le_refl _)
  refine ⟨.ref s1.heap.objs.size, upd H1 s1.heap.objs.size (.tup xs), I1.laid (t' := s1.toks) (fun b u e => Heap.get?_push_of_some _ e) (Nat.le_refl _) ?_, rfl, q _ hf⟩
  exact ⟨z, us, r, ⟨_, Heap.get?_push_size _ rfl, rfl, _, rfl⟩⟩
theorem pe_lst (h : PA X es t) : PE X (.List es pos) (tLst t) := by
  intro pins s σ H Q I hq
  refine wpAny_List_spliced (thn (h pos pins s σ H _ I hq) fun us s1 ⟨xs, H1, I1, r, z, q⟩ => ⟨by rw [← r.length]; exact z, ?_⟩)
  have hf : H1 s1.heap.objs.size = none := I1.hok.fresh (Nat.le_refl _)
  refine ⟨.ref s1.heap.objs.size, upd H1 s1.heap.objs.size (.lst xs), I1.laid (t' := s1.toks) (fun b u e => Heap.get?_push_of_some _ e) (Nat.le_refl _) ?_, rfl, q _ hf⟩
  exact ⟨z, us, 0, r, Heap.get?_push_size _ rfl⟩
end

/-! ### what a def promises -/
/-- a def's promise: the bound arguments in the parameters' order, the heap, the wanted end, the wanted exception -/
abbrev Sp := List V → Hp → VK → XK → Prop
/-- how an exception lies behind a call (file 08 gives it): the callers' frames, abstract heap and state ahead of the call, the wish, the exception, the state -/
abbrev CXT := List Env → Hp → Shared → XK → Value → Shared → Prop

/-- the state at a call -/
structure Env0 (P : Program) (w : World) (K : PySem.W.Frag) (mg : Str → Option Value) (base : Heap) (A : Around) (outer : List Env) (s : Shared) (H : Hp) : Prop where
  frames : A.frames = some outer
  mod : Mod K mg base
  bs : ∀ b o, base.get? b = some o → s.heap.get? b = some o ∧ H b = none
  bsz : base.objs.size ≤ s.heap.objs.size
  funs : s.heap.FunFrames base outer
  frf : ∀ b ∈ frs outer, H b = none
  hok : HOk P w H s.heap
  bare : AllBare s.gens
/-- a call's end -/
def CE (outer : List Env) (P : Program) (w : World) (H : Hp) (s : Shared) (Q : VK) (u : Value) (s' : Shared) : Prop :=
  ∃ v H', s'.os = s.os ∧ AllBare s'.gens ∧ Un (frs outer) [] H H' s.heap s'.heap ∧ HOk P w H' s'.heap ∧ RelV v u ∧ Q v H'
def CR (CX : CXT) (outer : List Env) (P : Program) (w : World) (H : Hp) (s : Shared) (Q : VK) (E : XK) (r : Result) (s' : Shared) : Prop :=
  match r with
  | .ok (.ret u) => CE outer P w H s Q u s'
  | .ok _ => False
  | .error e => CX outer H s E e s'
structure FnOk (P : Program) (w : World) (K : PySem.W.Frag) (mg : Str → Option Value) (base : Heap) (CX : CXT) (k : Nat) (f : Addr) (fd : FuncData) (ps : List Str) (sp : Sp) : Prop where
  len : ∀ vs H Q E, sp vs H Q E → vs.length = ps.length
  run : ∀ (A : Around) (outer : List Env) (s : Shared) (H : Hp) (args : Args) (us : List Value) (vs : List V) (Q : VK) (E : XK), Room k A → Env0 P w K mg base A outer s H → BindsTo s fd args (ps.zip us) → Vals vs us → sp vs H Q E →
    codeAny (model P w) A (.call (.ref f) args) (CR CX outer P w H s Q E) s
theorem FnOk.mono {P : Program} {w : World} {K : PySem.W.Frag} {mg : Str → Option Value} {base : Heap} {CX : CXT} {j k : Nat} {f : Addr} {fd : FuncData} {ps : List Str} {sp : Sp} (F : FnOk P w K mg base CX j f fd ps sp) (h : j ≤ k) :
    FnOk P w K mg base CX k f fd ps sp := ⟨F.len, fun A outer s H args us vs Q E hr => F.run A outer s H args us vs Q E (hr.mono h)⟩
/-- a weaker promise -/
theorem FnOk.imp {P : Program} {w : World} {K : PySem.W.Frag} {mg : Str → Option Value} {base : Heap} {CX : CXT} {k : Nat} {f : Addr} {fd : FuncData} {ps : List Str} {sp sp' : Sp} (F : FnOk P w K mg base CX k f fd ps sp)
    (h : ∀ vs H Q E, sp' vs H Q E → sp vs H Q E) : FnOk P w K mg base CX k f fd ps sp' :=
  ⟨fun vs H Q E q => F.len vs H Q E (h _ _ _ _ q), fun A outer s H args us vs Q E hr he hb hv hs => F.run A outer s H args us vs Q E hr he hb hv (h _ _ _ _ hs)⟩

theorem Env0.make {P : Program} {w : World} {K : PySem.W.Frag} {mg : Str → Option Value} {base : Heap} {A : Around} {outer : List Env} {s : Shared} {H : Hp} (e : Env0 P w K mg base A outer s H) (C : Addr) (us : List Value) (kw : List (Str × Value)) :
    Env0 P w K mg base (A.under (.builtin "type.__call__" ⟨.ref C :: us, kw⟩)) outer s H := ⟨by first | exact e.frames | (simpa [Around.under, Code.envs, Code.isFrame, pushEnvs] using e.frames), e.mod, e.bs, e.bsz, e.funs, e.frf, e.hok, e.bare⟩
theorem Env0.in1 {P : Program} {w : World} {K : PySem.W.Frag} {mg : Str → Option Value} {base : Heap} {A : Around} {outer : List Env} {s : Shared} {H : Hp} (e : Env0 P w K mg base A outer s H) :
    Env0 P w K mg base A.in1 outer s H := ⟨e.frames, e.mod, e.bs, e.bsz, e.funs, e.frf, e.hok, e.bare⟩

section
variable {X : Cx} {pins : List (Addr × Obj)} {σ : St} {H : Hp} {s s' : Shared}
/-- from a body: what a callee wants -/
theorem Inv.env0 (I : Inv X pins σ H s) : Env0 X.prog X.w X.K X.mg X.base X.A X.stack s H :=
  ⟨I.ok.frames, I.ok.mod, I.bs, Nat.le_trans I.ok.bsz I.sz, I.stack, I.stkFree, I.hok, I.bare⟩
/-- behind a call -/
theorem Inv.after {Q : VK} {u : Value} (I : Inv X pins σ H s) (h : CE X.stack X.prog X.w H s Q u s') : EP X pins σ Q u s' := by
  obtain ⟨v, H', os, bare, un, hok, r, q⟩ := h
  obtain ⟨hh, g, d, t, os'⟩ := s'
  obtain rfl : os' = s.os := os
  exact ⟨v, H', I.call (h' := hh) (g' := g) (d' := d) (t' := t) (ch := []) un hok bare (fun b z => absurd z (by simp)), r, q⟩
end

/-! ### calls -/
/-- f(..): the written arguments, then the defaults dvs; E: what is wanted of an exception -/
def tCall (sp : Sp) (dvs : List V) (E : XK) (t : TA) : TE := fun σ H Q => t σ H fun vs H1 => sp (vs ++ dvs) H1 Q E
/-- o.m(..) of an instance of the class at C -/
def tMeth (C : Addr) (m : Str) (sp : Sp) (dvs : List V) (E : XK) (ta : TE) (t : TA) : TE := fun σ H Q => ta σ H fun x H1 => ∃ a dx fs, x = .ref a ∧ H1 a = some (.ins C dx fs) ∧ fs.lookup m = none ∧
  t σ H1 fun vs H2 => sp (x :: (vs ++ dvs)) H2 Q E
/-- C(..): a new instance and its dict, then __init__ -/
def tMake (C : Addr) (sp : Sp) (dvs : List V) (E : XK) (t : TA) : TE := fun σ H Q => t σ H fun vs H1 => ∀ x dx, H1 x = none → H1 dx = none → dx ≠ x →
  sp (.ref x :: (vs ++ dvs)) (upd (upd H1 dx (.own x)) x (.ins C dx [])) (fun v H2 => v = .non ∧ Q (.ref x) H2) E

/-- how the parameters are bound: us the positional arguments, kw the keywords' values by name, ds the defaults that fill up -/
def Binds (K : PySem.W.Frag) (fd : FuncData) (ps : List Str) (ds : List Value) : Prop :=
  ∀ (s : Shared) (us : List Value), K.In s.heap → (us ++ ds).length = ps.length → BindsTo s fd ⟨us, []⟩ (ps.zip (us ++ ds))
/-- every parameter is given -/
theorem Binds.all {K : PySem.W.Frag} {fd : FuncData} {ps : List Str} (h : ∀ us : List Value, us.length = ps.length → bindArgs fd ⟨us, []⟩ = pure (ps.zip us)) : Binds K fd ps [] := fun s us _ hl => by
  rw [List.append_nil] at hl ⊢
  exact .of_eq (h us hl)

/-- an exception of a callee reaches what this body wants of exceptions -/
def Passes (CX : CXT) (X : Cx) (E : XK) : Prop := ∀ (pins : List (Addr × Obj)) (σ : St) (H : Hp) (s : Shared) (e : Value) (s' : Shared), Inv X pins σ H s → CX X.stack H s E e s' → X.xe e s'

section
variable {X : Cx} {CX : CXT} {k : Nat} {f C : Addr} {fd : FuncData} {ps : List Str} {sp : Sp} {dvs : List V} {ds : List Value} {E : XK} {x m : Str} {p pos apos : Pos} {e o : Expr} {es : List Expr} {ta : TE} {t : TA}

/-- the callee runs -/
theorem run_fn {pins : List (Addr × Obj)} {σ : St} {H : Hp} {s : Shared} {Q : VK} {us : List Value} {vs : List V} (F : FnOk X.prog X.w X.K X.mg X.base CX k f fd ps sp) (hr : Room k X.A) (hb : Binds X.K fd ps ds) (hd : Vals dvs ds) (hx : Passes CX X E)
    (I : Inv X pins σ H s) (r : Vals vs us) (h : sp (vs ++ dvs) H Q E) : wpAny (model X.prog X.w) X.A (call (.ref f) us) (EP X pins σ Q) X.xe s := by
  have r2 : Vals (vs ++ dvs) (us ++ ds) := r.append hd
  have hl : (us ++ ds).length = ps.length := by rw [← r2.length]; exact F.len _ _ _ _ h
  refine wpAny_call (codeAny_mono (F.run X.A X.stack s H ⟨us, []⟩ (us ++ ds) (vs ++ dvs) Q E hr I.env0 (hb s us I.kIn hl) r2 h) fun r s' hq => ?_)
  cases r with
  | error e => exact hx pins σ H s e s' I hq
  | ok fl =>
    cases fl with
    | ret u => exact I.after hq
    | next => exact False.elim hq
    | brk => exact False.elim hq
    | cont => exact False.elim hq

theorem pe_call (F : FnOk X.prog X.w X.K X.mg X.base CX k f fd ps sp) (hr : Room k X.A) (hg : Gl X x) (hm : X.mg x = some (.ref f)) (hk : PySem.W.keepIn X.K (.ref f) = true) (hb : Binds X.K fd ps ds) (hd : Vals dvs ds) (hx : Passes CX X E)
    (ha : PA X (e :: es) t) (hdb : (x == ("__debug__" : Str)) = false := by decide) (he : starEach (e :: es) X.env = (false, eval e X.env) :: starEach es X.env := by rfl) (hpl : (backTo pos (starEach es X.env)).any (·.1) = false := by rfl) :
    PE X (.Call (.Name x p) (e :: es) [] pos) (tCall sp dvs E t) := by
  intro pins s σ H Q I h
  refine wpAny_Call_Name_kw (ld_glob I hg hm ?_ hdb)
  refine PySem.W.callWith_K (h₀ := X.base) I.ok.mod.kin hk (thn (ha pos pins s σ H _ I h) fun us s1 ⟨vs, H1, I1, r, q⟩ => ⟨I1.kIn, ?_⟩) he hpl
  exact run_fn F hr hb hd hx I1 r q
theorem pe_call0 (F : FnOk X.prog X.w X.K X.mg X.base CX k f fd ps sp) (hr : Room k X.A) (hg : Gl X x) (hm : X.mg x = some (.ref f)) (hk : PySem.W.keepIn X.K (.ref f) = true) (hb : Binds X.K fd ps ds) (hd : Vals dvs ds) (hx : Passes CX X E)
    (hdb : (x == ("__debug__" : Str)) = false := by decide) : PE X (.Call (.Name x p) [] [] pos) (tCall sp dvs E tNil) := by
  intro pins s σ H Q I h
  refine wpAny_Call_Name_kw (ld_glob I hg hm ?_ hdb)
  exact PySem.W.callWith_K0 I.kIn hk (run_fn (us := []) F hr hb hd hx I .nil h)

/-- o.m(e, ..) -/
theorem pe_meth {pl : Sem Bool} (he : PE X o ta) (c : Cls X.K C) (hm : Meth X.K C m f) (F : FnOk X.prog X.w X.K X.mg X.base CX k f fd ps sp) (hr : Room k X.A) (hb : Binds X.K fd ps ds) (hd : Vals dvs ds) (hx : Passes CX X E) (ha : PA X (e :: es) t)
    (hst : starEach (e :: es) X.env = (false, eval e X.env) :: starEach es X.env := by rfl) (hpl : (backTo pos (starEach es X.env)).any (·.1) = false := by rfl)
    (ht : eval (.Call (.Attribute o m apos) (e :: es) [] pos) X.env = (do
      let ov ← eval o X.env
      standAt apos.atName
      let (f, first) ← holding [ov] (getMethod ov m pl)
      callWith pos f first (backTo pos (starEach (e :: es) X.env)) (backToKw pos (keywordEach [] X.env))) := by rfl) :
    PE X (.Call (.Attribute o m apos) (e :: es) [] pos) (tMeth C m sp dvs E ta t) := by
  intro pins s σ H Q I h
  refine PySem.W.methodCall_KW (pl := pl) (thn (he pins s σ H _ I h) fun u s1 ⟨x, H1, I1, rx, a, dx, fs, ex, ea, l, q⟩ => ?_) ht
  subst ex
  obtain rfl : u = Value.ref a := rx
  refine getmeth_ok I1 ea c hm l ?_
  refine PySem.W.callWith_K (first := [.ref a]) (h₀ := X.base) I.ok.mod.kin hm.kp (thn (ha pos pins s1 σ H1 _ I1 q) fun us s2 ⟨vs, H2, I2, r, q2⟩ => ⟨I2.kIn, ?_⟩) hst hpl
  exact run_fn (us := .ref a :: us) (vs := .ref a :: vs) F hr hb hd hx I2 (.cons rfl r) q2
/-- o.m() -/
theorem pe_meth0 {pl : Sem Bool} (he : PE X o ta) (c : Cls X.K C) (hm : Meth X.K C m f) (F : FnOk X.prog X.w X.K X.mg X.base CX k f fd ps sp) (hr : Room k X.A) (hb : Binds X.K fd ps ds) (hd : Vals dvs ds) (hx : Passes CX X E)
    (ht : eval (.Call (.Attribute o m apos) [] [] pos) X.env = (do
      let ov ← eval o X.env
      standAt apos.atName
      let (f, first) ← holding [ov] (getMethod ov m pl)
      callWith pos f first (backTo pos (starEach [] X.env)) (backToKw pos (keywordEach [] X.env))) := by rfl) :
    PE X (.Call (.Attribute o m apos) [] [] pos) (tMeth C m sp dvs E ta tNil) := by
  intro pins s σ H Q I h
  refine PySem.W.methodCall_KW (pl := pl) (thn (he pins s σ H _ I h) fun u s1 ⟨x, H1, I1, rx, a, dx, fs, ex, ea, l, q⟩ => ?_) ht
  subst ex
  obtain rfl : u = Value.ref a := rx
  refine getmeth_ok I1 ea c hm l ?_
  exact PySem.W.callWith_K0 (first := [.ref a]) I1.kIn hm.kp (run_fn (us := [.ref a]) (vs := [.ref a]) F hr hb hd hx I1 (.cons rfl .nil) q)

/-- what a class must have to be made -/
structure Mk (K : PySem.W.Frag) (C f : Addr) : Prop where
  makes : PySem.W.makesIn K C = true
  init : PySem.W.findIn K (.ref C) "__init__" = some (some (.ref f))
  fn : PySem.W.isFn K (.ref f) = true
  kp : PySem.W.keepIn K (.ref C) = true

theorem run_make {pins : List (Addr × Obj)} {σ : St} {H : Hp} {s : Shared} {Q : VK} {us : List Value} {vs : List V} (M : Mk X.K C f) (F : FnOk X.prog X.w X.K X.mg X.base CX k f fd ps sp) (hr : Room (k + 1) X.A) (hb : Binds X.K fd ps ds) (hd : Vals dvs ds)
    (hx : Passes CX X E) (I : Inv X pins σ H s) (r : Vals vs us)
    (h : ∀ x dx, H x = none → H dx = none → dx ≠ x → sp (.ref x :: (vs ++ dvs)) (upd (upd H dx (.own x)) x (.ins C dx [])) (fun v H2 => v = .non ∧ Q (.ref x) H2) E) :
    wpAny (model X.prog X.w) X.A (call (.ref C) us) (EP X pins σ Q) X.xe s := by
  have hq := h (s.heap.objs.size + 1) s.heap.objs.size (I.hok.fresh (Nat.le_succ _)) (I.hok.fresh (Nat.le_refl _)) (Nat.ne_of_lt (Nat.lt_succ_self _))
  have I2 := Inv.made (C := C) I
  have r2 : Vals (V.ref (s.heap.objs.size + 1) :: (vs ++ dvs)) (Value.ref (s.heap.objs.size + 1) :: (us ++ ds)) := .cons rfl (r.append hd)
  have hl : (Value.ref (s.heap.objs.size + 1) :: us ++ ds).length = ps.length := by
    have e := r2.length
    rw [F.len _ _ _ _ hq] at e
    exact e.symm
  refine wpAny_call (make_map (f := f) I.kIn M.makes M.init (beq_iff_eq.mp M.fn) (codeAny_mono (F.run _ X.stack _ _ ⟨Value.ref (s.heap.objs.size + 1) :: us, []⟩ (Value.ref (s.heap.objs.size + 1) :: (us ++ ds)) _ _ E (hr.make C us [])
    (I2.env0.make C us []) (hb _ (Value.ref (s.heap.objs.size + 1) :: us) I2.kIn hl) r2 hq) fun r s' hq' => ?_))
  cases r with
  | error e => exact hx pins σ _ _ e s' I2 hq'
  | ok fl =>
    cases fl with
    | ret u =>
      obtain ⟨v, H', I3, rv, ev, q3⟩ := I2.after hq'
      subst ev
      exact ⟨rv, ⟨V.ref (s.heap.objs.size + 1), H', I3, rfl, q3⟩⟩
    | next => exact False.elim hq'
    | brk => exact False.elim hq'
    | cont => exact False.elim hq'
theorem pe_make (M : Mk X.K C f) (F : FnOk X.prog X.w X.K X.mg X.base CX k f fd ps sp) (hr : Room (k + 1) X.A) (hg : Gl X x) (hm : X.mg x = some (.ref C)) (hb : Binds X.K fd ps ds) (hd : Vals dvs ds) (hx : Passes CX X E)
    (ha : PA X (e :: es) t) (hdb : (x == ("__debug__" : Str)) = false := by decide) (he : starEach (e :: es) X.env = (false, eval e X.env) :: starEach es X.env := by rfl) (hpl : (backTo pos (starEach es X.env)).any (·.1) = false := by rfl) :
    PE X (.Call (.Name x p) (e :: es) [] pos) (tMake C sp dvs E t) := by
  intro pins s σ H Q I h
  refine wpAny_Call_Name_kw (ld_glob I hg hm ?_ hdb)
  refine PySem.W.callWith_K (h₀ := X.base) I.ok.mod.kin M.kp (thn (ha pos pins s σ H _ I h) fun us s1 ⟨vs, H1, I1, r, q⟩ => ⟨I1.kIn, ?_⟩) he hpl
  exact run_make M F hr hb hd hx I1 r q
theorem pe_make0 (M : Mk X.K C f) (F : FnOk X.prog X.w X.K X.mg X.base CX k f fd ps sp) (hr : Room (k + 1) X.A) (hg : Gl X x) (hm : X.mg x = some (.ref C)) (hb : Binds X.K fd ps ds) (hd : Vals dvs ds) (hx : Passes CX X E)
    (hdb : (x == ("__debug__" : Str)) = false := by decide) : PE X (.Call (.Name x p) [] [] pos) (tMake C sp dvs E tNil) := by
  intro pins s σ H Q I h
  refine wpAny_Call_Name_kw (ld_glob I hg hm ?_ hdb)
  exact PySem.W.callWith_K0 I.kIn M.kp (run_make (us := []) M F hr hb hd hx I .nil h)
end

/-! ### keywords -/
/-- the values of the keywords, from the left -/
def PK (X : Cx) (kws : List Keyword) (t : TA) : Prop :=
  ∀ (pos : Pos) (pins : List (Addr × Obj)) (s : Shared) (σ : St) (H : Hp) (Q : List V → Hp → Prop), Inv X pins σ H s → t σ H Q → wpAny (model X.prog X.w) X.A (evalAll ((backToKw pos (keywordEach kws X.env)).map (·.2))) (AP X pins σ Q) X.xe s
section
variable {X : Cx} {CX : CXT} {k : Nat} {f C : Addr} {fd : FuncData} {ps ks : List Str} {sp : Sp} {E : XK} {x m : Str} {p pos apos kpos : Pos} {e o : Expr} {es : List Expr} {kws : List Keyword} {te ta : TE} {t tk : TA} {nm : Option Str}
theorem pk_nil : PK X [] tNil := fun _ _ _ _ H Q I h => wpAny_evalAll_nil ⟨[], H, I, .nil, h⟩
theorem pk_cons (ha : PE X e te) (hr : PK X kws t) : PK X (⟨nm, e, kpos⟩ :: kws) (tCons te t) := by
  intro pos pins s σ H Q I h
  show wpAny _ _ (evalAll ((do let v ← eval e X.env; standAt pos; pure v) :: (backToKw pos (keywordEach kws X.env)).map (·.2))) _ _ s
  refine wpAny_evalAll_cons (wpAny_bind (thn (ha pins s σ H _ I h) fun u s1 ⟨x, H1, I1, r1, q1⟩ => wpAny_bind (wpAny_standAt (wpAny_pure ?_))))
  exact thn (hr pos pins s1 σ H1 _ I1 q1) fun us s2 ⟨xs, H2, I2, r2, q2⟩ => ⟨x :: xs, H2, I2, .cons r1 r2, q2⟩

/-- how a call with keywords binds: g puts the positional values us and the keywords' values ws (names ks) in the parameters' order, defaults among them -/
structure KBinds (K : PySem.W.Frag) (fd : FuncData) (ps ks : List Str) (g : List Value → List Value → List Value) (gV : List V → List V → List V) : Prop where
  to : ∀ (s : Shared) (us ws : List Value), K.In s.heap → (g us ws).length = ps.length → BindsTo s fd ⟨us, ks.zip ws⟩ (ps.zip (g us ws))
  rel : ∀ {vs : List V} {us : List Value} {zs : List V} {ws : List Value}, Vals vs us → Vals zs ws → Vals (gV vs zs) (g us ws)
def tCallK (sp : Sp) (gV : List V → List V → List V) (E : XK) (t tk : TA) : TE := fun σ H Q => t σ H fun vs H1 => tk σ H1 fun zs H2 => sp (gV vs zs) H2 Q E
variable {g : List Value → List Value → List Value} {gV : List V → List V → List V}
theorem run_fnk {pins : List (Addr × Obj)} {σ : St} {H : Hp} {s : Shared} {Q : VK} {us ws : List Value} {vs zs : List V} (F : FnOk X.prog X.w X.K X.mg X.base CX k f fd ps sp) (hr : Room k X.A) (hb : KBinds X.K fd ps ks g gV) (hx : Passes CX X E)
    (I : Inv X pins σ H s) (r : Vals vs us) (rz : Vals zs ws) (h : sp (gV vs zs) H Q E) : wpAny (model X.prog X.w) X.A (call (.ref f) us (ks.zip ws)) (EP X pins σ Q) X.xe s := by
  have r2 := hb.rel r rz
  have hl : (g us ws).length = ps.length := by rw [← r2.length]; exact F.len _ _ _ _ h
  refine wpAny_call (codeAny_mono (F.run X.A X.stack s H ⟨us, ks.zip ws⟩ (g us ws) (gV vs zs) Q E hr I.env0 (hb.to s us ws I.kIn hl) r2 h) fun r s' hq => ?_)
  cases r with
  | error e => exact hx pins σ H s e s' I hq
  | ok fl =>
    cases fl with
    | ret u => exact I.after hq
    | next => exact False.elim hq
    | brk => exact False.elim hq
    | cont => exact False.elim hq
/-- f(e, .., k = v, ..) -/
theorem pe_callK (F : FnOk X.prog X.w X.K X.mg X.base CX k f fd ps sp) (hr : Room k X.A) (hg : Gl X x) (hm : X.mg x = some (.ref f)) (hk : PySem.W.keepIn X.K (.ref f) = true) (hb : KBinds X.K fd ps ks g gV) (hx : Passes CX X E)
    (ha : PA X (e :: es) t) (hkw : PK X kws tk) (hall : (backToKw pos (keywordEach kws X.env)).all (·.1.isSome) = true := by rfl) (hks : (backToKw pos (keywordEach kws X.env)).filterMap (·.1) = ks := by rfl)
    (hdb : (x == ("__debug__" : Str)) = false := by decide) (he : starEach (e :: es) X.env = (false, eval e X.env) :: starEach es X.env := by rfl)
    (hpl : ((backTo pos (starEach (e :: es) X.env)).any (·.1) || (backToKw pos (keywordEach kws X.env)).any (·.1.isNone)) = false := by rfl) :
    PE X (.Call (.Name x p) (e :: es) kws pos) (tCallK sp gV E t tk) := by
  intro pins s σ H Q I h
  refine wpAny_Call_Name_kw (ld_glob I hg hm ?_ hdb)
  refine PySem.W.callWith_KW (h₀ := X.base) I.ok.mod.kin hk hall (thn (ha pos pins s σ H _ I h) fun us s1 ⟨vs, H1, I1, r, q⟩ => ?_) hpl he
  refine thn (hkw pos pins s1 σ H1 _ I1 q) fun ws s2 ⟨zs, H2, I2, rz, q2⟩ => ⟨I2.kIn, ?_⟩
  rw [hks]
  exact run_fnk F hr hb hx I2 r rz q2
end

/-! ### a def's body keeps its promise -/
/-- names: the parameters first -/
structure FnScope (N P : List Str) (sc : Scope) : Prop where
  kind : sc.kind = .function
  co : sc.isCoroutine = false
  gen : sc.isGenerator = false
  nd : N.Nodup
  pre : N.take P.length = P
  par : ∀ x ∈ P, sc.names.lookup x = some .local ∨ sc.names.lookup x = some .cell
  nofree : ∀ y ∈ sc.names, y.2 ≠ .free

theorem bindL_out {kindOf : Str → Option NameKind} {x : Str} : ∀ {binds : List (Str × Value)} {m : Str → Option Value}, (∀ v, (x, v) ∉ binds) → bindL kindOf binds m x = m x
  | [], _, _ => rfl
  | (n, v) :: r, m, h => by
    unfold bindL
    rw [bindL_out fun w hw => h w (List.mem_cons_of_mem _ hw)]
    split
    · have : x ≠ n := by rintro rfl; exact h v List.mem_cons_self
      simp [this]
    · rfl
theorem bindC_out {kindOf : Str → Option NameKind} {x : Str} : ∀ {binds : List (Str × Value)} {m : Str → Option Value}, (∀ v, (x, v) ∉ binds) → bindC kindOf binds m x = m x
  | [], _, _ => rfl
  | (n, v) :: r, m, h => by
    unfold bindC
    rw [bindC_out fun w hw => h w (List.mem_cons_of_mem _ hw)]
    split
    · rfl
    · have : x ≠ n := by rintro rfl; exact h v List.mem_cons_self
      simp [this]
theorem bindL_get {kindOf : Str → Option NameKind} {x : Str} {v : Value} : ∀ {P : List Str} {vs : List Value} {i : Nat} {m : Str → Option Value}, P.Nodup → P[i]? = some x → vs[i]? = some v → kindOf x = some .local →
    bindL kindOf (P.zip vs) m x = some v
  | [], _, _, _, _, h, _, _ => by simp at h
  | _ :: _, [], _, _, _, _, h, _ => by simp at h
  | p :: P, w :: vs, 0, m, nd, h1, h2, hk => by
    simp at h1 h2; subst h1; subst h2
    show bindL kindOf ((p, w) :: P.zip vs) m p = _
    unfold bindL
    rw [bindL_out fun v hv => (List.nodup_cons.mp nd).1 (List.of_mem_zip hv).1, if_pos hk]
    simp
  | p :: P, w :: vs, i + 1, m, nd, h1, h2, hk => by
    show bindL kindOf ((p, w) :: P.zip vs) m x = _
    unfold bindL
    exact bindL_get (i := i) (List.nodup_cons.mp nd).2 (by simpa using h1) (by simpa using h2) hk
theorem bindC_get {kindOf : Str → Option NameKind} {x : Str} {v : Value} : ∀ {P : List Str} {vs : List Value} {i : Nat} {m : Str → Option Value}, P.Nodup → P[i]? = some x → vs[i]? = some v → kindOf x ≠ some .local →
    bindC kindOf (P.zip vs) m x = some v
  | [], _, _, _, _, h, _, _ => by simp at h
  | _ :: _, [], _, _, _, _, h, _ => by simp at h
  | p :: P, w :: vs, 0, m, nd, h1, h2, hk => by
    simp at h1 h2; subst h1; subst h2
    show bindC kindOf ((p, w) :: P.zip vs) m p = _
    unfold bindC
    rw [bindC_out fun v hv => (List.nodup_cons.mp nd).1 (List.of_mem_zip hv).1, if_neg hk]
    simp
  | p :: P, w :: vs, i + 1, m, nd, h1, h2, hk => by
    show bindC kindOf ((p, w) :: P.zip vs) m x = _
    unfold bindC
    exact bindC_get (i := i) (List.nodup_cons.mp nd).2 (by simpa using h1) (by simpa using h2) hk

/-- the names' values at the entry -/
def start (N : List Str) (vs : List V) : St := vs.map some ++ List.replicate (N.length - vs.length) none

/-- the context of a def's body, at its entry; an exception leaves the frame, then lies as CX says -/
def cxOf (CX : CXT) (P : Program) (w : World) (K : PySem.W.Frag) (mg : Str → Option Value) (base : Heap) (N : List Str) (qual : Str) (scope : Scope) (f : Addr) (cd : Value) (A : Around) (outer : List Env) (s : Shared) (H : Hp) (E : XK) : Cx where
  prog := P
  w := w
  K := K
  mg := mg
  base := base
  A := A.deeper (envOfC qual scope s.heap.objs.size f cd)
  N := N
  s₀ := s
  H₀ := H
  env := envOfC qual scope s.heap.objs.size f cd
  outer := outer
  stack := envOfC qual scope s.heap.objs.size f cd :: outer
  ex := []
  calm := true
  fn := fun _ => true
  pn := []
  xe := fun e s' => wpAny (model P w) (A.deeper (envOfC qual scope s.heap.objs.size f cd)) (leaving (envOfC qual scope s.heap.objs.size f cd) e) (fun _ s'' => CX outer H s E e s'') (fun e' s'' => CX outer H s E e' s'') s'

theorem cell_has {sc : Scope} {n : Nat} {x : Str} (h : sc.names.lookup x = some .cell) : ∃ c, (cellsFrom n sc.names []).lookup x = some c := by
  have q := PySem.W.cellsFrom_some sc.names n [] (.inl h)
  exact Option.isSome_iff_exists.mp q

theorem inv_start {CX : CXT} {P : Program} {w : World} {K : PySem.W.Frag} {mg : Str → Option Value} {base : Heap} {N ps : List Str} {qual : Str} {scope : Scope} {f : Addr} {cd : Value} {A : Around} {outer : List Env} {s s1 : Shared} {H : Hp} {E : XK} {us : List Value} {vs : List V}
    (S : FnScope N ps scope) (hd : A.handled = none) (e0 : Env0 P w K mg base A outer s H) (hl : vs.length = ps.length) (r : Vals vs us)
    (x : InCallC s s.heap.objs.size (bindL (envOfC qual scope s.heap.objs.size f cd).kindOf (ps.zip us) fun _ => none) (cellsFrom (s.heap.objs.size + 1) scope.names []) (bindC (envOfC qual scope s.heap.objs.size f cd).kindOf (ps.zip us) fun _ => none) s1) :
    Inv (cxOf CX P w K mg base N qual scope f cd A outer s H E) [] (start N vs) H s1 := by
  have hpl : ps.length ≤ N.length := by have := congrArg List.length S.pre; rw [List.length_take] at this; omega
  obtain ⟨h1, tk, rfl, hk⟩ := x.done
  have noA : ∀ b : Addr, b ∉ (cxOf CX P w K mg base N qual scope f cd A outer s H E).ex := fun b z => absurd (show b ∈ ([] : List Addr) from z) (by simp)
  refine ⟨⟨e0.mod, S.kind, rfl, rfl, Nat.le_refl _, fun y z c h1 h2 => ?_, fun y hy => ?_, fun y c _ h => ?_, fun _ => hd, Around.frames_deeper e0.frames, .inr ⟨rfl, rfl⟩, fun b z => absurd z (noA b), e0.bs, e0.bsz, fun b _ _ => noA b, fun b z => absurd z (noA b), e0.funs, e0.frf⟩,
    rfl, e0.bare, Un.kept hk, ⟨_, x.toInCall.ns, fun i y v h1 h2 h3 => ?_⟩, fun y c h => ⟨_, x.cell y c h⟩, e0.hok.fresh (Nat.le_refl _), fun y c h => ?_, fun p hp => absurd (show p ∈ ([] : List (Addr × Obj)) from hp) (by simp), e0.hok.kept hk, ?_⟩
  · exact name_of_addr x.apart (PySem.mem_of_lookup h1) (PySem.mem_of_lookup h2)
  · have hy : scope.names.lookup y = some .cell ∨ scope.names.lookup y = some .free := hy
    rcases hy with hy | hy
    · exact cell_has hy
    · exact absurd rfl (S.nofree _ (PySem.mem_of_lookup hy))
  · exact Nat.le_of_lt (x.above y c (PySem.mem_of_lookup h))
  · have hi : i < vs.length := by
      unfold start at h2
      by_cases hi : i < vs.length
      · exact hi
      · rw [List.getElem?_append_right (by simpa using hi)] at h2
        rw [List.getElem?_replicate] at h2
        split at h2 <;> cases h2
    have ha : vs[i]? = some v := by
      unfold start at h2
      rw [List.getElem?_append_left (by simpa using hi), List.getElem?_map] at h2
      cases e : vs[i]? with
      | none => rw [e] at h2; cases h2
      | some a => rw [e] at h2; cases h2; rfl
    obtain ⟨u, hu, rv⟩ := r.get ha
    have hp : ps[i]? = some y := by
      rw [← S.pre, List.getElem?_take_of_lt (by omega)]; exact h1
    have ndP : ps.Nodup := by rw [← S.pre]; exact S.nd.sublist (List.take_sublist _ _)
    refine ⟨u, rv, ?_⟩
    rcases S.par y (List.mem_of_getElem? hp) with k | k
    · exact .inl ⟨k, bindL_get ndP hp hu k⟩
    · obtain ⟨c, e⟩ := cell_has (n := s.heap.objs.size + 1) k
      refine .inr ⟨.inl k, c, e, ?_⟩
      have q := x.cell y c e
      rw [bindC_get ndP hp hu (by show scope.names.lookup y ≠ _; rw [k]; decide)] at q
      exact q
  · exact e0.hok.fresh (Nat.le_of_lt (x.above y c (PySem.mem_of_lookup h)))
  · unfold start
    show _ = N.length
    rw [List.length_append, List.length_map, List.length_replicate]
    omega

/-- THE RULE: a def (or a method) of the text, by its body. The body's reading t is chosen for each entry; it is run at the parameters' values -/
theorem fn_of {CX : CXT} {P : Program} {w : World} {K : PySem.W.Frag} {mg : Str → Option Value} {base : Heap} {k : Nat} {f : Addr} {name qual : Str} {params : Arguments} {body : List Stmt} {scope : Scope} {dV kV doc pm cdv ct oc : Value} {an od : Option Addr}
    {osl : Array (Option Value)} {N ps : List Str} {sp : Sp} (lk : K.lookup f = some ⟨oc, od, .func (PySem.W.fnOf name qual params body scope dV kV doc pm an cdv ct), osl⟩) (hcd : PySem.W.codeIn K cdv qual = true) (S : FnScope N ps scope)
    (len : ∀ vs H Q E, sp vs H Q E → vs.length = ps.length)
    (hbody : ∀ (A : Around) (outer : List Env) (s : Shared) (H : Hp) (vs : List V) (Q : VK) (E : XK), Room k (A.deeper (envOfC qual scope s.heap.objs.size f cdv)) → sp vs H Q E →
      ∃ t, PSs (cxOf CX P w K mg base N qual scope f cdv A outer s H E) body t ∧ t { nx := fun _ H' => Q .non H', rt := Q } (start N vs) H) :
    FnOk P w K mg base CX (k + 1) f (PySem.W.fnOf name qual params body scope dV kV doc pm an cdv ct) ps sp := by
  refine ⟨len, fun A outer s H args us vs Q E hr e0 hb r hsp => ?_⟩
  have hl := len _ _ _ _ hsp
  have KX : K.In s.heap := e0.mod.kin.keeps fun b o e => (e0.bs b o e).1
  have lim : s.heap.NoLimit := e0.mod.nolimit.keeps fun b o e => (e0.bs b o e).1
  have hkind : ∀ y ∈ ps.zip us, scope.names.lookup y.1 = some .local ∨ (scope.names.lookup y.1 = some .cell ∧ ((cellsFrom (s.heap.objs.size + 1) scope.names []).lookup y.1).isSome = true) := fun ⟨n, v⟩ hy => by
    rcases S.par n (List.of_mem_zip hy).1 with q | q
    · exact .inl q
    · exact .inr ⟨q, PySem.W.cellsFrom_some _ _ _ (.inl q)⟩
  refine codeAny_call_function hr.depth (KX _ _ lk) rfl S.co S.gen rfl (PySem.W.codeRec_of KX hcd) (hb _ _ _ _ ?_)
  refine wpAny_newFunctionEnv_cells S.kind hkind fun env he s1 x => ?_
  subst he
  refine ⟨lim.keeps x.toInCall.keep, codeAny_func ?_⟩
  obtain ⟨t, ht, hq⟩ := hbody A outer s H vs Q E (hr.deeper _) hsp
  have I : Inv (cxOf CX P w K mg base N qual scope f cdv A outer s H E) [] (start N vs) H s1 := inv_start S hr.hd e0 hl r x
  refine wpAny_mono (ht [] s1 (start N vs) H _ I hq) (fun fl s' hs => ?_) fun e s' hs => hs
  have fin : ∀ {σ' : St} {H' : Hp} {v : V} {u : Value}, Inv (cxOf CX P w K mg base N qual scope f cdv A outer s H E) [] σ' H' s' → RelV v u → Q v H' → CE outer P w H s Q u s' :=
    fun {σ' H' v u} J rv q => ⟨v, H', J.os, J.bare, J.base, J.hok, rv, q⟩
  cases fl with
  | ret u =>
    obtain ⟨v, σ', H', J, rv, q⟩ := hs
    exact fin J rv q
  | next =>
    obtain ⟨σ', H', J, q⟩ := hs
    exact fin (v := V.non) (u := Value.none) J rfl q
  | brk =>
    obtain ⟨_, _, _, q⟩ := hs
    exact False.elim q
  | cont =>
    obtain ⟨_, _, _, q⟩ := hs
    exact False.elim q
end L2

namespace L2
open PySem PySem.Spec PyProof.Rows
section
variable {X : Cx} {x : Str} {p pos : Pos} {e : Expr} {es : List Expr} {t : TA} {id T : String} {r : List V → Hp → VK → Prop}

def tCB (r : List V → Hp → VK → Prop) (t : TA) : TE := fun σ H Q => t σ H fun vs H1 => r vs H1 Q
/-- f(e, ..), f a built-in function -/
theorem pe_callB (hc : CallR X (.builtin id) r) (hg : Gl X x) (hm : X.mg x = none) (hv : bootBuiltins x = some (.builtin id)) (ha : PA X (e :: es) t) (hn : x ≠ "__name__" := by decide) (hdb : (x == ("__debug__" : Str)) = false := by decide)
    (he : starEach (e :: es) X.env = (false, eval e X.env) :: starEach es X.env := by rfl) (hpl : (backTo pos (starEach es X.env)).any (·.1) = false := by rfl) : PE X (.Call (.Name x p) (e :: es) [] pos) (tCB r t) := by
  intro pins s σ H Q I h
  refine wpAny_Call_Name_kw (ld_blt I hg hm hv ?_ hn hdb)
  exact PyProof.Rows.callWith_builtin1 (thn (ha pos pins s σ H _ I h) fun us s1 ⟨vs, H1, I1, r1, q1⟩ => hc pins s1 σ H1 vs us Q I1 r1 q1) he hpl
/-- T(e, ..), T a built-in type -/
theorem pe_callTy (hc : CallR X (.type T) r) (hg : Gl X x) (hm : X.mg x = none) (hv : bootBuiltins x = some (.type T)) (ha : PA X (e :: es) t) (hn : x ≠ "__name__" := by decide) (hdb : (x == ("__debug__" : Str)) = false := by decide)
    (he : starEach (e :: es) X.env = (false, eval e X.env) :: starEach es X.env := by rfl) (hpl : (backTo pos (starEach es X.env)).any (·.1) = false := by rfl) : PE X (.Call (.Name x p) (e :: es) [] pos) (tCB r t) := by
  intro pins s σ H Q I h
  refine wpAny_Call_Name_kw (ld_blt I hg hm hv ?_ hn hdb)
  exact PyProof.Rows.callWith_type1 (thn (ha pos pins s σ H _ I h) fun us s1 ⟨vs, H1, I1, r1, q1⟩ => hc pins s1 σ H1 vs us Q I1 r1 q1) he hpl
/-- T() -/
theorem pe_callTy0 (hc : CallR X (.type T) r) (hg : Gl X x) (hm : X.mg x = none) (hv : bootBuiltins x = some (.type T)) (hn : x ≠ "__name__" := by decide) (hdb : (x == ("__debug__" : Str)) = false := by decide) :
    PE X (.Call (.Name x p) [] [] pos) (tCB r tNil) := by
  intro pins s σ H Q I h
  refine wpAny_Call_Name_kw (ld_blt I hg hm hv ?_ hn hdb)
  exact PyProof.Rows.callWith_type0 (hc pins s σ H [] [] Q I .nil h)
end
end L2
namespace L2
open PySem PySem.Spec PyProof.Rows

/-! ### lists of pairs as tables -/
section
variable {κ : Type} [DecidableEq κ]
def valV (kvs : List (κ × V)) (k : κ) : Option V := (kvs.find? fun kv => decide (kv.1 = k)).map (·.2)
/-- in its place, or at the end -/
def putK (kvs : List (κ × V)) (k : κ) (v : V) : List (κ × V) :=
  if (kvs.any fun kv => decide (kv.1 = k)) = true then kvs.map (fun kv => if kv.1 = k then (kv.1, v) else kv) else kvs ++ [(k, v)]
def dropK (kvs : List (κ × V)) (k : κ) : List (κ × V) := kvs.filter fun kv => decide (kv.1 ≠ k)

theorem valV_nil {k : κ} : valV ([] : List (κ × V)) k = none := rfl
theorem valV_pos {p : κ × V} {r : List (κ × V)} {k : κ} (e : p.1 = k) : valV (p :: r) k = some p.2 := by simp [valV, List.find?_cons, e]
theorem valV_neg {p : κ × V} {r : List (κ × V)} {k : κ} (e : ¬ p.1 = k) : valV (p :: r) k = valV r k := by simp [valV, List.find?_cons, e]
theorem valV_any (k : κ) : ∀ kvs : List (κ × V), (kvs.any fun kv => decide (kv.1 = k)) = (valV kvs k).isSome
  | [] => rfl
  | p :: r => by
    rw [List.any_cons]
    by_cases e : p.1 = k
    · simp only [valV_pos e, decide_eq_true e, Bool.true_or, Option.isSome_some]
    · rw [valV_neg e, decide_eq_false e, Bool.false_or]; exact valV_any k r
theorem valV_map (k j : κ) (y : V) : ∀ kvs : List (κ × V), valV (kvs.map fun kv => if kv.1 = k then (kv.1, y) else kv) j = (valV kvs j).map fun x => if j = k then y else x
  | [] => rfl
  | p :: r => by
    have ih := valV_map k j y r
    rw [List.map_cons]
    by_cases h : p.1 = k
    · rw [if_pos h]
      by_cases e : p.1 = j
      · rw [valV_pos (p := (p.1, y)) e, valV_pos e, Option.map_some, if_pos (e.symm.trans h)]
      · rw [valV_neg (p := (p.1, y)) e, valV_neg e, ih]
    · rw [if_neg h]
      by_cases e : p.1 = j
      · rw [valV_pos (p := p) e, valV_pos e, Option.map_some, if_neg (fun z => h (e.trans z))]
      · rw [valV_neg (p := p) e, valV_neg e, ih]
theorem valV_snoc (k j : κ) (y : V) : ∀ kvs : List (κ × V), valV kvs k = none → valV (kvs ++ [(k, y)]) j = if j = k then some y else valV kvs j
  | [], _ => by
    by_cases e : k = j
    · rw [if_pos e.symm]; exact valV_pos (p := (k, y)) e
    · rw [if_neg (fun z => e z.symm)]; exact valV_neg (p := (k, y)) e
  | p :: r, hn => by
    rw [List.cons_append]
    have hk : ¬ p.1 = k := fun z => by rw [valV_pos z] at hn; cases hn
    rw [valV_neg hk] at hn
    have ih := valV_snoc k j y r hn
    by_cases e : p.1 = j
    · rw [valV_pos e, valV_pos e, if_neg (fun z => hk (e.trans z))]
    · rw [valV_neg e, valV_neg e, ih]
theorem valV_put (kvs : List (κ × V)) (k j : κ) (y : V) : valV (putK kvs k y) j = if j = k then some y else valV kvs j := by
  unfold putK
  by_cases a : (kvs.any fun kv => decide (kv.1 = k)) = true
  · rw [if_pos a, valV_map]
    rw [valV_any] at a
    by_cases e : j = k
    · obtain ⟨x, hx⟩ := Option.isSome_iff_exists.mp a
      rw [if_pos e, e, hx, Option.map_some, if_pos rfl]
    · rw [if_neg e]
      cases valV kvs j with
      | none => rfl
      | some x => rw [Option.map_some, if_neg e]
  · rw [if_neg a]
    refine valV_snoc k j y kvs ?_
    rw [valV_any] at a
    cases q : valV kvs k with
    | none => rfl
    | some x => rw [q] at a; exact (a rfl).elim
theorem length_putK (kvs : List (κ × V)) (k : κ) (v : V) : (putK kvs k v).length ≤ kvs.length + 1 := by
  unfold putK
  split
  · rw [List.length_map]; omega
  · rw [List.length_append, List.length_cons, List.length_nil]; omega
theorem putK_new {kvs : List (κ × V)} {k : κ} (v : V) (h : valV kvs k = none) : putK kvs k v = kvs ++ [(k, v)] := by
  unfold putK
  rw [valV_any, h]
  exact if_neg (by decide)

theorem RelO.isSome_eq {o : Option V} {u : Option Value} (r : RelO o u) : o.isSome = u.isSome := by
  cases o with
  | none => cases u with
    | none => rfl
    | some _ => exact (show False from r).elim
  | some _ => cases u with
    | none => exact (show False from r).elim
    | some _ => rfl
theorem RelO.getD {o : Option V} {u : Option Value} {d : V} {d' : Value} (r : RelO o u) (rd : RelV d d') : RelV (o.getD d) (u.getD d') := by
  cases o with
  | none => cases u with
    | none => exact rd
    | some _ => exact (show False from r).elim
  | some _ => cases u with
    | none => exact (show False from r).elim
    | some _ => exact r

/-- raw tables of the same keys -/
theorem KV.val {kvs : List (κ × V)} {vs : List (κ × Value)} (r : KV kvs vs) (k : κ) : RelO (valV kvs k) (valueAt vs k) := by
  unfold KV at r
  induction r with
  | nil => exact True.intro
  | @cons p q ps qs h t ih =>
    obtain ⟨h1, h2⟩ := h
    by_cases e : p.1 = k
    · have e' : q.1 = k := h1.symm.trans e
      have b : valueAt (q :: qs) k = some q.2 := by simp [valueAt, List.find?_cons, e']
      rw [valV_pos e, b]; exact h2
    · have e' : ¬ q.1 = k := fun z => e (h1.trans z)
      have b : valueAt (q :: qs) k = valueAt qs k := by simp [valueAt, List.find?_cons, e']
      rw [valV_neg e, b]; exact ih
theorem KV.any {kvs : List (κ × V)} {vs : List (κ × Value)} (r : KV kvs vs) (k : κ) : (kvs.any fun kv => decide (kv.1 = k)) = vs.any fun kv => decide (kv.1 = k) := by
  unfold KV at r
  induction r with
  | nil => rfl
  | cons h t ih => rw [List.any_cons, List.any_cons, ih, h.1]
theorem KV.repl {kvs : List (κ × V)} {vs : List (κ × Value)} (r : KV kvs vs) (k : κ) {y : V} {u : Value} (ry : RelV y u) :
    KV (kvs.map fun kv => if kv.1 = k then (kv.1, y) else kv) (vs.map fun kv => if kv.1 = k then (kv.1, u) else kv) := by
  unfold KV at r ⊢
  induction r with
  | nil => exact .nil
  | @cons p q ps qs h t ih =>
    rw [List.map_cons, List.map_cons]
    refine .cons ?_ ih
    obtain ⟨h1, h2⟩ := h
    by_cases e : p.1 = k
    · rw [if_pos e, if_pos (h1.symm.trans e)]; exact ⟨h1, ry⟩
    · rw [if_neg e, if_neg (fun z => e (h1.trans z))]; exact ⟨h1, h2⟩
theorem KV.put {kvs : List (κ × V)} {vs : List (κ × Value)} (r : KV kvs vs) (k : κ) {y : V} {u : Value} (ry : RelV y u) : KV (putK kvs k y) (stored vs k u) := by
  unfold putK stored
  rw [r.any k]
  by_cases e : (vs.any fun kv => decide (kv.1 = k)) = true
  · rw [if_pos e, if_pos e]; exact r.repl k ry
  · rw [if_neg e, if_neg e]; exact Paired.snoc r ⟨rfl, ry⟩
theorem KV.drop {kvs : List (κ × V)} {vs : List (κ × Value)} (r : KV kvs vs) (k : κ) : KV (dropK kvs k) (without vs k) := by
  unfold KV at r ⊢
  unfold dropK without
  induction r with
  | nil => exact .nil
  | @cons p q ps qs h t ih =>
    obtain ⟨h1, h2⟩ := h
    rw [List.filter_cons, List.filter_cons]
    by_cases e : p.1 = k
    · have a : ¬ decide (p.1 ≠ k) = true := by simp [e]
      have b : ¬ decide (q.1 ≠ k) = true := by simp [h1.symm.trans e]
      rw [if_neg a, if_neg b]; exact ih
    · have e' : ¬ q.1 = k := fun z => e (h1.trans z)
      have a : decide (p.1 ≠ k) = true := by simp [e]
      have b : decide (q.1 ≠ k) = true := by simp [e']
      rw [if_pos a, if_pos b]; exact .cons ⟨h1, h2⟩ ih
theorem KV.keys {kvs : List (κ × V)} {vs : List (κ × Value)} (r : KV kvs vs) : kvs.map (·.1) = vs.map (·.1) := by
  unfold KV at r
  induction r with
  | nil => rfl
  | cons h t ih => rw [List.map_cons, List.map_cons, ih, h.1]
theorem KV.length {kvs : List (κ × V)} {vs : List (κ × Value)} (r : KV kvs vs) : kvs.length = vs.length := Paired.length r
theorem dropK_le (kvs : List (κ × V)) (k : κ) : (dropK kvs k).length ≤ kvs.length := List.length_filter_le _ _
end


/-! ### a tracked dict, its keys ints and texts or tuples of these -/
theorem kV_is {P : Program} {w : World} {k : Key} {u : Value} (r : RelV (kV k) u) : (mixKind P w).is k u = true := by
  cases k with
  | inl i => obtain ⟨t, e⟩ := (show ∃ t, u = Value.int i t from r); subst e; exact mixKind_int P w i t
  | inr x => obtain ⟨t, e⟩ := (show ∃ t, u = Value.str x t from r); subst e; exact mixKind_str P w x t
theorem kV_inj {a b : Key} (e : kV a = kV b) : a = b := by
  cases a with
  | inl i => cases b with
    | inl j => have e' : V.int i = V.int j := e; injection e' with e'; rw [e']
    | inr y => exact nomatch (show V.int i = V.str y from e)
  | inr x => cases b with
    | inl j => exact nomatch (show V.str x = V.int j from e)
    | inr y => have e' : V.str x = V.str y := e; injection e' with e'; rw [e']
theorem kVs_inj : ∀ {a b : List Key}, a.map kV = b.map kV → a = b
  | [], [], _ => rfl
  | [], _ :: _, e => by simp at e
  | _ :: _, [], e => by simp at e
  | x :: xs, y :: ys, e => by
    rw [List.map_cons, List.map_cons] at e
    injection e with e1 e2
    rw [kV_inj e1, kVs_inj e2]
theorem items_are {P : Program} {w : World} : ∀ {ks : List Key} {us : List Value}, Vals (ks.map kV) us → ItemsAre (mixKind P w) ks us
  | [], _, r => by rw [List.map_nil] at r; cases r; exact .nil
  | k :: ks, _, r => by
    rw [List.map_cons] at r
    cases r with
    | cons h t => exact .cons (kV_is h) (items_are t)

/-- raw entries of a dict with tuple keys -/
abbrev KT (H : Hp) : List (List Key × V) → List (List Key × Addr × Value) → Prop := Paired fun p q => p.1 = q.1 ∧ H q.2.1 = some (.tup (p.1.map kV)) ∧ RelV p.2 q.2.2
theorem KT.val {H : Hp} {kvs : List (List Key × V)} {xs : List (List Key × Addr × Value)} (r : KT H kvs xs) (k : List Key) : RelO (valV kvs k) ((atKey xs k).map (·.2)) := by
  induction r with
  | nil => exact True.intro
  | @cons p q ps qs h t ih =>
    obtain ⟨h1, _, h2⟩ := h
    by_cases e : p.1 = k
    · have e' : q.1 = k := h1.symm.trans e
      have b : atKey (q :: qs) k = some q.2 := by simp [atKey, List.find?_cons, e']
      rw [valV_pos e, b]; exact h2
    · have e' : ¬ q.1 = k := fun z => e (h1.trans z)
      have b : atKey (q :: qs) k = atKey qs k := by simp [atKey, List.find?_cons, e']
      rw [valV_neg e, b]; exact ih
theorem KT.repl {H : Hp} {kvs : List (List Key × V)} {xs : List (List Key × Addr × Value)} (r : KT H kvs xs) (k : List Key) {y : V} {u : Value} (ry : RelV y u) :
    KT H (kvs.map fun kv => if kv.1 = k then (kv.1, y) else kv) (xs.map (putAt k u)) := by
  induction r with
  | nil => exact .nil
  | @cons p q ps qs h t ih =>
    rw [List.map_cons, List.map_cons]
    refine .cons ?_ ih
    obtain ⟨h1, h2, h3⟩ := h
    unfold putAt
    by_cases e : p.1 = k
    · rw [if_pos e, if_pos (h1.symm.trans e)]; exact ⟨h1, h2, ry⟩
    · rw [if_neg e, if_neg (fun z => e (h1.trans z))]; exact ⟨h1, h2, h3⟩
theorem KT.put {H : Hp} {kvs : List (List Key × V)} {xs : List (List Key × Addr × Value)} (r : KT H kvs xs) (k : List Key) {b : Addr} {y : V} {u : Value} (hb : H b = some (.tup (k.map kV))) (ry : RelV y u) :
    KT H (putK kvs k y) (storedH xs k b u) := by
  have e : (kvs.any fun kv => decide (kv.1 = k)) = (atKey xs k).isSome := by
    rw [valV_any, (r.val k).isSome_eq, Option.isSome_map]
  unfold putK storedH
  rw [e]
  by_cases q : (atKey xs k).isSome = true
  · rw [if_pos q, if_pos q]; exact r.repl k ry
  · rw [if_neg q, if_neg q]; exact Paired.snoc r ⟨rfl, hb, ry⟩
theorem KT.keeps {H H' : Hp} {kvs : List (List Key × V)} {xs : List (List Key × Addr × Value)} (r : KT H kvs xs) (ht : ∀ b ys, H b = some (.tup ys) → H' b = some (.tup ys)) : KT H' kvs xs :=
  Paired.mapP r fun _ _ z => ⟨z.1, ht _ _ z.2.1, z.2.2⟩

section
variable {P : Program} {w : World} {H : Hp} {h : Heap} {a : Addr}
theorem rd_of {u : HO} (ok : HOk P w H h) (e : Rd H a u) : ObjOk P w H h a u := e.ok ok
theorem dk_rd {kvs : List (Key × V)} (ok : HOk P w H h) (e : Rd H a (.dK kvs)) : kvs.length ≤ sizeLine ∧ (a == sysModules) = false ∧ ∃ vs, KV kvs vs ∧ h.DictOf (mixKind P w) a vs :=
  show ObjOk P w H h a (.dK kvs) from rd_of ok e
theorem dk_of {kvs : List (Key × V)} (ok : HOk P w H h) (e : H a = some (.dK kvs)) : kvs.length ≤ sizeLine ∧ (a == sysModules) = false ∧ ∃ vs, KV kvs vs ∧ h.DictOf (mixKind P w) a vs := dk_rd ok (.inl e)
/-- a tracked tuple of ints and texts is a key -/
theorem key_of {ks : List Key} (ok : HOk P w H h) (e : H a = some (.tup (ks.map kV))) : (tupleKind (mixKind P w)).is h ks a := by
  obtain ⟨_, its, r, o, h1, h2, n, h3⟩ := (show ObjOk P w H h a (.tup (ks.map kV)) from ok a _ e)
  exact ⟨o, its.toArray, n, h1, h2, h3, by simpa using items_are r⟩
theorem dt_rd {kvs : List (List Key × V)} (ok : HOk P w H h) (e : Rd H a (.dT kvs)) : kvs.length ≤ sizeLine ∧ (a == sysModules) = false ∧
    ∃ xs, KT H kvs xs ∧ h.DictOfH (tupleKind (mixKind P w)) a xs := by
  obtain ⟨z, y, xs, r, o, es, ep, h1, h2, h3, h4, h5⟩ := (show ObjOk P w H h a (.dT kvs) from rd_of ok e)
  refine ⟨z, y, xs, r, o, es, ep, h1, h2, h3, h4, fun x hx => ?_, h5⟩
  have all : ∀ {l : List (List Key × V)} {m : List (List Key × Addr × Value)}, KT H l m → ∀ x ∈ m, (tupleKind (mixKind P w)).is h x.1 x.2.1 := by
    intro l m q
    induction q with
    | nil => intro x hx; exact nomatch hx
    | @cons p q ps qs hq t ih =>
      intro x hx
      rcases List.mem_cons.mp hx with e | hx
      · subst e
        exact key_of ok (by rw [← hq.1]; exact hq.2.1)
      · exact ih x hx
  exact all r x hx
theorem dt_of {kvs : List (List Key × V)} (ok : HOk P w H h) (e : H a = some (.dT kvs)) : kvs.length ≤ sizeLine ∧ (a == sysModules) = false ∧
    ∃ xs, KT H kvs xs ∧ h.DictOfH (tupleKind (mixKind P w)) a xs := dt_rd ok (.inl e)
end

/-- what the dict at a holds at the key y -/
def DGet (H : Hp) (a : Addr) (y : V) (r : Option V) : Prop :=
  (∃ kvs k, Rd H a (.dK kvs) ∧ y = kV k ∧ r = valV kvs k) ∨ ∃ kvs k b, Rd H a (.dT kvs) ∧ y = .ref b ∧ H b = some (.tup (k.map kV)) ∧ r = valV kvs k
/-- the heap behind a[y] = v -/
def DPut (H : Hp) (a : Addr) (y v : V) (H' : Hp) : Prop :=
  (∃ kvs k, H a = some (.dK kvs) ∧ y = kV k ∧ kvs.length < sizeLine ∧ H' = upd H a (.dK (putK kvs k v))) ∨
  ∃ kvs k b, H a = some (.dT kvs) ∧ y = .ref b ∧ H b = some (.tup (k.map kV)) ∧ kvs.length < sizeLine ∧ H' = upd H a (.dT (putK kvs k v))
theorem DGet.k {H : Hp} {a : Addr} {kvs : List (Key × V)} {k : Key} (e : H a = some (.dK kvs)) : DGet H a (kV k) (valV kvs k) := .inl ⟨kvs, k, .inl e, rfl, rfl⟩
theorem DGet.t {H : Hp} {a b : Addr} {kvs : List (List Key × V)} {k : List Key} (e : H a = some (.dT kvs)) (eb : H b = some (.tup (k.map kV))) : DGet H a (.ref b) (valV kvs k) := .inr ⟨kvs, k, b, .inl e, rfl, eb, rfl⟩
theorem DPut.k {H : Hp} {a : Addr} {kvs : List (Key × V)} {k : Key} {v : V} (e : H a = some (.dK kvs)) (hl : kvs.length < sizeLine) : DPut H a (kV k) v (upd H a (.dK (putK kvs k v))) := .inl ⟨kvs, k, e, rfl, hl, rfl⟩
theorem DPut.t {H : Hp} {a b : Addr} {kvs : List (List Key × V)} {k : List Key} {v : V} (e : H a = some (.dT kvs)) (eb : H b = some (.tup (k.map kV))) (hl : kvs.length < sizeLine) :
    DPut H a (.ref b) v (upd H a (.dT (putK kvs k v))) := .inr ⟨kvs, k, b, e, rfl, eb, hl, rfl⟩


section
variable {X : Cx} {pins : List (Addr × Obj)} {σ : St} {H : Hp} {s : Shared} {a : Addr} {y v : V} {u r : Value} {o : Option V} {A : Around} {E : Value → Shared → Prop}

theorem Inv.big (I : Inv X pins σ H s) : sysModules < s.heap.objs.size := by
  have h : mainGlobals < s.heap.objs.size := (I.mod.glob.keeps I.bk).lt
  exact Nat.lt_trans (by decide) h

/-- d[y], there -/
theorem d_getItem {Q : Value → Shared → Prop} (hu : A.units + 1 < cLine) (I : Inv X pins σ H s) (g : DGet H a y (some v)) (ry : RelV y u) (h : ∀ w' s', Inv X pins σ H s' → RelV v w' → Q w' s') :
    wpAny (model X.prog X.w) A (getItem (.ref a) u) Q E s := by
  rcases g with ⟨kvs, k, e, ey, l⟩ | ⟨kvs, k, b, e, ey, eb, l⟩
  · subst ey
    obtain ⟨z, hd, vs, rel, dd⟩ := dk_rd I.hok e
    obtain ⟨w', hw, rw'⟩ := RelO.some_of (v := v) (o := valueAt vs k) (by rw [l]; exact rel.val k)
    exact wpAny_getItem_of (kV_is ry) dd.mapOf hw (h w' _ (I.tok _) rw')
  · subst ey
    cases (show u = Value.ref b from ry)
    obtain ⟨z, hd, xs, rel, dd⟩ := dt_rd I.hok e
    obtain ⟨w', hw, rw'⟩ := RelO.some_of (v := v) (o := (atKey xs k).map (·.2)) (by rw [l]; exact rel.val k)
    obtain ⟨p, hp, hp2⟩ := Option.map_eq_some_iff.mp hw
    refine wpAny_getItem_heap (tupleKind_room_in1 hu) (key_of I.hok eb) dd hp ?_
    rw [hp2]
    exact h w' _ (I.tok _) rw'
/-- y in d -/
theorem d_in {Q : Value → Shared → Prop} (hu : A.units + 1 < cLine) (I : Inv X pins σ H s) (g : DGet H a y o) (ry : RelV y u) (h : ∀ s', Inv X pins σ H s' → Q (.bool o.isSome) s') :
    wpAny (model X.prog X.w) A (compareOp .In u (.ref a)) Q E s := by
  rcases g with ⟨kvs, k, e, ey, l⟩ | ⟨kvs, k, b, e, ey, eb, l⟩
  · subst ey
    obtain ⟨z, hd, vs, rel, dd⟩ := dk_rd I.hok e
    refine wpAny_in_of (kV_is ry) hd dd.mapOf ?_
    rw [← (rel.val k).isSome_eq, ← l]
    exact h _ (I.tok _)
  · subst ey
    cases (show u = Value.ref b from ry)
    obtain ⟨z, hd, xs, rel, dd⟩ := dt_rd I.hok e
    refine wpAny_in_heap (tupleKind_room_in1 hu) (key_of I.hok eb) hd dd ?_
    have q := (rel.val k).isSome_eq
    rw [Option.isSome_map] at q
    rw [← q, ← l]
    exact h _ (I.tok _)
theorem d_notIn {Q : Value → Shared → Prop} (hu : A.units + 1 < cLine) (I : Inv X pins σ H s) (g : DGet H a y o) (ry : RelV y u) (h : ∀ s', Inv X pins σ H s' → Q (.bool (!o.isSome)) s') :
    wpAny (model X.prog X.w) A (compareOp .NotIn u (.ref a)) Q E s := by
  rcases g with ⟨kvs, k, e, ey, l⟩ | ⟨kvs, k, b, e, ey, eb, l⟩
  · subst ey
    obtain ⟨z, hd, vs, rel, dd⟩ := dk_rd I.hok e
    refine wpAny_notIn_of (kV_is ry) hd dd.mapOf ?_
    rw [← (rel.val k).isSome_eq, ← l]
    exact h _ (I.tok _)
  · subst ey
    cases (show u = Value.ref b from ry)
    obtain ⟨z, hd, xs, rel, dd⟩ := dt_rd I.hok e
    refine wpAny_notIn_heap (tupleKind_room_in1 hu) (key_of I.hok eb) hd dd ?_
    have q := (rel.val k).isSome_eq
    rw [Option.isSome_map] at q
    rw [← q, ← l]
    exact h _ (I.tok _)
/-- a dict's object is replaced -/
theorem d_write {h' : Heap} {t' : Nat} {ob : HO} (I : Inv X pins σ H s) (mu : Mut (H a)) (hs : Heap.SameBut a s.heap h') (he : ∃ q, h'.get? a = some q) (new : ObjOk X.prog X.w (upd H a ob) h' a ob) :
    Inv X pins σ (upd H a ob) { s with heap := h', toks := t' } :=
  I.write (x := a) (e := a) mu (.inl rfl) (fun b q hb z => (hs.2 b hb).trans z) he new
theorem dk_new {P : Program} {w : World} {H' : Hp} {h' : Heap} {kvs : List (Key × V)} {vs : List (Key × Value)} (z : kvs.length ≤ sizeLine) (hd : (a == sysModules) = false) (rel : KV kvs vs) (dd : h'.DictOf (mixKind P w) a vs) :
    ObjOk P w H' h' a (.dK kvs) := ⟨z, hd, vs, rel, dd⟩
/-- d[y] = v -/
theorem d_setItem {H' : Hp} {Q : Unit → Shared → Prop} (hu : A.units + 1 < cLine) (I : Inv X pins σ H s) (g : DPut H a y v H') (ry : RelV y u) (rv : RelV v r) (h : ∀ s', Inv X pins σ H' s' → Q () s') :
    wpAny (model X.prog X.w) A (setItem (.ref a) u r) Q E s := by
  rcases g with ⟨kvs, k, e, ey, l, eH⟩ | ⟨kvs, k, b, e, ey, eb, l, eH⟩
  · subst ey eH
    obtain ⟨z, hd, vs, rel, dd⟩ := dk_of I.hok e
    have hz : vs.length ≤ sizeLine := by rw [← rel.length]; exact z
    have hl : (putK kvs k v).length ≤ sizeLine := by have := length_putK kvs k v; omega
    refine wpAny_setItem_pairs (hsz := hz) (kV_is ry) dd fun h' dd' hs => h _ ?_
    have he : ∃ q, h'.get? a = some q := let ⟨q, _, _, hq, _⟩ := dd'; ⟨q, hq⟩
    exact d_write I (by rw [e]; exact True.intro) hs he (dk_new hl hd (rel.put k rv) dd')
  · subst ey eH
    cases (show u = Value.ref b from ry)
    obtain ⟨z, hd, xs, rel, dd⟩ := dt_of I.hok e
    have hz : xs.length ≤ sizeLine := by rw [← Paired.length rel]; exact z
    have hl : (putK kvs k v).length ≤ sizeLine := by have := length_putK kvs k v; omega
    refine wpAny_setItem_heap (hsz := hz) (tupleKind_room_in1 hu) (key_of I.hok eb) dd fun h' dd' hs => h _ ?_
    obtain ⟨q, es, ep, hq, h2, h3, h4, _, h5⟩ := dd'
    refine d_write I (by rw [e]; exact True.intro) hs ⟨q, hq⟩ ⟨hl, hd, _, (rel.put k eb rv).keeps fun c ys ec => ?_, q, es, ep, hq, h2, h3, h4, h5⟩
    rw [upd_ne (ne_of ec e (fun z => nomatch z))]
    exact ec
end

section
variable {X : Cx} {pins : List (Addr × Obj)} {σ : St} {H : Hp} {s : Shared} {a : Addr} {kvs : List (Key × V)} {k : Key} {u : Value} {A : Around} {E : Value → Shared → Prop}
/-- del d[k] -/
theorem d_delItem {Q : Unit → Shared → Prop} (I : Inv X pins σ H s) (e : H a = some (.dK kvs)) (ry : RelV (kV k) u) (l : (valV kvs k).isSome = true) (h : ∀ s', Inv X pins σ (upd H a (.dK (dropK kvs k))) s' → Q () s') :
    wpAny (model X.prog X.w) A (delItem (.ref a) u) Q E s := by
  obtain ⟨z, hd, vs, rel, dd⟩ := dk_of I.hok e
  refine wpAny_delItem_slot dd.typeIs (by decide) PySem.F.slot_dict_delitem
    (call_meetsIn PySem.F.slot_dict_delitem dd.typeIs PySem.F.entry_dict_delitem (PySem.F.args_dict_delitem_2 _ _) (meets_dict_delitem_pairs (mixKind X.prog X.w) a (kV_is ry)) ⟨vs, dd, by rw [← rel.length]; exact z, by rw [← (rel.val k).isSome_eq]; exact l, fun h' dd' hs => h _ ?_⟩)
  have he : ∃ q, h'.get? a = some q := let ⟨q, _, _, hq, _⟩ := dd'; ⟨q, hq⟩
  exact d_write I (by rw [e]; exact True.intro) hs he (dk_new (Nat.le_trans (dropK_le kvs k) z) hd (rel.drop k) dd')
/-- d.pop(k[, x]), there -/
theorem d_pop {v : V} {more : List Value} {Q : Value → Shared → Prop} (I : Inv X pins σ H s) (e : H a = some (.dK kvs)) (ry : RelV (kV k) u) (l : valV kvs k = some v) (hm : more = [] ∨ ∃ x, more = [x])
    (h : ∀ w' s', Inv X pins σ (upd H a (.dK (dropK kvs k))) s' → RelV v w' → Q w' s') : wpAny (model X.prog X.w) A (call (.builtin "dict.pop") (.ref a :: u :: more)) Q E s := by
  obtain ⟨z, hd, vs, rel, dd⟩ := dk_of I.hok e
  obtain ⟨w', hw, rw'⟩ := RelO.some_of (v := v) (o := valueAt vs k) (by rw [← l]; exact rel.val k)
  have hp : (keyPart u).isSome = true := by
    cases k with
    | inl i => obtain ⟨t, q⟩ := (show ∃ t, u = Value.int i t from ry); subst q; rfl
    | inr x => obtain ⟨t, q⟩ := (show ∃ t, u = Value.str x t from ry); subst q; rfl
  have ha : argsOk "dict.pop" ⟨.ref a :: u :: more, []⟩ := by
    rcases hm with q | ⟨x, q⟩
    · subst q; exact PySem.F.args_dict_pop_2 _ _
    · subst q; exact PySem.F.args_dict_pop_3 _ _ _
  refine call_meetsIn PySem.F.slot_dict_pop dd.typeIs PySem.F.entry_dict_pop ha (meets_dict_pop_there (mixKind X.prog X.w) a (kV_is ry) more hm hp)
    ⟨vs, w', dd, by rw [← rel.length]; exact z, hw, fun h' dd' hs => h w' _ ?_ rw'⟩
  have he : ∃ q, h'.get? a = some q := let ⟨q, _, _, hq, _⟩ := dd'; ⟨q, hq⟩
  exact d_write I (by rw [e]; exact True.intro) hs he (dk_new (Nat.le_trans (dropK_le kvs k) z) hd (rel.drop k) dd')
/-- d.pop(k, x), not there -/
theorem d_popD {r : Value} {Q : Value → Shared → Prop} (I : Inv X pins σ H s) (e : H a = some (.dK kvs)) (ry : RelV (kV k) u) (l : valV kvs k = none) (h : ∀ s', Inv X pins σ H s' → Q r s') :
    wpAny (model X.prog X.w) A (call (.builtin "dict.pop") [.ref a, u, r]) Q E s := by
  obtain ⟨z, hd, vs, rel, dd⟩ := dk_of I.hok e
  have hn : valueAt vs k = none := RelO.none_of (by rw [← l]; exact rel.val k)
  have hp : (keyPart u).isSome = true := by
    cases k with
    | inl i => obtain ⟨t, q⟩ := (show ∃ t, u = Value.int i t from ry); subst q; rfl
    | inr x => obtain ⟨t, q⟩ := (show ∃ t, u = Value.str x t from ry); subst q; rfl
  exact call_meetsIn PySem.F.slot_dict_pop dd.typeIs PySem.F.entry_dict_pop (PySem.F.args_dict_pop_3 _ _ _) (meets_dict_pop_default (mixKind X.prog X.w) a (kV_is ry) hd hp r) ⟨vs, dd, hn, h _ (I.tok _)⟩
/-- d.clear() -/
theorem d_clear {Q : Value → Shared → Prop} (I : Inv X pins σ H s) (e : H a = some (.dK kvs)) (h : ∀ s', Inv X pins σ (upd H a (.dK [])) s' → Q .none s') : wpAny (model X.prog X.w) A (call (.builtin "dict.clear") [.ref a]) Q E s := by
  obtain ⟨z, hd, vs, rel, dd⟩ := dk_of I.hok e
  refine call_meetsIn PySem.F.slot_dict_clear dd.typeIs PySem.F.entry_dict_clear (PySem.F.args_dict_clear_1 _) (meets_dict_clear (mixKind X.prog X.w) a) ⟨vs, dd, by rw [← rel.length]; exact z, fun h' dd' hs => h _ ?_⟩
  have he : ∃ q, h'.get? a = some q := let ⟨q, _, _, hq, _⟩ := dd'; ⟨q, hq⟩
  exact d_write (t' := s.toks) I (by rw [e]; exact True.intro) hs he (dk_new (Nat.zero_le _) hd .nil dd')
/-- len(d) -/
theorem d_len {Q : Value → Shared → Prop} (I : Inv X pins σ H s) (e : Rd H a (.dK kvs)) (h : ∀ t s', Inv X pins σ H s' → Q (.int kvs.length t) s') : wpAny (model X.prog X.w) A (call (.builtin "len") [.ref a]) Q E s := by
  obtain ⟨z, hd, vs, rel, dd⟩ := dk_rd I.hok e
  refine call_len_dict hd dd (by rw [← rel.length]; rw [sizeLine_eq] at z; omega) ?_
  rw [← rel.length]
  exact h _ _ (I.tok _)
/-- if d -/
theorem d_truth {Q : Bool → Shared → Prop} (I : Inv X pins σ H s) (e : Rd H a (.dK kvs)) (h : ∀ s', Inv X pins σ H s' → Q (!kvs.isEmpty) s') : wpAny (model X.prog X.w) A (truthy (.ref a)) Q E s := by
  obtain ⟨z, hd, vs, rel, dd⟩ := dk_rd I.hok e
  refine wpAny_truthy_dict hd dd (by rw [← rel.length]; rw [sizeLine_eq] at z; omega) ?_
  have q : kvs.isEmpty = vs.isEmpty := by cases rel <;> rfl
  rw [← q]
  exact h _ (I.tok _)
end


/-! ### readings and rules -/
/-- the element of a subscription, not a slice -/
def NoSl (i : Expr) : Prop := ∀ ov iv, subscripted i false ov iv = operate [ov, iv] (getItem ov iv)
theorem subD_of {prog : Program} {w : World} {A : Around} {E : Value → Shared → Prop} {s : Shared} {env : Env} {value slice : Expr} {pos : Pos} {T id : String} {Q : Value → Shared → Prop}
    (hl : typeLookup (.type T) "__getitem__" = pure (some (.builtin id))) (hs : NoSl slice)
    (h : wpAny (model prog w) A (eval value env) (fun o s₁ => wpAny (model prog w) A (eval slice env) (fun i s₂ => s₂.TypeIs o T ∧ wpAny (model prog w) A (getItem o i) Q E s₂) E s₁) E s) :
    wpAny (model prog w) A (eval (.Subscript value slice pos) env) Q E s := by
  refine Subscript_ (wpAny_mono h (fun o s₁ h₁ => wpAny_mono h₁ (fun i s₂ h₂ => ?_) fun _ _ x => x) fun _ _ x => x)
  obtain ⟨hT, h₂⟩ := h₂
  unfold subscriptTail
  refine wpAny_bind ?_
  rw [getitemInPython_of_ne hT.not_modules]
  refine wpAny_bind (wpAny_specialOf hT hl ?_)
  have fin : wpAny (model prog w) A (subscripted slice false o i) (fun r s₃ => wpAny (model prog w) A (letTemporaryGo value o r >>= fun _ => pure r) Q E s₃) E s₂ := by
    rw [hs o i]
    exact wpAny_operating (wpAny_mono h₂ (fun r s₃ h₃ => wpAny_bind (wpAny_letTemporaryGo (wpAny_pure h₃))) fun _ _ x => x)
  first
    | exact wpAny_pure (wpAny_bind fin)
    | exact wpAny_bind (wpAny_pure (wpAny_bind fin))
    | exact wpAny_bind fin

theorem dict_typeIs {X : Cx} {pins : List (Addr × Obj)} {σ : St} {H : Hp} {s : Shared} {a : Addr} {y : V} {o : Option V} (I : Inv X pins σ H s) (g : DGet H a y o) : s.TypeIs (.ref a) "dict" := by
  rcases g with ⟨kvs, k, e, _, _⟩ | ⟨kvs, k, b, e, _, _, _⟩
  · obtain ⟨_, _, vs, _, dd⟩ := dk_rd I.hok e
    exact dd.typeIs
  · obtain ⟨_, _, xs, _, dd⟩ := dt_rd I.hok e
    exact dd.typeIs
theorem dict_noDict {X : Cx} {pins : List (Addr × Obj)} {σ : St} {H : Hp} {s : Shared} {a : Addr} {y : V} {o : Option V} (I : Inv X pins σ H s) (g : DGet H a y o) :
    ∀ b, Value.ref a = .ref b → ∃ ob, s.heap.get? b = some ob ∧ ob.dict = none := fun b q => by
  cases q
  rcases g with ⟨kvs, k, e, _, _⟩ | ⟨kvs, k, b, e, _, _, _⟩
  · obtain ⟨_, _, vs, _, ob, _, _, h1, h2, _⟩ := dk_rd I.hok e
    exact ⟨ob, h1, h2.2.1⟩
  · obtain ⟨_, _, xs, _, ob, _, _, h1, h2, _⟩ := dt_rd I.hok e
    exact ⟨ob, h1, h2.2.1⟩

/-- d[y] -/
def tDGet (td ty : TE) : TE := fun σ H Q => td σ H fun x H1 => ty σ H1 fun y H2 => ∃ a v, x = .ref a ∧ DGet H2 a y (some v) ∧ Q v H2
/-- y in d, y not in d -/
def tDIn (ty td : TE) : TE := fun σ H Q => ty σ H fun y H1 => td σ H1 fun x H2 => ∃ a o, x = .ref a ∧ DGet H2 a y o ∧ Q (.bl o.isSome) H2
def tDNotIn (ty td : TE) : TE := fun σ H Q => ty σ H fun y H1 => td σ H1 fun x H2 => ∃ a o, x = .ref a ∧ DGet H2 a y o ∧ Q (.bl (!o.isSome)) H2
/-- d[y] = v -/
def sDPut (td ty tv : TE) : TS := fun D σ H => tv σ H fun v H1 => td σ H1 fun x H2 => ty σ H2 fun y H3 => ∃ a H4, x = .ref a ∧ DPut H3 a y v H4 ∧ D.nx σ H4
/-- d[y] op= v -/
def sDAug (td ty tv : TE) (rd : V → V → Hp → VK → Prop) : TS := fun D σ H => td σ H fun x H1 => ty σ H1 fun y H2 => ∃ a v, x = .ref a ∧ DGet H2 a y (some v) ∧
  tv σ H2 fun y2 H3 => rd v y2 H3 fun z H4 => ∃ H5, DPut H4 a y z H5 ∧ D.nx σ H5
/-- del d[y] -/
def sDDel (td ty : TE) : TS := fun D σ H => td σ H fun x H1 => ty σ H1 fun y H2 => ∃ a kvs k, x = .ref a ∧ H2 a = some (.dK kvs) ∧ y = kV k ∧ (valV kvs k).isSome = true ∧ D.nx σ (upd H2 a (.dK (dropK kvs k)))

section
variable {X : Cx} {o i e value : Expr} {pos pos' tpos : Pos} {td ty tv : TE}
theorem pe_dget (hu : X.A.units + 1 < cLine) (ho : PE X o td) (hi : PE X i ty) (hs : NoSl i) : PE X (.Subscript o i pos) (tDGet td ty) := by
  intro pins s σ H Q I h
  refine subD_of PySem.F.slot_dict_getitem.lookup hs (thn (ho pins s σ H _ I h) fun u s1 ⟨x, H1, I1, rx, q1⟩ => thn (hi pins s1 σ H1 _ I1 q1) fun iv s2 ⟨y, H2, I2, ry, a, v, ex, g, q2⟩ => ?_)
  subst ex
  obtain rfl : u = Value.ref a := rx
  exact ⟨dict_typeIs I2 g, d_getItem hu I2 g ry fun w' s3 I3 rw' => ⟨v, H2, I3, rw', q2⟩⟩
theorem pc_din (hu : X.A.units + 1 < cLine) (hi : PE X i ty) (ho : PE X o td) : PC X .In i o (tDIn ty td) := by
  intro pins s σ H Q I h
  refine thn (hi pins s σ H _ I h) fun iv s1 ⟨y, H1, I1, ry, q1⟩ => thn (ho pins s1 σ H1 _ I1 q1) fun u s2 ⟨x, H2, I2, rx, a, ov, ex, g, q2⟩ => ?_
  subst ex
  obtain rfl : u = Value.ref a := rx
  exact d_in hu I2 g ry fun s3 I3 => ⟨.bl ov.isSome, H2, I3, rfl, q2⟩
theorem pc_dnotin (hu : X.A.units + 1 < cLine) (hi : PE X i ty) (ho : PE X o td) : PC X .NotIn i o (tDNotIn ty td) := by
  intro pins s σ H Q I h
  refine thn (hi pins s σ H _ I h) fun iv s1 ⟨y, H1, I1, ry, q1⟩ => thn (ho pins s1 σ H1 _ I1 q1) fun u s2 ⟨x, H2, I2, rx, a, ov, ex, g, q2⟩ => ?_
  subst ex
  obtain rfl : u = Value.ref a := rx
  exact d_notIn hu I2 g ry fun s3 I3 => ⟨.bl (!ov.isSome), H2, I3, rfl, q2⟩
theorem ps_dput (hu : X.A.units + 1 < cLine) (ho : PE X o td) (hi : PE X i ty) (hv : PE X value tv) (hs : swapsWith value (some (.Subscript o i pos')) pos.line X.env = pure false) :
    PS X (.Assign [.Subscript o i pos'] value pos) (sDPut td ty tv) := by
  intro pins s σ H D I h
  refine wpAny_Assign_Subscript (thn (hv pins s σ H _ I h) fun r s1 ⟨v, H1, I1, rv, q1⟩ => thn (ho pins s1 σ H1 _ I1 q1) fun u s2 ⟨x, H2, I2, rx, q2⟩ => thn (hi pins s2 σ H2 _ I2 q2) fun iv s3 ⟨y, H3, I3, ry, a, H4, ex, g, q3⟩ => ?_) hs
  subst ex
  obtain rfl : u = Value.ref a := rx
  exact d_setItem hu I3 g ry rv fun s4 I4 => ⟨σ, H4, I4, q3⟩
theorem ps_daug {op : Operator} {rd : V → V → Hp → VK → Prop} (hu : X.A.units + 1 < cLine) (ho : PE X o td) (hi : PE X i ty) (hv : PE X value tv) (hop : InOp X op rd)
    (ha : ∀ ov iv new, augStore i ov iv new = (do holding [new, ov, iv] (setItem ov iv new); release [new, ov, iv] []; pure .next)) : PS X (.AugAssign (.Subscript o i tpos) op value pos) (sDAug td ty tv rd) := by
  intro pins s σ H D I h
  refine wpAny_AugAssign_SubscriptAny (thn (ho pins s σ H _ I h) fun u s1 ⟨x, H1, I1, rx, q1⟩ => thn (hi pins s1 σ H1 _ I1 q1) fun iv s2 ⟨y, H2, I2, ry, a, v, ex, g, q2⟩ => ?_) ha
  subst ex
  obtain rfl : u = Value.ref a := rx
  refine d_getItem hu I2 g ry fun w' s3 I3 rw' => thn (hv pins s3 σ H2 _ I3 q2) fun w2 s4 ⟨y2, H3, I4, ry2, q3⟩ => thn (hop pins s4 σ H3 v y2 w' w2 _ I4 rw' ry2 q3) fun w3 s5 ⟨z, H4, I5, rz, H5, g5, q4⟩ => ?_
  exact d_setItem hu I5 g5 ry rz fun s6 I6 => ⟨σ, H5, I6, q4⟩
theorem ps_ddel (ho : PE X o td) (hi : PE X i ty) : PS X (.Delete [.Subscript o i tpos] pos) (sDDel td ty) := by
  intro pins s σ H D I h
  refine wpAny_Delete (wpAny_deleteEach_cons (wpAny_delete_Subscript (thn (ho pins s σ H _ I h) fun u s1 ⟨x, H1, I1, rx, q1⟩ => thn (hi pins s1 σ H1 _ I1 q1) fun iv s2 ⟨y, H2, I2, ry, a, kvs, k, ex, e, ey, l, q2⟩ => ?_)))
  subst ex ey
  obtain rfl : u = Value.ref a := rx
  exact d_delItem I2 e ry l fun s3 I3 => wpAny_deleteEach_nil ⟨σ, _, I3, q2⟩
end


/-! ### displays -/
theorem dk_empty {P : Program} {w : World} {H : Hp} (h : Heap) (hb : sysModules < h.objs.size) : ObjOk P w H (h.push { cls := .type "dict", data := .dict #[] }) h.objs.size (.dK []) :=
  ⟨Nat.zero_le _, beq_eq_false_iff_ne.mpr (Ne.symm (Nat.ne_of_lt hb)), [], .nil, Heap.DictOf.new h⟩
theorem dt_empty {P : Program} {w : World} {H : Hp} (h : Heap) (hb : sysModules < h.objs.size) : ObjOk P w H (h.push { cls := .type "dict", data := .dict #[] }) h.objs.size (.dT []) :=
  ⟨Nat.zero_le _, beq_eq_false_iff_ne.mpr (Ne.symm (Nat.ne_of_lt hb)), [], .nil, _, #[], 0, Heap.get?_push_size _ rfl, ⟨rfl, rfl, rfl⟩, rfl, rfl, List.nodup_nil⟩
/-- {}, to be a dict of the kind that is wanted -/
def tDNewK : TE := fun _ H Q => ∀ p, H p = none → Q (.ref p) (upd H p (.dK []))
def tDNewT : TE := fun _ H Q => ∀ p, H p = none → Q (.ref p) (upd H p (.dT []))
section
variable {X : Cx} {pos : Pos}
theorem pe_dnewK : PE X (.Dict [] [] pos) tDNewK := fun pins s σ H Q I h =>
  wpAny_Dict_empty ⟨.ref s.heap.objs.size, _, I.laid (a := s.heap.objs.size) (o := .dK []) (t' := s.toks) (fun _ _ q => Heap.get?_push_of_some _ q) (Nat.le_refl _) (dk_empty s.heap I.big), rfl, h _ (I.hok.fresh (Nat.le_refl _))⟩
theorem pe_dnewT : PE X (.Dict [] [] pos) tDNewT := fun pins s σ H Q I h =>
  wpAny_Dict_empty ⟨.ref s.heap.objs.size, _, I.laid (a := s.heap.objs.size) (o := .dT []) (t' := s.toks) (fun _ _ q => Heap.get?_push_of_some _ q) (Nat.le_refl _) (dt_empty s.heap I.big), rfl, h _ (I.hok.fresh (Nat.le_refl _))⟩
end

/-- the pairs of a display, from the left -/
def tPairs : List (TE × TE) → St → Hp → (List (V × V) → Hp → Prop) → Prop
  | [], _, H, Q => Q [] H
  | (tk, tv) :: r, σ, H, Q => tk σ H fun x H1 => tv σ H1 fun y H2 => tPairs r σ H2 fun ps H3 => Q ((x, y) :: ps) H3
abbrev VV : List (V × V) → List (Value × Value) → Prop := Paired fun p q => RelV p.1 q.1 ∧ RelV p.2 q.2
def PPs (X : Cx) (pos : Pos) (keys : List (Option Expr)) (values : List Expr) (trs : List (TE × TE)) : Prop :=
  ∀ (pins : List (Addr × Obj)) (s : Shared) (σ : St) (H : Hp) (Q : List (V × V) → Hp → Prop), Inv X pins σ H s → tPairs trs σ H Q →
    wpAny (model X.prog X.w) X.A (evalPairs (pairTrees keys values X.env pos)) (fun vs s' => ∃ ps H', Inv X pins σ H' s' ∧ VV ps vs ∧ Q ps H') X.xe s
theorem pps_nil {X : Cx} {pos : Pos} : PPs X pos [] [] [] := fun pins s σ H Q I h => pairTrees_nil_walk ⟨[], H, I, .nil, h⟩
theorem pps_cons {X : Cx} {pos : Pos} {k v : Expr} {ks : List (Option Expr)} {vs : List Expr} {tk tv : TE} {trs : List (TE × TE)} (hk : PE X k tk) (hv : PE X v tv) (hr : PPs X pos ks vs trs) :
    PPs X pos (some k :: ks) (v :: vs) ((tk, tv) :: trs) := fun pins s σ H Q I h =>
  pairTrees_cons_walk (thn (hk pins s σ H _ I h) fun u s1 ⟨x, H1, I1, rx, q1⟩ => thn (hv pins s1 σ H1 _ I1 q1) fun w2 s2 ⟨y, H2, I2, ry, q2⟩ =>
    thn (hr pins s2 σ H2 _ I2 q2) fun ws s3 ⟨ps, H3, I3, rel, q3⟩ => ⟨(x, y) :: ps, H3, I3, .cons ⟨rx, ry⟩ rel, q3⟩)

def mergeK (kvs more : List (Key × V)) : List (Key × V) := more.foldl (fun acc kv => putK acc kv.1 kv.2) kvs
theorem KV.merge : ∀ {more : List (Key × V)} {rs : List (Key × Value)} {kvs : List (Key × V)} {vs : List (Key × Value)}, KV more rs → KV kvs vs → KV (mergeK kvs more) (merged vs rs) := by
  intro more rs kvs vs r
  unfold KV at r
  induction r generalizing kvs vs with
  | nil => intro q; exact q
  | @cons p q ps qs h t ih =>
    intro r0
    have e : KV (putK kvs p.1 p.2) (stored vs q.1 q.2) := by
      have := r0.put p.1 h.2
      rw [← h.1]; exact this
    exact ih e
theorem length_mergeK : ∀ (more kvs : List (Key × V)), (mergeK kvs more).length ≤ kvs.length + more.length
  | [], kvs => by show kvs.length ≤ kvs.length + 0; omega
  | p :: r, kvs => by
    have h1 := length_mergeK r (putK kvs p.1 p.2)
    have h2 := length_putK kvs p.1 p.2
    show (mergeK (putK kvs p.1 p.2) r).length ≤ _
    rw [List.length_cons]; omega
theorem carries_of {P : Program} {w : World} : ∀ {kvs : List (Key × V)} {ws : List (Value × Value)}, VV (kvs.map fun kv => (kV kv.1, kv.2)) ws → ∃ rs, Carries (mixKind P w) ws rs ∧ KV kvs rs
  | [], _, r => by rw [List.map_nil] at r; cases r; exact ⟨[], True.intro, .nil⟩
  | p :: kvs, _, r => by
    rw [List.map_cons] at r
    cases r with
    | @cons a b as bs h t =>
      obtain ⟨rs, c, q⟩ := carries_of (P := P) (w := w) t
      obtain ⟨b1, b2⟩ := b
      exact ⟨(p.1, b2) :: rs, ⟨kV_is h.1, rfl, c⟩, .cons ⟨rfl, h.2⟩ q⟩
/-- {k: v, ..} with keys ints and texts; the new dict stands empty while the pairs are made -/
def tDisp (trs : List (TE × TE)) : TE := fun σ H Q => ∀ p, H p = none → tPairs trs σ (upd H p (.dK [])) fun ps H2 => H2 p = some (.dK []) ∧ ∃ kvs : List (Key × V), ps = kvs.map (fun kv => (kV kv.1, kv.2)) ∧ kvs.length ≤ 15 ∧ Q (.ref p) (upd H2 p (.dK (mergeK [] kvs)))
theorem pe_disp {X : Cx} {pos : Pos} {keys : List (Option Expr)} {values : List Expr} {trs : List (TE × TE)} (h : PPs X pos keys values trs) (hall : keys.all (·.isSome) = true) (hl : keys.length = values.length) (h0 : keys ≠ [])
    (h15 : keys.length ≤ 15) : PE X (.Dict keys values pos) (tDisp trs) := by
  intro pins s σ H Q I q
  have hn := I.hok.fresh (Nat.le_refl s.heap.objs.size)
  have I1 := I.laid (a := s.heap.objs.size) (o := .dK []) (h' := s.heap.push { cls := .type "dict", data := .dict #[] }) (t' := s.toks) (fun _ _ q => Heap.get?_push_of_some _ q) (Nat.le_refl _) (dk_empty s.heap I.big)
  refine wpAny_Dict_walk (knd := mixKind X.prog X.w) hall hl h0 h15 (thn (h pins _ σ _ _ I1 (q _ hn)) fun ws s2 ⟨ps, H2, I2, rel, e, kvs, ep, lk, q2⟩ => ?_)
  subst ep
  obtain ⟨rs, c, rk⟩ := carries_of (P := X.prog) (w := X.w) rel
  obtain ⟨z, hd, vs0, r0, dd⟩ := dk_of I2.hok e
  cases r0
  refine ⟨rs, c, dd, fun h' dd' hs => ⟨.ref s.heap.objs.size, _, ?_, rfl, q2⟩⟩
  have hz : (mergeK [] kvs).length ≤ sizeLine := by
    have h1 := length_mergeK kvs []
    rw [List.length_nil] at h1
    rw [sizeLine_eq]; omega
  have he : ∃ q, h'.get? s.heap.objs.size = some q := let ⟨q, _, _, hq, _⟩ := dd'; ⟨q, hq⟩
  exact d_write I2 (by rw [e]; exact True.intro) hs he (dk_new hz hd (rk.merge .nil) dd')


/-! ### methods -/
/-- a method call o.m(e) of a built-in, with one argument: what must be seen of the text -/
structure M1 (X : Cx) (o : Expr) (m : Str) (apos : Pos) (e : Expr) (cpos : Pos) : Prop where
  base : attributeBase o m X.env (eval o X.env) = eval o X.env
  few : ((backTo cpos (starEach [e] X.env)).all (fun x => !x.1) && (backToKw cpos (keywordEach [] X.env)).all (fun x => x.1.isSome)
    && decide (([e] : List Expr).length + ([] : List Keyword).length + (if ([] : List Keyword).isEmpty then 0 else 1) < 30)) = true
  line : (apos.endLine == cpos.line) = true
  trees : backTo cpos (starEach [e] X.env) = [(false, eval e X.env)]
structure M2 (X : Cx) (o : Expr) (m : Str) (apos : Pos) (e f : Expr) (cpos : Pos) : Prop where
  base : attributeBase o m X.env (eval o X.env) = eval o X.env
  few : ((backTo cpos (starEach [e, f] X.env)).all (fun x => !x.1) && (backToKw cpos (keywordEach [] X.env)).all (fun x => x.1.isSome)
    && decide (([e, f] : List Expr).length + ([] : List Keyword).length + (if ([] : List Keyword).isEmpty then 0 else 1) < 30)) = true
  line : (apos.endLine == cpos.line) = true
  trees : backTo cpos (starEach [e, f] X.env) = [(false, eval e X.env), (false, eval f X.env)]

/-- a is a dict, whatever its keys -/
def IsD (H : Hp) (a : Addr) : Prop := (∃ kvs, Rd H a (.dK kvs)) ∨ ∃ kvs, Rd H a (.dT kvs)
theorem isD_at {X : Cx} {pins : List (Addr × Obj)} {σ : St} {H : Hp} {s : Shared} {a : Addr} (I : Inv X pins σ H s) (d : IsD H a) :
    s.TypeIs (.ref a) "dict" ∧ (∀ b, Value.ref a = .ref b → ∃ ob, s.heap.get? b = some ob ∧ ob.dict = none) ∧ (a == sysModules) = false := by
  rcases d with ⟨kvs, e⟩ | ⟨kvs, e⟩
  · obtain ⟨_, hd, vs, _, dd⟩ := dk_rd I.hok e
    refine ⟨dd.typeIs, fun b q => ?_, hd⟩
    cases q
    obtain ⟨ob, _, _, h1, h2, _⟩ := dd
    exact ⟨ob, h1, h2.2.1⟩
  · obtain ⟨_, hd, xs, _, dd⟩ := dt_rd I.hok e
    refine ⟨dd.typeIs, fun b q => ?_, hd⟩
    cases q
    obtain ⟨ob, _, _, h1, h2, _⟩ := dd
    exact ⟨ob, h1, h2.2.1⟩

section
variable {X : Cx} {pins : List (Addr × Obj)} {σ : St} {H : Hp} {s : Shared} {a : Addr} {y d : V} {u r : Value} {o : Option V} {A : Around} {E : Value → Shared → Prop}
/-- d.get(y) -/
theorem d_get1 {Q : Value → Shared → Prop} (hu : A.units + 1 < cLine) (I : Inv X pins σ H s) (g : DGet H a y o) (ry : RelV y u) (h : ∀ w' s', Inv X pins σ H s' → RelV (o.getD .non) w' → Q w' s') :
    wpAny (model X.prog X.w) A (call (.builtin "dict.get") [.ref a, u]) Q E s := by
  rcases g with ⟨kvs, k, e, ey, l⟩ | ⟨kvs, k, b, e, ey, eb, l⟩
  · subst ey
    obtain ⟨z, hd, vs, rel, dd⟩ := dk_rd I.hok e
    refine call_meetsIn PySem.F.slot_dict_get dd.typeIs PySem.F.entry_dict_get (PySem.F.args_dict_get_2 _ _) (meets_dict_get (mixKind X.prog X.w) a (kV_is ry) hd) ⟨_, dd.mapOf, h _ _ (I.tok _) ?_⟩
    rw [l]
    exact (rel.val k).getD rfl
  · subst ey
    cases (show u = Value.ref b from ry)
    obtain ⟨z, hd, xs, rel, dd⟩ := dt_rd I.hok e
    refine call_meetsIn PySem.F.slot_dict_get dd.typeIs PySem.F.entry_dict_get (PySem.F.args_dict_get_2 _ _) (meetsH_dict_get (tupleKind (mixKind X.prog X.w)) a b hd) ⟨tupleKind_room_in1 hu, k, xs, key_of I.hok eb, dd, h _ _ (I.tok _) ?_⟩
    rw [l]
    exact (rel.val k).getD rfl
/-- d.get(y, x) -/
theorem d_get2 {Q : Value → Shared → Prop} (hu : A.units + 1 < cLine) (I : Inv X pins σ H s) (g : DGet H a y o) (ry : RelV y u) (rd : RelV d r) (h : ∀ w' s', Inv X pins σ H s' → RelV (o.getD d) w' → Q w' s') :
    wpAny (model X.prog X.w) A (call (.builtin "dict.get") [.ref a, u, r]) Q E s := by
  rcases g with ⟨kvs, k, e, ey, l⟩ | ⟨kvs, k, b, e, ey, eb, l⟩
  · subst ey
    obtain ⟨z, hd, vs, rel, dd⟩ := dk_rd I.hok e
    refine call_meetsIn PySem.F.slot_dict_get dd.typeIs PySem.F.entry_dict_get (PySem.F.args_dict_get_3 _ _ _) (meets_dict_get_default (mixKind X.prog X.w) a (kV_is ry) hd r) ⟨_, dd.mapOf, h _ _ (I.tok _) ?_⟩
    rw [l]
    exact (rel.val k).getD rd
  · subst ey
    cases (show u = Value.ref b from ry)
    obtain ⟨z, hd, xs, rel, dd⟩ := dt_rd I.hok e
    refine call_meetsIn PySem.F.slot_dict_get dd.typeIs PySem.F.entry_dict_get (PySem.F.args_dict_get_3 _ _ _) (meetsH_dict_get_default (tupleKind (mixKind X.prog X.w)) a b hd r) ⟨tupleKind_room_in1 hu, k, xs, key_of I.hok eb, dd, h _ _ (I.tok _) ?_⟩
    rw [l]
    exact (rel.val k).getD rd
end

def tDGet1 (td ty : TE) : TE := fun σ H Q => td σ H fun x H1 => ∃ a, x = .ref a ∧ IsD H1 a ∧ ty σ H1 fun y H2 => ∃ o, DGet H2 a y o ∧ Q (o.getD .non) H2
def tDGet2 (td ty tx : TE) : TE := fun σ H Q => td σ H fun x H1 => ∃ a, x = .ref a ∧ IsD H1 a ∧ ty σ H1 fun y H2 => tx σ H2 fun z H3 => ∃ o, DGet H3 a y o ∧ Q (o.getD z) H3
/-- d.pop(k): there; d.pop(k, x): there or not -/
def tDPop1 (td ty : TE) : TE := fun σ H Q => td σ H fun x H1 => ∃ a, x = .ref a ∧ IsD H1 a ∧ ty σ H1 fun y H2 => ∃ kvs k v, H2 a = some (.dK kvs) ∧ y = kV k ∧ valV kvs k = some v ∧ Q v (upd H2 a (.dK (dropK kvs k)))
def tDPop2 (td ty tx : TE) : TE := fun σ H Q => td σ H fun x H1 => ∃ a, x = .ref a ∧ IsD H1 a ∧ ty σ H1 fun y H2 => tx σ H2 fun z H3 => ∃ kvs k, H3 a = some (.dK kvs) ∧ y = kV k ∧
  (∀ v, valV kvs k = some v → Q v (upd H3 a (.dK (dropK kvs k)))) ∧ (valV kvs k = none → Q z H3)
section
variable {X : Cx} {o e f : Expr} {apos cpos : Pos} {td ty tx : TE}
theorem pe_dget1 (hu : X.A.units + 1 < cLine) (ho : PE X o td) (he : PE X e ty) (m : M1 X o "get" apos e cpos) : PE X (.Call (.Attribute o "get" apos) [e] [] cpos) (tDGet1 td ty) := by
  intro pins s σ H Q I h
  refine wpAny_Call_method m.base m.few m.line PySem.F.plainAttrs_dict PySem.F.slot_dict_get PySem.F.type_dict_get (thn (ho pins s σ H _ I h) fun u s1 ⟨x, H1, I1, rx, a, ex, d, q1⟩ => ?_)
  subst ex
  obtain rfl : u = Value.ref a := rx
  obtain ⟨t1, t2, _⟩ := isD_at I1 d
  refine ⟨t1, t2, ?_⟩
  rw [m.trees]
  refine Calls.callWith_builtin rfl (Calls.evalArgs_plain (Calls.spliced_cons (thn (he pins s1 σ H1 _ I1 q1) fun iv s2 ⟨y, H2, I2, ry, ov, g, q2⟩ => Calls.spliced_nil ?_)))
  exact d_get1 hu I2 g ry fun w' s3 I3 rw' => ⟨_, H2, I3, rw', q2⟩
theorem pe_dget2 (hu : X.A.units + 1 < cLine) (ho : PE X o td) (he : PE X e ty) (hf : PE X f tx) (m : M2 X o "get" apos e f cpos) : PE X (.Call (.Attribute o "get" apos) [e, f] [] cpos) (tDGet2 td ty tx) := by
  intro pins s σ H Q I h
  refine wpAny_Call_method m.base m.few m.line PySem.F.plainAttrs_dict PySem.F.slot_dict_get PySem.F.type_dict_get (thn (ho pins s σ H _ I h) fun u s1 ⟨x, H1, I1, rx, a, ex, d, q1⟩ => ?_)
  subst ex
  obtain rfl : u = Value.ref a := rx
  obtain ⟨t1, t2, _⟩ := isD_at I1 d
  refine ⟨t1, t2, ?_⟩
  rw [m.trees]
  refine Calls.callWith_builtin rfl (Calls.evalArgs_plain (Calls.spliced_cons (thn (he pins s1 σ H1 _ I1 q1) fun iv s2 ⟨y, H2, I2, ry, q2⟩ =>
    Calls.spliced_cons (thn (hf pins s2 σ H2 _ I2 q2) fun fv s3 ⟨z, H3, I3, rz, ov, g, q3⟩ => Calls.spliced_nil ?_))))
  exact d_get2 hu I3 g ry rz fun w' s4 I4 rw' => ⟨_, H3, I4, rw', q3⟩
theorem pe_dpop1 (ho : PE X o td) (he : PE X e ty) (m : M1 X o "pop" apos e cpos) : PE X (.Call (.Attribute o "pop" apos) [e] [] cpos) (tDPop1 td ty) := by
  intro pins s σ H Q I h
  refine wpAny_Call_method m.base m.few m.line PySem.F.plainAttrs_dict PySem.F.slot_dict_pop PySem.F.type_dict_pop (thn (ho pins s σ H _ I h) fun u s1 ⟨x, H1, I1, rx, a, ex, d, q1⟩ => ?_)
  subst ex
  obtain rfl : u = Value.ref a := rx
  obtain ⟨t1, t2, _⟩ := isD_at I1 d
  refine ⟨t1, t2, ?_⟩
  rw [m.trees]
  refine Calls.callWith_builtin rfl (Calls.evalArgs_plain (Calls.spliced_cons (thn (he pins s1 σ H1 _ I1 q1) fun iv s2 ⟨y, H2, I2, ry, kvs, k, v, ea, ey, l, q2⟩ => Calls.spliced_nil ?_)))
  subst ey
  exact d_pop I2 ea ry l (.inl rfl) fun w' s3 I3 rw' => ⟨v, _, I3, rw', q2⟩
theorem pe_dpop2 (ho : PE X o td) (he : PE X e ty) (hf : PE X f tx) (m : M2 X o "pop" apos e f cpos) : PE X (.Call (.Attribute o "pop" apos) [e, f] [] cpos) (tDPop2 td ty tx) := by
  intro pins s σ H Q I h
  refine wpAny_Call_method m.base m.few m.line PySem.F.plainAttrs_dict PySem.F.slot_dict_pop PySem.F.type_dict_pop (thn (ho pins s σ H _ I h) fun u s1 ⟨x, H1, I1, rx, a, ex, d, q1⟩ => ?_)
  subst ex
  obtain rfl : u = Value.ref a := rx
  obtain ⟨t1, t2, _⟩ := isD_at I1 d
  refine ⟨t1, t2, ?_⟩
  rw [m.trees]
  refine Calls.callWith_builtin rfl (Calls.evalArgs_plain (Calls.spliced_cons (thn (he pins s1 σ H1 _ I1 q1) fun iv s2 ⟨y, H2, I2, ry, q2⟩ =>
    Calls.spliced_cons (thn (hf pins s2 σ H2 _ I2 q2) fun fv s3 ⟨z, H3, I3, rz, kvs, k, ea, ey, q3, q4⟩ => Calls.spliced_nil ?_))))
  subst ey
  cases l : valV kvs k with
  | some v => exact d_pop I3 ea ry l (.inr ⟨fv, rfl⟩) fun w' s4 I4 rw' => ⟨v, _, I4, rw', q3 v l⟩
  | none => exact d_popD I3 ea ry l fun s4 I4 => ⟨z, H3, I4, rz, q4 l⟩
end

/-! ### dict(d): a copy -/
section
variable {X : Cx} {pins : List (Addr × Obj)} {σ : St} {H : Hp} {s : Shared} {a : Addr} {kvs : List (Key × V)} {A : Around} {E : Value → Shared → Prop}
theorem d_copyOf {Q : Value → Shared → Prop} (I : Inv X pins σ H s) (e : Rd H a (.dK kvs)) (h : ∀ p s', H p = none → Inv X pins σ (upd H p (.dK kvs)) s' → Q (.ref p) s') : wpAny (model X.prog X.w) A (call (.type "dict") [.ref a]) Q E s := by
  obtain ⟨z, hd, vs, rel, dd⟩ := dk_rd I.hok e
  refine kt_call_dict hd dd (by rw [← rel.length]; exact z) fun h' dd' hs => ?_
  refine h _ _ (I.hok.fresh (Nat.le_refl _)) (I.laid (a := s.heap.objs.size) (o := .dK kvs) (t' := s.toks) (fun b q hq => ?_) (Nat.le_refl _) (dk_new z (beq_eq_false_iff_ne.mpr (Ne.symm (Nat.ne_of_lt I.big))) rel dd'))
  exact (hs.2 b (Nat.ne_of_lt (Heap.lt_size hq))).trans (Heap.get?_push_of_some _ hq)
end


section
variable {X : Cx} {pins : List (Addr × Obj)} {σ : St} {H : Hp} {s : Shared} {a : Addr} {y : V} {u : Value} {A : Around} {E : Value → Shared → Prop}
/-- d[y], not there: a KeyError -/
theorem d_missing {Q : Value → Shared → Prop} (hu : A.units + 1 < cLine) (hh : A.handled = none) (I : Inv X pins σ H s) (g : DGet H a y none) (ry : RelV y u)
    (h : ∀ h' e t', Heap.NewExc s.heap h' e "KeyError" → E (.ref e) { s with heap := h', toks := t' }) : wpAny (model X.prog X.w) A (getItem (.ref a) u) Q E s := by
  rcases g with ⟨kvs, k, e, ey, l⟩ | ⟨kvs, k, b, e, ey, eb, l⟩
  · subst ey
    obtain ⟨z, hd, vs, rel, dd⟩ := dk_rd I.hok e
    have hn : valueAt vs k = none := RelO.none_of (by rw [l]; exact rel.val k)
    exact wpAny_getItem_missing_of (kV_is ry) hd hh dd.mapOf hn fun h' ex ne => h h' ex _ ne
  · subst ey
    cases (show u = Value.ref b from ry)
    obtain ⟨z, hd, xs, rel, dd⟩ := dt_rd I.hok e
    have hn : (atKey xs k).map (·.2) = none := RelO.none_of (by rw [l]; exact rel.val k)
    exact wpAny_getItem_missing_heap (tupleKind_room_in1 hu) (key_of I.hok eb) hd hh dd (Option.map_eq_none_iff.mp hn) fun h' ex ne => h h' ex _ ne
end
end L2
namespace HT
open PySem PyProof.Rows

/-- t < u of tuples of ints -/
def lexLt : List Int → List Int → Bool
  | [], [] => false
  | [], _ :: _ => true
  | _ :: _, [] => false
  | x :: xs, y :: ys => if x = y then lexLt xs ys else decide (x < y)
theorem lexLt_cons (x y : Int) (xs ys : List Int) : lexLt (x :: xs) (y :: ys) = if x = y then lexLt xs ys else decide (x < y) := rfl
theorem lexLt_nil_nil : lexLt [] [] = false := rfl
theorem lexLt_nil_cons (y : Int) (ys : List Int) : lexLt [] (y :: ys) = true := rfl
theorem lexLt_cons_nil (x : Int) (xs : List Int) : lexLt (x :: xs) [] = false := rfl

theorem eqAt_int (A : Around) (s : Shared) (a : Int) (t : Tok) (c : Int) (u : Tok) : ∃ e, SeqAt.EqAt A s (.int a t) (.int c u) e ∧ (e = true ↔ a = c) :=
  ⟨(a == c), SeqAt.EqAt.int_int a t c u, by simp⟩
theorem rcLt_int (A : Around) (s : Shared) (a : Int) (t : Tok) (c : Int) (u : Tok) (prog : Program) (w : World) (E : Value → Shared → Prop) (Q : Value → Shared → Prop) (h : Q (.bool (decide (a < c))) s) :
    wpAny (model prog w) A (richCompare .Lt (.int a t) (.int c u)) Q E s :=
  (PyProof.Rows.lt_int h : wpAny (model prog w) A (compareOp .Lt (.int a t) (.int c u)) Q E s)

section
open PySem.SeqAt
open PySem.AutoSeq1 (wpAny_loadPart')
open PySem.MeetsSeq PySem.MeetsSeq2 PySem.MeetsSeq3

theorem tuple_lt_ints (l b : Addr) (items items2 : Array Value) (n n2 : Nat) (dd dd2 : Option Addr) (sl sl2 : Array (Option Value)) (ns ms : List Int) (hi : IntsAre items.toList ns) (hj : IntsAre items2.toList ms) :
    Meets (Builtin.«tuple.__lt__» ⟨[.ref l, .ref b], []⟩)
      (fun _ R s => s.heap.get? l = some { cls := .type "tuple", dict := dd, data := .seq items n, slots := sl } ∧ s.heap.get? b = some { cls := .type "tuple", dict := dd2, data := .seq items2 n2, slots := sl2 } ∧
        R (.ok (.ret (.bool (lexLt ns ms)))) s) :=
  .of_wp fun prog w A R s h => by
    obtain ⟨hp, g, d, tk, os⟩ := s; obtain ⟨hl, hb, h⟩ := h
    have f2 := AutoSeq1.sub_tuple_tuple
    have z1 : items.size = ns.length := by rw [← hi.length]; simp
    have z2 : items2.size = ms.length := by rw [← hj.length]; simp
    wp_walk using wpAny_loadPart' hl, wpAny_loadPart' hb, wpAny_forIn_list _ (fun rest b s' => b.1 = none ∧ s' = ⟨hp, g, d, tk, os⟩ ∧ ∃ (vs ws : List Value) (ns' ms' : List Int), rest = vs.zip ws ∧
      IntsAre vs ns' ∧ IntsAre ws ms' ∧ ns'.length + items2.size = ms'.length + items.size ∧ R (.ok (.ret (.bool (lexLt ns' ms')))) ⟨hp, g, d, tk, os⟩) _
    case turn =>
      rintro ⟨y, x⟩ rest b s' ⟨hb', rfl, vs, ws, ns', ms', hz, hvi, hwi, hlen, hR⟩
      cases hvi with
      | nil => rw [List.zip_nil_left] at hz; cases hz
      | cons a t hvi' =>
        cases hwi with
        | nil => rw [List.zip_nil_right] at hz; cases hz
        | cons c u hwi' =>
          rw [List.zip_cons_cons] at hz
          injection hz with hyx hrest
          injection hyx with hy hx
          subst hy hx
          rw [lexLt_cons] at hR
          simp only [List.length_cons] at hlen
          obtain ⟨e, he, hiff⟩ := eqAt_int A.in1 ⟨hp, g, d, tk, os⟩ a t c u
          refine wpAny_bind (he prog w _ _ ?_)
          cases e with
          | true =>
            rw [if_pos (hiff.mp rfl)] at hR
            wp_walk
            exact ⟨rfl, rfl, _, _, _, _, hrest, hvi', hwi', by omega, hR⟩
          | false =>
            rw [if_neg (fun q => absurd (hiff.mpr q) Bool.false_ne_true)] at hR
            have hri := rcLt_int A.in1 ⟨hp, g, d, tk, os⟩ a t c u prog w
            wp_walk using hri
            exact ⟨_, rfl, by simpa using hR⟩
    case fin =>
      rintro ⟨b1, b2⟩ s' ⟨hb', rfl, vs, ws, ns', ms', hz, hvi, hwi, hlen, hR⟩
      simp only at hb'
      subst hb'
      have hv : lexLt ns' ms' = decide (items.size < items2.size) := by
        cases hvi with
        | nil =>
          cases hwi with
          | nil =>
            simp only [List.length_nil] at hlen
            rw [lexLt_nil_nil]
            exact (decide_eq_false (by omega)).symm
          | cons c u hw =>
            simp only [List.length_nil, List.length_cons] at hlen
            rw [lexLt_nil_cons]
            exact (decide_eq_true (by omega)).symm
        | cons a t hv =>
          cases hwi with
          | nil =>
            simp only [List.length_nil, List.length_cons] at hlen
            rw [lexLt_cons_nil]
            exact (decide_eq_false (by omega)).symm
          | cons c u hw =>
            rw [List.zip_cons_cons] at hz
            cases hz
      rw [hv] at hR
      wp_walk
      exact ⟨_, rfl, by simpa [Builtin.Tuple.tupleCompareSizes] using hR⟩
    case h =>
      exact ⟨rfl, rfl, items.toList, items2.toList, ns, ms, rfl, hi, hj, by omega, h⟩
end

section
variable {prog : Program} {w : World} {A : Around} {E : Value → Shared → Prop} {s : Shared}

theorem lt_tupInts {l b : Addr} {items items2 : Array Value} {ns ms : List Int} {Q : Value → Shared → Prop} (hl : IsTup s.heap l items) (hb : IsTup s.heap b items2) (hi : IntsAre items.toList ns) (hj : IntsAre items2.toList ms)
    (hu : A.units < cLine) (h : Q (.bool (lexLt ns ms)) s) : wpAny (model prog w) A (compareOp .Lt (.ref l) (.ref b)) Q E s := by
  obtain ⟨⟨cls, dd, data, sl⟩, ho, hc, n, hd⟩ := id hl
  obtain ⟨⟨cls2, dd2, data2, sl2⟩, ho2, hc2, n2, hd2⟩ := id hb
  simp only at hc hd hc2 hd2
  subst hc hd hc2 hd2
  exact richCompare_meets_room (op := .Lt) ⟨_, ho, rfl⟩ ⟨_, ho2, rfl⟩ PySem.F.slot_tuple_lt PySem.F.entry_tuple_lt (PySem.F.args_tuple_lt_2 _ _) (tuple_lt_ints l b items items2 n n2 dd dd2 sl sl2 ns ms hi hj)
    ⟨ho, ho2, show Value.bool (lexLt ns ms) ≠ Value.notImplemented ∧ Q (.bool (lexLt ns ms)) s from ⟨(fun x => nomatch x), h⟩⟩ hu

/-- t + u, t not empty -/
theorem cat_tup {t b : Addr} {vs ws : List Value} {Q : Value → Shared → Prop} (ht : IsTup s.heap t vs.toArray) (hb : IsTup s.heap b ws.toArray) (hv : vs ≠ [])
    (h1 : ws = [] → Q (.ref t) s) (h2 : ws ≠ [] → Q (.ref s.heap.objs.size) { s with heap := s.heap.push { cls := .type "tuple", data := .seq (vs ++ ws).toArray } })
    (hsz : vs.length + ws.length ≤ sizeLine) : wpAny (model prog w) A (binaryOp .Add (.ref t) (.ref b)) Q E s := by
  obtain ⟨⟨cls, dd, data, sl⟩, ho, hc, n, hd⟩ := id ht
  obtain ⟨⟨cls2, dd2, data2, sl2⟩, ho2, hc2, n2, hd2⟩ := id hb
  simp only at hc hd hc2 hd2
  subst hc hd hc2 hd2
  have e : vs.toArray ++ ws.toArray = (vs ++ ws).toArray := by simp
  by_cases hw : ws = []
  · exact concat_meets ⟨_, ho, rfl⟩ ⟨_, ho2, rfl⟩ noFill_tuple_add seq_tuple_add PySem.F.slot_tuple_add PySem.F.entry_tuple_add (PySem.F.args_tuple_add_2 _ _)
      (tuple_addW1 t b vs.toArray ws.toArray n n2 dd dd2 sl sl2 (by simpa using hv) (by simp [hw])) ⟨ho, ho2, h1 hw⟩
  · refine concat_meets ⟨_, ho, rfl⟩ ⟨_, ho2, rfl⟩ noFill_tuple_add seq_tuple_add PySem.F.slot_tuple_add PySem.F.entry_tuple_add (PySem.F.args_tuple_add_2 _ _)
      (tuple_addW2 t b vs.toArray ws.toArray n n2 dd dd2 sl sl2 (by simpa using hv) (by simpa using hw) (by rw [List.size_toArray, List.size_toArray]; exact hsz)) ⟨ho, ho2, ?_⟩
    rw [e]
    exact h2 hw

/-! ### t[a:b], not the whole -/
/-- a slice's bound as a place among n (d where it is left out) -/
def sIx (n d : Nat) : Option Int → Nat
  | none => d
  | some v => if v < 0 then (v + (n : Int)).toNat else min v.toNat n
theorem sIx_none (n d : Nat) : sIx n d none = d := rfl
theorem sIx_nat (n d k : Nat) : sIx n d (some (k : Int)) = min k n := by
  show (if (k : Int) < 0 then ((k : Int) + (n : Int)).toNat else min (k : Int).toNat n) = min k n
  rw [if_neg (by omega), Int.toNat_natCast]
theorem sIx_le (n d : Nat) (hd : d ≤ n) (o : Option Int) : sIx n d o ≤ n := by
  cases o with
  | none => exact hd
  | some v =>
    show (if v < 0 then (v + (n : Int)).toNat else min v.toNat n) ≤ n
    by_cases hv : v < 0
    · rw [if_pos hv]; omega
    · rw [if_neg hv]; exact Nat.min_le_right _ _
theorem clip_eq (v : Int) (n d : Nat) : (if v < 0 then max (v + (n : Int)) 0 else min v (n : Int)) = ((sIx n d (some v) : Nat) : Int) := by
  show (if v < 0 then max (v + (n : Int)) 0 else min v (n : Int)) = (((if v < 0 then (v + (n : Int)).toNat else min v.toNat n) : Nat) : Int)
  by_cases hv : v < 0
  · simp only [if_pos hv]; omega
  · simp only [if_neg hv]; omega
theorem adjust_gen (lo hi : Option Int) (n : Nat) : Builtin.Slice.sliceAdjust lo hi 1 (n : Int) = (((sIx n 0 lo : Nat) : Int), ((sIx n n hi : Nat) : Int)) := by
  have h1 : ¬ ((1 : Int) < 0) := by omega
  unfold Builtin.Slice.sliceAdjust
  simp only [h1, if_false]
  refine Prod.ext ?_ ?_
  · cases lo with
    | none => rfl
    | some v => exact clip_eq v n 0
  · cases hi with
    | none => rfl
    | some v => exact clip_eq v n n
theorem places_gen (i j : Nat) : Builtin.Slice.slicePlaces (i : Int) (j : Int) 1 = j - i := by
  unfold Builtin.Slice.slicePlaces
  have h1 : (1 : Int) > 0 := by omega
  simp only [h1, if_true, Int.ediv_one]
  split <;> omega
theorem slicePart_ {v : Value} {o : Option Int} {Q : Option Int → Shared → Prop} (p : IsPart v o) (h : Q o s) : wpAny (model prog w) A (Builtin.Slice.slicePartIndex v) Q E s := by
  cases p with
  | none => exact slicePart_none h
  | int i t => exact slicePart_int h
theorem sliceApplied_gen {sl : Addr} {vl vu : Value} {lo hi : Option Int} {n : Nat} {Q : Int × Int × Nat → Shared → Prop} (hs : s.heap.IsSliceOf sl vl vu .none) (pl : IsPart vl lo) (pu : IsPart vu hi)
    (h : Q (((sIx n 0 lo : Nat) : Int), 1, sIx n n hi - sIx n 0 lo) s) : wpAny (model prog w) A (Builtin.Slice.sliceApplied (.ref sl) (pure (n : Int))) Q E s := by
  obtain ⟨os, hos, hcs, hds⟩ := id hs
  unfold Builtin.Slice.sliceApplied Builtin.Slice.sliceFields
  refine wpAny_bind (wpAny_bind (wpAny_field hos hds (x := vl) rfl (wpAny_bind (wpAny_field hos hds (x := vu) rfl (wpAny_bind (wpAny_field hos hds (x := .none) rfl (wpAny_pure ?_)))))))
  refine wpAny_bind (slicePart_none ?_)
  show wpAny _ _ (if ((1 : Int) == 0) = true then _ else _) _ _ s
  rw [if_neg (by decide)]
  refine wpAny_bind (slicePart_ pl (wpAny_bind (slicePart_ pu (wpAny_bind (wpAny_pure ?_)))))
  show wpAny _ _ (match Builtin.Slice.sliceAdjust lo hi 1 (n : Int) with | (lo, hi) => pure (lo, (1 : Int), Builtin.Slice.slicePlaces lo hi 1)) _ _ s
  rw [adjust_gen lo hi n]
  show wpAny _ _ (pure (((sIx n 0 lo : Nat) : Int), (1 : Int), Builtin.Slice.slicePlaces ((sIx n 0 lo : Nat) : Int) ((sIx n n hi : Nat) : Int) 1)) _ _ s
  rw [places_gen]
  exact wpAny_pure h
theorem pick_gen (xs : Array Value) (i k : Nat) : ((List.range k).filterMap fun (m : Nat) => xs[((i : Int) + (m : Int) * 1).toNat]?).toArray = ((xs.toList.drop i).take k).toArray := by
  have e : (fun (m : Nat) => xs[((i : Int) + (m : Int) * 1).toNat]?) = fun m => xs[i + m]? := by
    funext m
    have : ((i : Int) + (m : Int) * 1).toNat = i + m := by omega
    rw [this]
  rw [e]
  have := pick_run xs i k
  rw [List.filterMap_map] at this
  have e2 : ((fun x => xs[x]?) ∘ fun x => i + x) = fun m => xs[i + m]? := rfl
  rw [e2] at this
  rw [this]

theorem getItem_tuple_cut {t sl : Addr} {items : Array Value} {vl vu : Value} {lo hi : Option Int} {Q : Value → Shared → Prop} (ht : IsTup s.heap t items) (hs : s.heap.IsSliceOf sl vl vu .none) (pl : IsPart vl lo) (pu : IsPart vu hi)
    (hw : ¬ (sIx items.size 0 lo = 0 ∧ sIx items.size items.size hi = items.size))
    (h : Q (.ref s.heap.objs.size) { s with heap := s.heap.push { cls := .type "tuple", data := .seq ((items.toList.drop (sIx items.size 0 lo)).take (sIx items.size items.size hi - sIx items.size 0 lo)).toArray } })
    (hsz : items.size ≤ sizeLine) : wpAny (model prog w) A (getItem (.ref t) (.ref sl)) Q E s := by
  have htake : sizeOk (.seq ((items.toList.drop (sIx items.size 0 lo)).take (sIx items.size items.size hi - sIx items.size 0 lo)).toArray) := by
    show ((items.toList.drop (sIx items.size 0 lo)).take (sIx items.size items.size hi - sIx items.size 0 lo)).toArray.size ≤ sizeLine
    rw [List.size_toArray, List.length_take, List.length_drop, Array.length_toList]
    omega
  have hj : sIx items.size items.size hi ≤ items.size := sIx_le _ _ (Nat.le_refl _) hi
  obtain ⟨os, hos, hcs, hds⟩ := id hs
  have hTs : s.TypeIs (.ref sl) "slice" := ⟨os, hos, hcs⟩
  unfold getItem
  try with_reducible refine wpAny_holding ?_
  first | refine wpAny_bind (wpAny_pure ?_) | skip
  refine wpAny_bind (wpAny_sequenceKey ht.typeIs (by decide) ?_)
  refine wpAny_bind (wpAny_callSpecial?_slot (name := Str.ofString "__getitem__") ht.typeIs PyProof.Rows.slot_tuple_getitem
    (wpAny_call_entry PyProof.Rows.slot_tuple_getitem ht.typeIs entry_tuple_getitem ?_ (args_tuple_getitem _ _)))
  show wpAny _ _ (Builtin.Tuple.tupleItemsOf (.ref t) >>= _) _ _ s
  refine wpAny_bind (tupleItemsOf_ ht ?_)
  refine wpAny_bind (wpAny_typeOf hTs ?_)
  rw [if_pos (by decide)]
  refine wpAny_bind (sliceApplied_gen hs pl pu ?_)
  have hno : ¬ ((((sIx items.size 0 lo : Nat) : Int) == 0 && (1 : Int) == 1 && (sIx items.size items.size hi - sIx items.size 0 lo) == items.size) = true) := by
    intro q
    rw [Bool.and_eq_true, Bool.and_eq_true] at q
    have q1 : ((sIx items.size 0 lo : Nat) : Int) = 0 := eq_of_beq q.1.1
    have q2 : sIx items.size items.size hi - sIx items.size 0 lo = items.size := eq_of_beq q.2
    exact hw ⟨by omega, by omega⟩
  show wpAny _ _ (if (((sIx items.size 0 lo : Nat) : Int) == 0 && (1 : Int) == 1 && (sIx items.size items.size hi - sIx items.size 0 lo) == items.size) = true then _ else _) _ _ s
  rw [if_neg hno, pick_gen]
  first
    | exact wpAny_bind (m := Builtin.Tuple.tupleExact _) (wpAny_newObj_type (wpAny_pure ⟨_, rfl, wpAny_pure h⟩) htake)
    | exact wpAny_bind (m := Builtin.Tuple.tupleExact _) (wpAny_newObj_type (wpAny_bind (wpAny_pure (wpAny_pure ⟨_, rfl, wpAny_pure h⟩))) htake)
    | exact wpAny_bind (wpAny_bind (m := Builtin.Tuple.tupleExact _) (wpAny_newObj_type (wpAny_pure (wpAny_pure ⟨_, rfl, wpAny_pure h⟩)) htake))
    | exact wpAny_bind (wpAny_bind (m := Builtin.Tuple.tupleExact _) (wpAny_newObj_type (wpAny_pure ⟨_, rfl, wpAny_pure h⟩) htake))
end
end HT

namespace L2
open PySem PySem.Spec PyProof.Rows

/-! ### the parts of a slice -/
abbrev TO := St → Hp → (Option Int → Hp → Prop) → Prop
/-- a slice's part (left out, or an int) -/
def PO (X : Cx) (e : Option Expr) (t : TO) : Prop :=
  ∀ (pins : List (Addr × Obj)) (s : Shared) (σ : St) (H : Hp) (Q : Option Int → Hp → Prop), Inv X pins σ H s → t σ H Q →
    wpAny (model X.prog X.w) X.A (evalPart e X.env) (fun u s' => ∃ o H', Inv X pins σ H' s' ∧ IsPart u o ∧ Q o H') X.xe s
def tNoPart : TO := fun _ H Q => Q none H
def tPart (t : TE) : TO := fun σ H Q => t σ H fun x H1 => ∃ i, x = .int i ∧ Q (some i) H1

theorem intsAre_of {ns : List Int} : ∀ {us : List Value}, Vals (ns.map V.int) us → IntsAre us ns := by
  induction ns with
  | nil => intro us r; rw [List.map_nil] at r; cases r; exact .nil
  | cons n ns ih =>
    intro us r
    rw [List.map_cons] at r
    cases r with
    | cons r1 r2 =>
      obtain ⟨t, e⟩ := r1
      subst e
      exact .cons n t (ih r2)

section
variable {X : Cx} {e : Expr} {te : TE} {lo hi : Option Expr} {tl th : TO} {pos p2 : Pos}

theorem po_none : PO X none tNoPart := by
  intro pins s σ H Q I h
  rw [evalPart_none]
  exact wpAny_pure ⟨none, H, I, .none, h⟩
theorem po_some (h : PE X e te) : PO X (some e) (tPart te) := by
  intro pins s σ H Q I hw
  rw [evalPart_some]
  refine thn (h pins s σ H _ I hw) fun u s1 ⟨x, H1, I1, r1, q1⟩ => ?_
  obtain ⟨i, rfl, q⟩ := q1
  obtain ⟨t, rfl⟩ := r1
  exact ⟨some i, H1, I1, .int i t, q⟩

/-- what a slice of a value is, by values: the slice object stands at sl -/
def SlR (X : Cx) (r : V → Option Int → Option Int → Hp → VK → Prop) : Prop :=
  ∀ (pins : List (Addr × Obj)) (s : Shared) (σ : St) (H : Hp) (x : V) (v vl vu : Value) (lo hi : Option Int) (sl : Addr) (Q : VK), Inv X pins σ H s → RelV x v → s.heap.IsSliceOf sl vl vu .none → IsPart vl lo → IsPart vu hi → r x lo hi H Q →
    ∃ T id, typeLookup (.type T) "__getitem__" = pure (some (.builtin id)) ∧ s.TypeIs v T ∧ wpAny (model X.prog X.w) X.A (getItem v (.ref sl)) (EP X pins σ Q) X.xe s
theorem SlR.or {r r' : V → Option Int → Option Int → Hp → VK → Prop} (h : SlR X r) (h' : SlR X r') : SlR X (fun x lo hi H Q => r x lo hi H Q ∨ r' x lo hi H Q) := by
  intro pins s σ H x v vl vu lo hi sl Q I rx hs pl pu q
  rcases q with q | q
  · exact h pins s σ H x v vl vu lo hi sl Q I rx hs pl pu q
  · exact h' pins s σ H x v vl vu lo hi sl Q I rx hs pl pu q
def tSl (r : V → Option Int → Option Int → Hp → VK → Prop) (te : TE) (tl th : TO) : TE := fun σ H Q => te σ H fun x H1 => tl σ H1 fun l H2 => th σ H2 fun u H3 => r x l u H3 Q
/-- a[lo:hi], any a -/
theorem pe_slice {r : V → Option Int → Option Int → Hp → VK → Prop} (hr : SlR X r) (he : PE X e te) (hl : PO X lo tl) (hu : PO X hi th) : PE X (.Subscript e (.Slice lo hi none p2) pos) (tSl r te tl th) := by
  intro pins s σ H Q I h
  refine Subscript_ (thn (he pins s σ H _ I h) fun v s1 ⟨x, H1, I1, r1, q1⟩ => ?_)
  refine wpAny_Slice (thn (hl pins s1 σ H1 _ I1 q1) fun vl s2 ⟨l, H2, I2, pl, q2⟩ => thn (hu pins s2 σ H2 _ I2 q2) fun vu s3 ⟨u, H3, I3, pu, q3⟩ => ?_)
  rw [evalPart_none]
  refine wpAny_pure ?_
  have I4 : Inv X pins σ H3 { s3 with heap := s3.heap.push { cls := .type "slice", data := .fields #[vl, vu, .none] } } := I3.kept (t' := s3.toks) fun b ob q => Heap.get?_push_of_some _ q
  obtain ⟨T, id, hT, ht, hg⟩ := hr pins { s3 with heap := s3.heap.push { cls := .type "slice", data := .fields #[vl, vu, .none] } } σ H3 x v vl vu l u s3.heap.objs.size Q I4 r1 (Heap.IsSliceOf.new ..) pl pu q3
  show wpAny (model X.prog X.w) X.A (subscriptTail e (.Slice lo hi none p2) v (.ref s3.heap.objs.size)) (EP X pins σ Q) X.xe { s3 with heap := s3.heap.push { cls := .type "slice", data := .fields #[vl, vu, .none] } }
  exact tail_any (ops := [.ref s3.heap.objs.size, v]) ht hT hg (by with_unfolding_all rfl)

/-- the items of xs[lo:hi] -/
def cutV (xs : List V) (lo hi : Option Int) : List V := (xs.drop (HT.sIx xs.length 0 lo)).take (HT.sIx xs.length xs.length hi - HT.sIx xs.length 0 lo)
theorem cutV_length (xs : List V) (lo hi : Option Int) : (cutV xs lo hi).length ≤ xs.length := by
  unfold cutV
  rw [List.length_take, List.length_drop]
  omega
/-- t[lo:hi], not the whole of it (the whole would be t itself) -/
def rSlT (K : PySem.W.Frag) : V → Option Int → Option Int → Hp → VK → Prop := fun x lo hi H Q => ∃ a xs, x = .ref a ∧ SqT K H a xs ∧
  ¬ (HT.sIx xs.length 0 lo = 0 ∧ HT.sIx xs.length xs.length hi = xs.length) ∧ ∀ p, H p = none → Q (.ref p) (upd H p (.tup (cutV xs lo hi)))
theorem sl_tup : SlR X (rSlT X.K) := by
  intro pins s σ H x v vl vu lo hi sl Q I rx hs pl pu h
  obtain ⟨a, xs, rfl, hx, hw, q⟩ := h
  cases rx
  obtain ⟨its, r, ht, hz⟩ := I.tuple hx
  have hlen : its.toArray.size = xs.length := by rw [List.size_toArray]; exact r.length.symm
  refine ⟨"tuple", _, PyProof.Rows.slot_tuple_getitem.lookup, ht.typeIs, ?_⟩
  refine HT.getItem_tuple_cut ht hs pl pu (by rw [hlen]; exact hw) ?_ (by rw [hlen]; exact hz)
  rw [hlen]
  refine ⟨.ref s.heap.objs.size, _, I.laid (t' := s.toks) (o := .tup (cutV xs lo hi)) (fun b ob q => Heap.get?_push_of_some _ q) (Nat.le_refl _) ?_, rfl, q _ (I.hok.fresh (Nat.le_refl _))⟩
  exact ⟨Nat.le_trans (cutV_length xs lo hi) hz, _, (r.drop (HT.sIx xs.length 0 lo)).take (HT.sIx xs.length xs.length hi - HT.sIx xs.length 0 lo), IsTup.new _ _⟩

/-! ### t < u, t + u -/
def rLtT (K : PySem.W.Frag) : R2 := fun x y H Q => ∃ a b ns ms, x = .ref a ∧ y = .ref b ∧ SqT K H a (ns.map V.int) ∧ SqT K H b (ms.map V.int) ∧ Q (.bl (HT.lexLt ns ms)) H
theorem op_ltT (hu : X.A.units < cLine) : OpR X (compareOp .Lt) (rLtT X.K) := by
  intro pins s σ H x y v u Q I rx ry h
  obtain ⟨a, b, ns, ms, rfl, rfl, ha, hb, q⟩ := h
  cases rx
  cases ry
  obtain ⟨its, r1, p1, _⟩ := I.tuple ha
  obtain ⟨its2, r2, p2, _⟩ := I.tuple hb
  have i1 : IntsAre its.toArray.toList ns := intsAre_of r1
  have i2 : IntsAre its2.toArray.toList ms := intsAre_of r2
  exact HT.lt_tupInts p1 p2 i1 i2 hu ⟨.bl (HT.lexLt ns ms), H, I, rfl, q⟩
/-- t + u, t not empty: u empty gives t itself -/
def rCatT (K : PySem.W.Frag) : R2 := fun x y H Q => ∃ a b xs ys, x = .ref a ∧ y = .ref b ∧ SqT K H a xs ∧ SqT K H b ys ∧ xs ≠ [] ∧ xs.length + ys.length ≤ sizeLine ∧
  (ys = [] → Q (.ref a) H) ∧ (ys ≠ [] → ∀ p, H p = none → Q (.ref p) (upd H p (.tup (xs ++ ys))))
theorem Vals.nil_iff {xs : List V} {us : List Value} (r : Vals xs us) : us = [] ↔ xs = [] := by
  cases r with
  | nil => simp
  | cons _ _ => simp
theorem op_catT : OpR X (binaryOp .Add) (rCatT X.K) := by
  intro pins s σ H x y v u Q I rx ry h
  obtain ⟨a, b, xs, ys, rfl, rfl, ha, hb, hx, hz, q1, q2⟩ := h
  cases rx
  cases ry
  obtain ⟨its, r1, p1, _⟩ := I.tuple ha
  obtain ⟨its2, r2, p2, _⟩ := I.tuple hb
  refine HT.cat_tup p1 p2 (fun z => hx (r1.nil_iff.mp z)) (fun z => ⟨.ref a, H, I, rfl, q1 (r2.nil_iff.mp z)⟩) (fun z => ?_) (by rw [← r1.length, ← r2.length]; exact hz)
  refine ⟨.ref s.heap.objs.size, _, I.laid (t' := s.toks) (o := .tup (xs ++ ys)) (fun b ob q => Heap.get?_push_of_some _ q) (Nat.le_refl _) ?_, rfl, q2 (fun w => z (r2.nil_iff.mpr w)) _ (I.hok.fresh (Nat.le_refl _))⟩
  exact ⟨by rw [List.length_append]; exact hz, _, r1.append r2, IsTup.new _ _⟩
/-- tuple(t) -/
theorem call_tupleT : CallR X (.type "tuple") (fun xs H Q => ∃ a ys, xs = [.ref a] ∧ SqT X.K H a ys ∧ Q (.ref a) H) := by
  intro pins s σ H xs us Q I r h
  obtain ⟨a, ys, rfl, ha, q⟩ := h
  obtain ⟨u, rfl, ru⟩ := vals1 r
  cases ru
  obtain ⟨its, _, p1, _⟩ := I.tuple ha
  exact call_tuple_same (items := its.toArray) p1 ⟨.ref a, H, I, rfl, q⟩
end
end L2

namespace L2
open PySem PySem.Spec PyProof.Rows

/-! ### places -/
/-- the place that an index of any sign means -/
def ixN (n : Nat) (i : Int) : Option Nat := if 0 ≤ i then (if i < n then some i.toNat else none) else if -(n : Int) ≤ i then some (i + n).toNat else none
def atI {α : Type} (xs : List α) (i : Int) : Option α := (ixN xs.length i).bind fun j => xs[j]?
theorem ixN_seq {n : Nat} {i : Int} {j : Nat} (h : ixN n i = some j) : seqIndex? i n = some j ∧ j < n ∧ -(n : Int) ≤ i ∧ i < n := by
  unfold ixN at h
  by_cases h0 : 0 ≤ i
  · rw [if_pos h0] at h
    by_cases h1 : i < n
    · rw [if_pos h1] at h
      have e : i.toNat = j := Option.some.inj h
      exact ⟨by rw [seqIndex_of h0 h1, e], by omega, by omega, h1⟩
    · rw [if_neg h1] at h; cases h
  · rw [if_neg h0] at h
    by_cases h1 : -(n : Int) ≤ i
    · rw [if_pos h1] at h
      have e : (i + n).toNat = j := Option.some.inj h
      exact ⟨by rw [seqIndex_neg (by omega) h1, e], by omega, h1, by omega⟩
    · rw [if_neg h1] at h; cases h
theorem atI_get {α : Type} {xs : List α} {i : Int} {v : α} (h : atI xs i = some v) : ∃ j, seqIndex? i xs.length = some j ∧ xs[j]? = some v ∧ j < xs.length ∧ -(xs.length : Int) ≤ i ∧ i < xs.length := by
  unfold atI at h
  cases e : ixN xs.length i with
  | none => rw [e] at h; cases h
  | some j =>
    rw [e] at h
    obtain ⟨h1, h2, h3, h4⟩ := ixN_seq e
    exact ⟨j, h1, h, h2, h3, h4⟩
theorem atI_nat {α : Type} {xs : List α} {j : Nat} {v : α} (h : xs[j]? = some v) : atI xs (j : Int) = some v := by
  have hj : j < xs.length := (List.getElem?_eq_some_iff.mp h).1
  have e : ixN xs.length (j : Int) = some j := by
    unfold ixN
    rw [if_pos (by omega), if_pos (by omega)]; simp
  unfold atI; rw [e]; exact h
theorem atI_last {α : Type} (xs : List α) (v : α) : atI (xs ++ [v]) (-1) = some v := by
  have hl : (xs ++ [v]).length = xs.length + 1 := by simp
  have e : ixN (xs ++ [v]).length (-1) = some xs.length := by
    unfold ixN
    rw [hl, if_neg (by decide), if_pos (by omega)]
    congr 1
    omega
  unfold atI
  rw [e]
  show (xs ++ [v])[xs.length]? = some v
  simp

/-! ### what may be subscripted -/
/-- what stands as an index of a plain subscript -/
def PlainIx (b : Expr) : Prop := ∀ o i, subscripted b false o i = operate [o, i] (getItem o i)
/-- a subscript by values -/
def IxR (X : Cx) (r : R2) : Prop :=
  ∀ (value slice : Expr) (pins : List (Addr × Obj)) (s : Shared) (σ : St) (H : Hp) (x y : V) (v u : Value) (Q : VK), Inv X pins σ H s → RelV x v → RelV y u → r x y H Q →
    subscripted slice false v u = operate [v, u] (getItem v u) → wpAny (model X.prog X.w) X.A (subscriptTail value slice v u) (EP X pins σ Q) X.xe s
/-- a call of a builtin's method by values: the receiver, the arguments -/
def MtR (X : Cx) (id : String) (r : V → List V → Hp → VK → Prop) : Prop :=
  ∀ (pins : List (Addr × Obj)) (s : Shared) (σ : St) (H : Hp) (x : V) (xs : List V) (v : Value) (us : List Value) (Q : VK), Inv X pins σ H s → RelV x v → Vals xs us → r x xs H Q →
    wpAny (model X.prog X.w) X.A (call (.builtin id) (v :: us)) (EP X pins σ Q) X.xe s
section
variable {X : Cx} {a b : Expr} {ta tb : TE} {pos : Pos}
theorem IxR.or {r r' : R2} (h : IxR X r) (h' : IxR X r') : IxR X (fun x y H Q => r x y H Q ∨ r' x y H Q) := by
  intro value slice pins s σ H x y v u Q I rx ry q hs
  rcases q with q | q
  · exact h value slice pins s σ H x y v u Q I rx ry q hs
  · exact h' value slice pins s σ H x y v u Q I rx ry q hs
theorem MtR.or {id : String} {r r' : V → List V → Hp → VK → Prop} (h : MtR X id r) (h' : MtR X id r') : MtR X id (fun x xs H Q => r x xs H Q ∨ r' x xs H Q) := by
  intro pins s σ H x xs v us Q I rx rs q
  rcases q with q | q
  · exact h pins s σ H x xs v us Q I rx rs q
  · exact h' pins s σ H x xs v us Q I rx rs q
/-- a[b] -/
theorem pe_ix {r : R2} (hr : IxR X r) (ha : PE X a ta) (hb : PE X b tb) (hs : PlainIx b) : PE X (.Subscript a b pos) (tOp r ta tb) := by
  intro pins s σ H Q I h
  exact Subscript_ (binT ha hb I h fun v u s2 x y H2 I2 rx ry q => hr a b pins s2 σ H2 x y v u Q I2 rx ry q (hs _ _))

def rIxL (K : PySem.W.Frag) : R2 := fun x y H Q => ∃ p xs i v, x = .ref p ∧ y = .int i ∧ SqL K H p xs ∧ atI xs i = some v ∧ Q v H
def rIxT (K : PySem.W.Frag) : R2 := fun x y H Q => ∃ p xs i v, x = .ref p ∧ y = .int i ∧ SqT K H p xs ∧ atI xs i = some v ∧ Q v H
def rIxS : R2 := fun x y H Q => ∃ z i c, x = .str z ∧ y = .int i ∧ z.length ≤ sizeLine ∧ atI z.cps.toList i = some c ∧ Q (.str ⟨#[c]⟩) H
theorem ix_list : IxR X (rIxL X.K) := by
  intro value slice pins s σ H x y v u Q I rx ry h hs
  obtain ⟨p, xs, i, z, rfl, rfl, hq, he, q⟩ := h
  cases rx
  obtain ⟨t, rfl⟩ := ry
  obtain ⟨its, r, pl, hz⟩ := I.list hq
  obtain ⟨j, h1, h2, h3, h4, h5⟩ := atI_get he
  obtain ⟨w, ew, rw'⟩ := r.get h2
  have hl := r.length
  have hn := line63
  have fin : EP X pins σ Q w s := ⟨z, H, I, rw', q⟩
  by_cases h0 : 0 ≤ i
  · have hj : i.toNat = j := by
      rw [seqIndex_of h0 h5] at h1
      exact Option.some.inj h1
    exact item_listR pl.isList h0 (by omega) (by rw [hj]; simpa using ew) fin hs
  · have hj : (i + (its.toArray.size : Int)).toNat = j := by
      rw [seqIndex_neg (by omega) h4] at h1
      rw [List.size_toArray, ← hl]
      exact Option.some.inj h1
    exact subscriptTail_builtinR (x := w) pl.isList.typeIs slot_list_getitem.lookup
      (wpAny_getItem_list_neg (Q := fun r s' => r = w ∧ EP X pins σ Q r s') pl.isList (by omega) (by rw [List.size_toArray] <;> omega) (by omega) (by rw [hj]; simpa using ew) ⟨rfl, fin⟩) hs
theorem ix_tup : IxR X (rIxT X.K) := by
  intro value slice pins s σ H x y v u Q I rx ry h hs
  obtain ⟨p, xs, i, z, rfl, rfl, hq, he, q⟩ := h
  cases rx
  obtain ⟨t, rfl⟩ := ry
  obtain ⟨its, r, pl, hz⟩ := I.tuple hq
  obtain ⟨j, h1, h2, h3, h4, h5⟩ := atI_get he
  obtain ⟨w, ew, rw'⟩ := r.get h2
  have hl := r.length
  have hn := line63
  have fin : EP X pins σ Q w s := ⟨z, H, I, rw', q⟩
  exact subscriptTail_builtinR (x := w) pl.typeIs slot_tuple_getitem.lookup
    (getItem_tuple (j := j) (Q := fun r s' => r = w ∧ EP X pins σ Q r s') pl (by omega) (by omega) (by rw [List.size_toArray, ← hl]; exact h1) (by simpa using ew) ⟨rfl, fin⟩) hs
theorem ix_str : IxR X rIxS := by
  intro value slice pins s σ H x y v u Q I rx ry h hs
  obtain ⟨z, i, c, rfl, rfl, hz, he, q⟩ := h
  obtain ⟨t, rfl⟩ := rx
  obtain ⟨t', rfl⟩ := ry
  obtain ⟨j, h1, h2, h3, h4, h5⟩ := atI_get he
  have hl : z.cps.toList.length = z.length := by simp [Str.length]
  rw [hl] at h1 h4 h5
  have hn := line63
  exact tail_any (typeIs_str s z t) slot_str_getitem.lookup (getItem_str (c := c) (by
    have e1 : decide (i < -(2 ^ 63 : Int)) = false := decide_eq_false (by omega)
    have e2 : decide (i ≥ 2 ^ 63) = false := decide_eq_false (by omega)
    rw [e1, e2, Bool.or_false]) (by rw [h1]; simpa using h2) ⟨.str ⟨#[c]⟩, H, I.tok _, ⟨_, rfl⟩, q⟩) hs
/-- list, tuple or str -/
def rIx (K : PySem.W.Frag) : R2 := fun x y H Q => rIxL K x y H Q ∨ rIxT K x y H Q ∨ rIxS x y H Q
theorem ix_seq : IxR X (rIx X.K) := ix_list.or (ix_tup.or ix_str)

/-! ### xs[i] = v, any sign -/
/-- the list's object behind a store -/
theorem mapSeq_set (its : List Value) (n j : Nat) (u : Value) : Obj.mapSeq (·.setIfInBounds j u) { cls := .type "list", data := .seq its.toArray n } = { cls := .type "list", data := .seq (its.set j u).toArray n } := by
  simp [Obj.mapSeq]
theorem Inv.lst {pins : List (Addr × Obj)} {σ : St} {H : Hp} {s : Shared} {p : Addr} {xs : List V} (I : Inv X pins σ H s) (h : H p = some (.lst xs)) :
    ∃ (its : List Value) (n : Nat), Vals xs its ∧ s.heap.get? p = some { cls := .type "list", data := .seq its.toArray n } ∧ xs.length ≤ sizeLine := by
  obtain ⟨z, its, n, r, e⟩ := I.hok p _ h
  exact ⟨its, n, r, e, z⟩
/-- the list at p is written by an update of its object -/
theorem Inv.lstUpd {pins : List (Addr × Obj)} {σ : St} {H : Hp} {s : Shared} {p : Addr} {xs ys : List V} {its its' : List Value} {n n' : Nat} {f : Obj → Obj} (I : Inv X pins σ H s) (h : H p = some (.lst xs))
    (ho : s.heap.get? p = some { cls := .type "list", data := .seq its.toArray n }) (hf : f { cls := .type "list", data := .seq its.toArray n } = { cls := .type "list", data := .seq its'.toArray n' }) (r : Vals ys its') (hz : ys.length ≤ sizeLine) (t : Nat) :
    Inv X pins σ (upd H p (.lst ys)) { s with heap := s.heap.update p f, toks := t } := by
  have e : (s.heap.update p f).get? p = some { cls := .type "list", data := .seq its'.toArray n' } := by
    rw [Heap.get?_update_self f ho (by rw [hf] <;> rfl), hf]
  refine I.write (x := p) (e := p) (by rw [h]; trivial) (.inl rfl) (fun b u hb q => (Heap.get?_update_other _ _ (Ne.symm hb)).trans q) ⟨_, e⟩ ?_
  exact ⟨hz, its', n', r, e⟩
def rSetL : V → V → V → Hp → (Hp → Prop) → Prop := fun o i v H Q => ∃ p xs k j, o = .ref p ∧ i = .int k ∧ H p = some (.lst xs) ∧ ixN xs.length k = some j ∧ Q (upd H p (.lst (xs.set j v)))
theorem set_list : PSet X rSetL := by
  intro pins s σ H o i v ov iv u Q I ro ri rv h
  obtain ⟨p, xs, k, j, rfl, rfl, hp, hj, q⟩ := h
  cases ro
  obtain ⟨t, rfl⟩ := ri
  obtain ⟨its, n, r, ho, hz⟩ := I.lst hp
  obtain ⟨h1, h2, h3, h4⟩ := ixN_seq hj
  have hl := r.length
  have hn := line63
  have I' : Inv X pins σ (upd H p (.lst (xs.set j v))) { s with heap := s.heap.update p (Obj.mapSeq (·.setIfInBounds j u)) } :=
    I.lstUpd hp ho (mapSeq_set its n j u) (r.set rv j) (by rw [List.length_set]; exact hz) s.toks
  by_cases h0 : 0 ≤ k
  · have hk : k.toNat = j := by
      rw [seqIndex_of h0 h4] at h1
      exact Option.some.inj h1
    exact PySem.W.ki_setAt ho h0 (by omega) (by rw [List.size_toArray, ← hl]; exact h4) (by rw [hk]; exact ⟨_, I', q⟩)
  · have hk : (k + (its.toArray.size : Int)).toNat = j := by
      rw [seqIndex_neg (by omega) h3] at h1
      rw [List.size_toArray, ← hl]
      exact Option.some.inj h1
    exact PySem.W.ki_setBack ho (by omega) (by rw [List.size_toArray, ← hl]; exact h3) (by omega) (by rw [hk]; exact ⟨_, I', q⟩)

/-! ### slices -/
theorem slice_bounds (lo hi : Option Int) (n : Nat) : (sliceBounds lo hi none n).1 = ((HT.sIx n 0 lo : Nat) : Int) ∧ (sliceBounds lo hi none n).2.1 = ((HT.sIx n n hi : Nat) : Int) ∧ (sliceBounds lo hi none n).2.2 = 1 := by
  refine ⟨?_, ?_, rfl⟩
  · cases lo with
    | none => simp [sliceBounds, HT.sIx]
    | some i =>
      simp only [sliceBounds, HT.sIx, Option.getD_none, show (1 : Int) > 0 by decide, if_true]
      by_cases h : i < 0
      · simp only [h, if_true] <;> omega
      · simp only [h, if_false] <;> omega
  · cases hi with
    | none => simp [sliceBounds, HT.sIx]
    | some i =>
      simp only [sliceBounds, HT.sIx, Option.getD_none, show (1 : Int) > 0 by decide, if_true]
      by_cases h : i < 0
      · simp only [h, if_true] <;> omega
      · simp only [h, if_false] <;> omega
theorem slicePick_cut (its : List Value) (lo hi : Option Int) : slicePick its.toArray lo hi none = ((its.drop (HT.sIx its.length 0 lo)).take (HT.sIx its.length its.length hi - HT.sIx its.length 0 lo)).toArray := by
  obtain ⟨h1, h2, h3⟩ := slice_bounds lo hi its.toArray.size
  unfold slicePick
  rw [h1, h2, h3]
  simp only [sliceRange_one, pick_run, List.size_toArray] <;> rfl
/-- xs[lo:hi] of a list: a new list -/
def rSlL (K : PySem.W.Frag) : V → Option Int → Option Int → Hp → VK → Prop := fun x lo hi H Q => ∃ a xs, x = .ref a ∧ SqL K H a xs ∧ ∀ p, H p = none → Q (.ref p) (upd H p (.lst (cutV xs lo hi)))
theorem sl_list : SlR X (rSlL X.K) := by
  intro pins s σ H x v vl vu lo hi sl Q I rx hs pl pu h
  obtain ⟨a, xs, rfl, hx, q⟩ := h
  cases rx
  obtain ⟨its, r, ht, hz⟩ := I.list hx
  have hlen := r.length
  refine ⟨"list", _, slot_list_getitem.lookup, ht.isList.typeIs, ?_⟩
  refine wpAny_getItem_list_slice ht.isList hs pl pu .none (by simp) ?_ (by rw [List.size_toArray] <;> omega)
  rw [slicePick_cut, ← hlen]
  refine ⟨.ref s.heap.objs.size, _, I.laid (t' := s.toks) (o := .lst (cutV xs lo hi)) (fun b ob q => Heap.get?_push_of_some _ q) (Nat.le_refl _) ?_, rfl, q _ (I.hok.fresh (Nat.le_refl _))⟩
  exact ⟨Nat.le_trans (cutV_length xs lo hi) hz, _, 0, (r.drop (HT.sIx xs.length 0 lo)).take (HT.sIx xs.length xs.length hi - HT.sIx xs.length 0 lo), Heap.get?_push_size _ rfl⟩

/-! ### in, not in: flat items -/
def flatV : V → Bool
  | .non => true
  | .bl _ => true
  | .int _ => true
  | .str _ => true
  | _ => false
/-- == of flat values -/
def eqV : V → V → Bool
  | .non, .non => true
  | .bl a, .bl b => a == b
  | .bl a, .int b => (if a then 1 else 0) == b
  | .int a, .bl b => a == (if b then 1 else 0)
  | .int a, .int b => a == b
  | .str a, .str b => a == b
  | _, _ => false
theorem eqAt_V {A : Around} {s : Shared} {y x : V} {u v : Value} (ry : RelV y u) (rx : RelV x v) (fy : flatV y = true) (fx : flatV x = true) : SeqAt.EqAt A s u v (eqV y x) := by
  cases y with
  | non =>
    cases ry
    cases x with
    | non => cases rx; exact SeqAt.EqAt.same _
    | bl b => cases rx; exact SeqAt.EqAt.none_bool b
    | int b => obtain ⟨t, rfl⟩ := rx; exact SeqAt.EqAt.none_int b t
    | str b => obtain ⟨t, rfl⟩ := rx; exact SeqAt.EqAt.none_str b t
    | _ => exact absurd (show false = true from fx) Bool.false_ne_true
  | bl a =>
    cases ry
    cases x with
    | non => cases rx; exact SeqAt.EqAt.bool_none a
    | bl b => cases rx; exact SeqAt.EqAt.bool_bool a b
    | int b => obtain ⟨t, rfl⟩ := rx; exact SeqAt.EqAt.bool_int a b t
    | str b => obtain ⟨t, rfl⟩ := rx; exact SeqAt.EqAt.bool_str a b t
    | _ => exact absurd (show false = true from fx) Bool.false_ne_true
  | int a =>
    obtain ⟨t', rfl⟩ := ry
    cases x with
    | non => cases rx; exact SeqAt.EqAt.int_none a t'
    | bl b => cases rx; exact SeqAt.EqAt.int_bool a t' b
    | int b => obtain ⟨t, rfl⟩ := rx; exact SeqAt.EqAt.int_int a t' b t
    | str b => obtain ⟨t, rfl⟩ := rx; exact SeqAt.EqAt.int_str a t' b t
    | _ => exact absurd (show false = true from fx) Bool.false_ne_true
  | str a =>
    obtain ⟨t', rfl⟩ := ry
    cases x with
    | non => cases rx; exact SeqAt.EqAt.str_none a t'
    | bl b => cases rx; exact SeqAt.EqAt.str_bool a t' b
    | int b => obtain ⟨t, rfl⟩ := rx; exact SeqAt.EqAt.str_int a t' b t
    | str b => obtain ⟨t, rfl⟩ := rx; exact SeqAt.EqAt.str_str a t' b t
    | _ => exact absurd (show false = true from fx) Bool.false_ne_true
  | _ => exact absurd (show false = true from fy) Bool.false_ne_true
/-- the items' answers, read off the values (a value's own answer does not lean on its token) -/
def eqU (x : V) (u : Value) : Bool := match u with
  | .none => eqV .non x
  | .bool b => eqV (.bl b) x
  | .int i _ => eqV (.int i) x
  | .str z _ => eqV (.str z) x
  | _ => false
theorem eqU_of {x y : V} {u : Value} (r : RelV y u) (f : flatV y = true) : eqU x u = eqV y x := by
  cases y with
  | non => cases r; rfl
  | bl b => cases r; rfl
  | int i => obtain ⟨t, rfl⟩ := r; rfl
  | str z => obtain ⟨t, rfl⟩ := r; rfl
  | _ => exact absurd (show false = true from f) Bool.false_ne_true
theorem any_eqU {x : V} : ∀ {xs : List V} {us : List Value}, Vals xs us → xs.all flatV = true → us.any (eqU x) = xs.any fun y => eqV y x
  | _, _, .nil, _ => rfl
  | y :: xs, u :: us, .cons r t, f => by
    rw [List.all_cons, Bool.and_eq_true] at f
    rw [List.any_cons, List.any_cons, eqU_of r f.1, any_eqU t f.2]
theorem mem_eqAt {A : Around} {s : Shared} {x : V} {v : Value} (rx : RelV x v) (fx : flatV x = true) : ∀ {xs : List V} {us : List Value}, Vals xs us → xs.all flatV = true → ∀ u ∈ us, SeqAt.EqAt A s u v (eqU x u)
  | _, _, .nil, _ => fun u hu => by cases hu
  | y :: xs, u :: us, .cons r t, f => fun u' hu => by
    rw [List.all_cons, Bool.and_eq_true] at f
    rcases List.mem_cons.mp hu with rfl | hu
    · rw [eqU_of r f.1]; exact eqAt_V r rx f.1 fx
    · exact mem_eqAt rx fx t f.2 u' hu
def inV (x : V) (xs : List V) : Bool := xs.any fun y => eqV y x
/-- x in a list or tuple of flat items -/
def rIn (K : PySem.W.Frag) (neg : Bool) : R2 := fun x y H Q => ∃ p xs, y = .ref p ∧ (SqL K H p xs ∨ SqT K H p xs) ∧ flatV x = true ∧ xs.all flatV = true ∧ Q (.bl (if neg then !inV x xs else inV x xs)) H
theorem op_in_seq : OpR X (compareOp .In) (rIn X.K false) := by
  intro pins s σ H x y v u Q I rx ry h
  obtain ⟨p, xs, rfl, hq, fx, fs, q⟩ := h
  cases ry
  rcases hq with hq | hq
  · obtain ⟨its, r, pl, hz⟩ := I.list hq
    refine SeqAt.in_listAt (eqU x) pl.isList (fun w hw => mem_eqAt rx fx r fs w (by simpa using hw)) ⟨.bl _, H, I, rfl, ?_⟩
    rw [show its.toArray.any (eqU x) = its.any (eqU x) by simp, any_eqU r fs]
    exact q
  · obtain ⟨its, r, pl, hz⟩ := I.tuple hq
    refine SeqAt.in_tupleAt (eqU x) pl (fun w hw => mem_eqAt rx fx r fs w (by simpa using hw)) ⟨.bl _, H, I, rfl, ?_⟩
    rw [show its.toArray.any (eqU x) = its.any (eqU x) by simp, any_eqU r fs]
    exact q
theorem op_notIn_seq : OpR X (compareOp .NotIn) (rIn X.K true) := by
  intro pins s σ H x y v u Q I rx ry h
  obtain ⟨p, xs, rfl, hq, fx, fs, q⟩ := h
  cases ry
  rcases hq with hq | hq
  · obtain ⟨its, r, pl, hz⟩ := I.list hq
    refine SeqAt.notIn_listAt (eqU x) pl.isList (fun w hw => mem_eqAt rx fx r fs w (by simpa using hw)) ⟨.bl _, H, I, rfl, ?_⟩
    rw [show its.toArray.any (eqU x) = its.any (eqU x) by simp, any_eqU r fs]
    exact q
  · obtain ⟨its, r, pl, hz⟩ := I.tuple hq
    refine SeqAt.notIn_tupleAt (eqU x) pl (fun w hw => mem_eqAt rx fx r fs w (by simpa using hw)) ⟨.bl _, H, I, rfl, ?_⟩
    rw [show its.toArray.any (eqU x) = its.any (eqU x) by simp, any_eqU r fs]
    exact q
theorem op_notIn_str : OpR X (compareOp .NotIn) (fun x y H Q => ∃ i j, x = .str i ∧ y = .str j ∧ Q (.bl (!(!(Builtin.Str.occurrences j i 0 j.length 1).isEmpty))) H) := by
  intro pins s σ H x y v u Q I rx ry h
  obtain ⟨i, j, rfl, rfl, q⟩ := h
  obtain ⟨t, rfl⟩ := rx
  obtain ⟨t', rfl⟩ := ry
  exact notIn_str ⟨.bl _, H, I, rfl, q⟩

/-! ### len, list(x), tuple(x) of any list or tuple that is read -/
theorem call_len_seq : CallR X (.builtin "len") (fun xs H Q => ∃ p ys, xs = [.ref p] ∧ (SqL X.K H p ys ∨ SqT X.K H p ys) ∧ Q (.int ys.length) H) := by
  intro pins s σ H xs us Q I r h
  obtain ⟨p, ys, rfl, hq, q⟩ := h
  obtain ⟨u, rfl, rx⟩ := vals1 r
  cases rx
  have hn := line63
  rcases hq with hq | hq
  · obtain ⟨its, r', pl, hz⟩ := I.list hq
    have hlen := r'.length
    exact Calls.call_len_list pl.isList (by simp only [List.size_toArray] <;> omega) ⟨.int ys.length, H, I.tok _, ⟨s.toks + 1, by rw [List.size_toArray, hlen]⟩, q⟩
  · obtain ⟨its, r', pl, hz⟩ := I.tuple hq
    have hlen := r'.length
    exact len_tuple pl (by simp only [List.size_toArray] <;> omega) ⟨.int ys.length, H, I.tok _, ⟨s.toks + 1, by rw [List.size_toArray, hlen]⟩, q⟩
theorem call_len_str : CallR X (.builtin "len") (fun xs H Q => ∃ z, xs = [.str z] ∧ z.length ≤ sizeLine ∧ Q (.int z.length) H) := by
  intro pins s σ H xs us Q I r h
  obtain ⟨z, rfl, hz, q⟩ := h
  obtain ⟨u, rfl, t, rfl⟩ := vals1 r
  have hn := line63
  exact len_str (by omega) ⟨.int z.length, H, I.tok _, ⟨_, rfl⟩, q⟩
theorem CallR.or {f : Value} {r r' : List V → Hp → VK → Prop} (h : CallR X f r) (h' : CallR X f r') : CallR X f (fun xs H Q => r xs H Q ∨ r' xs H Q) := by
  intro pins s σ H xs us Q I rs q
  rcases q with q | q
  · exact h pins s σ H xs us Q I rs q
  · exact h' pins s σ H xs us Q I rs q
theorem call_list_of : CallR X (.type "list") (fun xs H Q => ∃ p ys, xs = [.ref p] ∧ (SqL X.K H p ys ∨ SqT X.K H p ys) ∧ ∀ l, H l = none → Q (.ref l) (upd H l (.lst ys))) := by
  intro pins s σ H xs us Q I r h
  obtain ⟨p, ys, rfl, hq, q⟩ := h
  obtain ⟨u, rfl, rx⟩ := vals1 r
  cases rx
  have fin : ∀ (its : List Value), Vals ys its → ys.length ≤ sizeLine → ∀ (h' : Heap) (c' : Nat), (∀ b o', s.heap.get? b = some o' → h'.get? b = some o') →
      h'.get? s.heap.objs.size = some { cls := .type "list", dict := none, data := .seq its.toArray c', slots := #[] } → EP X pins σ Q (.ref s.heap.objs.size) { s with heap := h' } := fun its r' hz h' c' kp e =>
    ⟨.ref s.heap.objs.size, _, I.laid (t' := s.toks) kp (Nat.le_refl _) (show ObjOk X.prog X.w _ h' _ (.lst ys) from ⟨hz, its, c', r', e⟩), rfl, q _ (I.hok.fresh (Nat.le_refl _))⟩
  rcases hq with hq | hq
  · obtain ⟨its, r', pl, hz⟩ := I.list hq
    have hlen := r'.length
    obtain ⟨o, ho, hc, n, hd⟩ := pl.isList
    exact call_list_seq p (.inl rfl) ho hc hd (fun h' c' kp e => fin its r' hz h' c' kp e) (by simp only [List.size_toArray] <;> omega)
  · obtain ⟨its, r', pl, hz⟩ := I.tuple hq
    have hlen := r'.length
    obtain ⟨o, ho, hc, n, hd⟩ := pl
    exact call_list_seq p (.inr rfl) ho hc hd (fun h' c' kp e => fin its r' hz h' c' kp e) (by simp only [List.size_toArray] <;> omega)
theorem call_tuple_of : CallR X (.type "tuple") (fun xs H Q => ∃ p ys, xs = [.ref p] ∧ ((SqL X.K H p ys ∧ ∀ l, H l = none → Q (.ref l) (upd H l (.tup ys))) ∨ (SqT X.K H p ys ∧ Q (.ref p) H))) := by
  intro pins s σ H xs us Q I r h
  obtain ⟨p, ys, rfl, h⟩ := h
  obtain ⟨u, rfl, rx⟩ := vals1 r
  cases rx
  rcases h with ⟨hq, q⟩ | ⟨hq, q⟩
  · obtain ⟨its, r', pl, hz⟩ := I.list hq
    have hlen := r'.length
    refine call_tuple_list pl.isList (fun h' kp => ?_) (by simp only [List.size_toArray] <;> omega)
    have I1 : Inv X pins σ H { s with heap := h' } := I.kept (t' := s.toks) kp
    have I2 : Inv X pins σ (upd H h'.objs.size (.tup ys)) { s with heap := h'.push { cls := .type "tuple", data := .seq its.toArray } } :=
      I1.laid (t' := s.toks) (fun b o e => Heap.get?_push_of_some _ e) (Nat.le_refl _) (show ObjOk X.prog X.w _ _ _ (.tup ys) from ⟨hz, its, r', IsTup.new _ _⟩)
    exact ⟨.ref h'.objs.size, _, I2, rfl, q _ (I1.hok.fresh (Nat.le_refl _))⟩
  · obtain ⟨its, r', pl, hz⟩ := I.tuple hq
    exact call_tuple_same pl ⟨.ref p, H, I, rfl, q⟩

/-! ### the call of a builtin's method: o.m(..) -/
/-- the value is of that builtin type -/
def tyV (K : PySem.W.Frag) (T : String) (x : V) (H : Hp) : Prop := match x with
  | .str _ => T = "str"
  | .int _ => T = "int"
  | .ref p => (T = "list" ∧ ∃ xs, SqL K H p xs) ∨ (T = "tuple" ∧ ∃ o, K.lookup p = some o ∧ o.cls = .type "tuple" ∧ o.dict = none) ∨
      (T = "dict" ∧ ((∃ kvs, H p = some (.dK kvs)) ∨ ∃ kvs, H p = some (.dT kvs))) ∨ (T = "set" ∧ ∃ S n, H p = some (.set S n))
  | _ => False
theorem tyV_is {pins : List (Addr × Obj)} {σ : St} {H : Hp} {s : Shared} {T : String} {x : V} {v : Value} (I : Inv X pins σ H s) (r : RelV x v) (ty : tyV X.K T x H) :
    s.TypeIs v T ∧ ∀ a, v = .ref a → ∃ ob, s.heap.get? a = some ob ∧ ob.dict = none := by
  cases x with
  | str z =>
    obtain ⟨t, rfl⟩ := r
    cases (show T = "str" from ty)
    exact ⟨typeIs_str s z t, fun _ e => nomatch e⟩
  | int i =>
    obtain ⟨t, rfl⟩ := r
    cases (show T = "int" from ty)
    exact ⟨typeIs_int s i t, fun _ e => nomatch e⟩
  | ref p =>
    cases r
    rcases ty with ⟨rfl, xs, hq⟩ | ⟨rfl, o, hk, hc, hd⟩ | ⟨rfl, hk⟩ | ⟨rfl, S, n, hk⟩
    · obtain ⟨its, _, pl, _⟩ := I.list hq
      refine ⟨pl.isList.typeIs, fun a e => ?_⟩
      cases e
      obtain ⟨o, n, e, c, hd, _⟩ := pl
      exact ⟨o, e, hd⟩
    · refine ⟨⟨o, I.kIn p o hk, hc⟩, fun a e => ?_⟩
      cases e
      exact ⟨o, I.kIn _ o hk, hd⟩
    · have z : ∃ o, s.heap.get? p = some o ∧ o.ExactDict := by
        rcases hk with ⟨kvs, hk⟩ | ⟨kvs, hk⟩
        · obtain ⟨_, _, _, _, o, _, _, e, ex, _⟩ := I.hok p _ hk
          exact ⟨o, e, ex⟩
        · obtain ⟨_, _, _, _, o, _, _, e, ex, _⟩ := I.hok p _ hk
          exact ⟨o, e, ex⟩
      obtain ⟨o, e, ex⟩ := z
      refine ⟨⟨o, e, ex.1⟩, fun a e2 => ?_⟩
      cases e2
      exact ⟨o, e, ex.2.1⟩
    · obtain ⟨o, _, _, _, e, ex, _⟩ := I.hok p _ hk
      refine ⟨⟨o, e, ex.1⟩, fun a e2 => ?_⟩
      cases e2
      exact ⟨o, e, ex.2.1⟩
  | _ => exact False.elim ty
def tBM0 (K : PySem.W.Frag) (T : String) (r : V → List V → Hp → VK → Prop) (to : TE) : TE := fun σ H Q => to σ H fun x H1 => tyV K T x H1 ∧ r x [] H1 Q
def tBM (K : PySem.W.Frag) (T : String) (r : V → List V → Hp → VK → Prop) (to : TE) (t : TA) : TE := fun σ H Q => to σ H fun x H1 => tyV K T x H1 ∧ t σ H1 fun xs H2 => r x xs H2 Q
variable {o e : Expr} {es : List Expr} {to : TE} {t : TA} {name : Str} {apos cpos : Pos} {T id : String} {r : V → List V → Hp → VK → Prop}
theorem pe_bm0 (pa : PlainAttrs T) (slot : Slot T name id) (hty : typeOf (.builtin id) = pure (.type "method_descriptor")) (hm : MtR X id r) (ho : PE X o to)
    (hbase : attributeBase o name X.env (eval o X.env) = eval o X.env := by rfl) (hline : (apos.endLine == cpos.line) = true := by rfl) : PE X (.Call (.Attribute o name apos) [] [] cpos) (tBM0 X.K T r to) := by
  intro pins s σ H Q I h
  refine wpAny_Call_method0_late hbase hline (thn (ho pins s σ H _ I h) fun v s1 ⟨x, H1, I1, r1, ty, q1⟩ => ?_)
  obtain ⟨h1, h2⟩ := tyV_is I1 r1 ty
  exact ⟨T, id, pa, slot, hty, h1, h2, Calls.callWith_builtin rfl (PySem.evalArgs_none (hm pins s1 σ H1 x [] v [] Q I1 r1 .nil q1))⟩
theorem pe_bm (pa : PlainAttrs T) (slot : Slot T name id) (hty : typeOf (.builtin id) = pure (.type "method_descriptor")) (hm : MtR X id r) (ho : PE X o to) (ha : PA X (e :: es) t)
    (hbase : attributeBase o name X.env (eval o X.env) = eval o X.env := by rfl)
    (hfew : ((backTo cpos (starEach (e :: es) X.env)).all (fun x => !x.1) && (backToKw cpos (keywordEach [] X.env)).all (fun x => x.1.isSome)
      && decide ((e :: es).length + ([] : List Keyword).length + (if ([] : List Keyword).isEmpty then 0 else 1) < 30)) = true := by rfl)
    (hline : (apos.endLine == cpos.line) = true := by rfl) (hs : starEach (e :: es) X.env = (false, eval e X.env) :: starEach es X.env := by rfl) (hplain : (backTo cpos (starEach es X.env)).any (·.1) = false := by rfl) :
    PE X (.Call (.Attribute o name apos) (e :: es) [] cpos) (tBM X.K T r to t) := by
  intro pins s σ H Q I h
  refine wpAny_Call_method_late hbase hfew hline rfl (thn (ho pins s σ H _ I h) fun v s1 ⟨x, H1, I1, r1, ty, q1⟩ => ?_)
  obtain ⟨h1, h2⟩ := tyV_is I1 r1 ty
  refine ⟨T, id, pa, slot, hty, h1, h2, ?_⟩
  have hA := ha cpos pins s1 σ H1 _ I1 q1
  rw [hs] at hA ⊢
  refine Calls.callWith_builtin (by show (false || (backTo cpos (starEach es X.env)).any (·.1)) = false; rw [hplain] <;> rfl) (Calls.evalArgs_plain ?_)
  exact thn hA fun us s2 ⟨vs, H2, I2, r2, q2⟩ => hm pins s2 σ H2 x vs v us Q I2 r1 r2 q2
/- xs.append(e), list.index on a module's tuple .. are MtR facts of 06m -/
end
end L2

namespace L2
open PySem PySem.Spec PyProof.Rows

def MtM (X : Cx) (id : String) (r : V → List V → Hp → VK → Prop) : Prop :=
  ∀ (pins : List (Addr × Obj)) (s : Shared) (σ : St) (H : Hp) (x : V) (xs : List V) (v : Value) (us : List Value) (Q : VK), Inv X pins σ H s → RelV x v → Vals xs us → r x xs H Q →
    wpAny (model X.prog X.w) X.A (call (.builtin id) (v :: us)) (EP X pins σ Q) X.xe s

/-! ### lists of values -/
theorem Vals.one : ∀ {x : V} {us : List Value}, Vals [x] us → ∃ u, us = [u] ∧ RelV x u
  | _, _, .cons r .nil => ⟨_, rfl, r⟩
theorem Vals.two : ∀ {x y : V} {us : List Value}, Vals [x, y] us → ∃ u v, us = [u, v] ∧ RelV x u ∧ RelV y v
  | _, _, _, .cons r (.cons q .nil) => ⟨_, _, rfl, r, q⟩
theorem Vals.zero : ∀ {us : List Value}, Vals [] us → us = []
  | _, .nil => rfl
theorem Vals.dropLast {xs : List V} {us : List Value} (h : Vals xs us) : Vals xs.dropLast us.dropLast := by
  induction h with
  | nil => exact .nil
  | cons r t ih =>
    cases t with
    | nil => exact .nil
    | cons q t' => exact .cons r ih
theorem Vals.eraseIdx : ∀ {xs : List V} {us : List Value} (i : Nat), Vals xs us → Vals (xs.eraseIdx i) (us.eraseIdx i)
  | _, _, _, .nil => .nil
  | _, _, 0, .cons _ t => t
  | _, _, i + 1, .cons r t => .cons r (Vals.eraseIdx i t)
theorem Vals.reverse {xs : List V} {us : List Value} (h : Vals xs us) : Vals xs.reverse us.reverse := by
  induction h with
  | nil => exact .nil
  | cons r t ih => rw [List.reverse_cons, List.reverse_cons]; exact Vals.append ih (.cons r .nil)
theorem Vals.rep {xs : List V} {us : List Value} (h : Vals xs us) : ∀ k : Nat, Vals (List.replicate k xs).flatten (List.replicate k us).flatten
  | 0 => .nil
  | k + 1 => by
    rw [List.replicate_succ, List.replicate_succ, List.flatten_cons, List.flatten_cons]
    exact Vals.append h (Vals.rep h k)
theorem erase_last {α : Type} (l : List α) : l.eraseIdx (l.length - 1) = l.dropLast := by
  induction l with
  | nil => rfl
  | cons a r ih =>
    cases r with
    | nil => rfl
    | cons b r =>
      have e : (a :: b :: r).length - 1 = ((b :: r).length - 1) + 1 := by
        have h1 : (a :: b :: r).length = r.length + 2 := rfl
        have h2 : (b :: r).length = r.length + 1 := rfl
        omega
      rw [e, List.eraseIdx_cons_succ, ih]
      all_goals rfl
theorem len_erase {α : Type} : ∀ (l : List α) (i : Nat), (l.eraseIdx i).length ≤ l.length
  | [], _ => Nat.le_refl _
  | _ :: _, 0 => Nat.le_succ _
  | _ :: r, i + 1 => Nat.succ_le_succ (len_erase r i)
theorem foldl_rep (its : List Value) : ∀ (k : Nat) (acc : List Value),
    List.foldl (fun x1 x2 => x1 ++ x2) acc.toArray (List.replicate k its.toArray) = (acc ++ (List.replicate k its).flatten).toArray
  | 0, acc => by simp
  | k + 1, acc => by
    have e : acc.toArray ++ its.toArray = (acc ++ its).toArray := by simp
    have e2 : (acc ++ its) ++ (List.replicate k its).flatten = acc ++ (List.replicate (k + 1) its).flatten := by
      rw [List.replicate_succ, List.flatten_cons, List.append_assoc]
    rw [← e2, ← foldl_rep its k (acc ++ its), ← e, List.replicate_succ, List.foldl_cons]

section
variable {X : Cx} {pins : List (Addr × Obj)} {σ : St} {H : Hp} {s : Shared} {l b : Addr} {xs ys zs : List V}

/-! ### the two steps: a tracked list is rewritten, a new list is laid -/
theorem Inv.lset {its its' : List Value} {n : Nat} {f : Array Value → Array Value} {t' : Nat} (I : Inv X pins σ H s) (hH : H l = some (.lst xs))
    (e : s.heap.get? l = some { cls := .type "list", data := .seq its.toArray n }) (hf : f its.toArray = its'.toArray) (hv : Vals ys its') (hz : ys.length ≤ sizeLine) :
    Inv X pins σ (upd H l (.lst ys)) { s with heap := s.heap.update l (Obj.mapSeq f), toks := t' } := by
  have q := PySem.IsL.update e f
  rw [hf] at q
  refine I.write (x := l) (e := l) (by rw [hH]; exact trivial) (.inl rfl) (fun b' u hb hu => (Heap.get?_update_other s.heap (Obj.mapSeq f) (Ne.symm hb)).trans hu) ⟨_, q⟩ ?_
  exact ⟨hz, its', _, hv, q⟩
theorem Inv.lnew {its : List Value} {t' : Nat} (I : Inv X pins σ H s) (hv : Vals ys its) (hz : ys.length ≤ sizeLine) :
    Inv X pins σ (upd H s.heap.objs.size (.lst ys)) { s with heap := s.heap.push { cls := .type "list", data := .seq its.toArray }, toks := t' } :=
  I.laid (fun _ _ q => Heap.get?_push_of_some _ q) (Nat.le_refl _) ⟨hz, its, 0, hv, Heap.get?_push_size _ rfl⟩
theorem Inv.fresh (I : Inv X pins σ H s) : H s.heap.objs.size = none := I.hok.fresh (Nat.le_refl _)
theorem Inv.lstM (I : Inv X pins σ H s) (hH : H l = some (.lst xs)) : xs.length ≤ sizeLine ∧ ∃ (its : List Value) (n : Nat), Vals xs its ∧ xs.length = its.length ∧ s.heap.get? l = some { cls := .type "list", data := .seq its.toArray n } := by
  obtain ⟨z, its, n, r, e⟩ := I.hok l _ hH
  exact ⟨z, its, n, r, r.length, e⟩

theorem notLongL {n : Nat} (h : n ≤ sizeLine) : Builtin.List.listTooLong n = false := by
  unfold Builtin.List.listTooLong
  exact decide_eq_false (by omega)
end

section
variable {X : Cx}

/-! ### methods -/
def rAppend : V → List V → Hp → VK → Prop := fun x vs H Q => ∃ l xs y, x = .ref l ∧ vs = [y] ∧ H l = some (.lst xs) ∧ xs.length < sizeLine ∧ Q .non (upd H l (.lst (xs ++ [y])))
theorem mt_append : MtM X "list.append" rAppend := by
  intro pins s σ H x vs v us Q I rx rv h
  obtain ⟨l, xs, y, rfl, rfl, hH, hz, q⟩ := h
  cases rx
  obtain ⟨u, rfl, ru⟩ := rv.one
  obtain ⟨z, its, n, r, hl, e⟩ := I.lstM hH
  refine call_meets F.slot_list_append ⟨_, e, rfl⟩ F.entry_list_append (F.args_list_append_2 _ _) (PySem.list_append l its.toArray n u (by rw [List.size_toArray]; omega)) ⟨e, ?_⟩
  refine ⟨.non, _, I.lset (its' := its ++ [u]) hH e (by simp) (r.append (.cons ru .nil)) ?_, rfl, q⟩
  rw [List.length_append, List.length_singleton]
  omega

def rExtend : V → List V → Hp → VK → Prop := fun x vs H Q => ∃ l b xs zs, x = .ref l ∧ vs = [.ref b] ∧ H l = some (.lst xs) ∧ H b = some (.lst zs) ∧ xs.length + zs.length ≤ sizeLine ∧ Q .non (upd H l (.lst (xs ++ zs)))
theorem mt_extend : MtM X "list.extend" rExtend := by
  intro pins s σ H x vs v us Q I rx rv h
  obtain ⟨l, b, xs, zs, rfl, rfl, hH, hB, hz, q⟩ := h
  cases rx
  obtain ⟨u, rfl, ru⟩ := rv.one
  cases ru
  obtain ⟨z, its, n, r, hl, e⟩ := I.lstM hH
  obtain ⟨z2, its2, n2, r2, hl2, e2⟩ := I.lstM hB
  have hsz : its.toArray.size + its2.toArray.size ≤ sizeLine := by rw [List.size_toArray, List.size_toArray]; omega
  have hlong : ¬ (!its.toArray.isEmpty && Builtin.List.listTooLong (its.toArray.size + its2.toArray.size)) = true := by
    rw [notLongL hsz, Bool.and_false]
    exact Bool.false_ne_true
  refine call_meets F.slot_list_extend ⟨_, e, rfl⟩ F.entry_list_extend (F.args_list_extend_2 _ _)
    (AutoSeq1.list_extend_list_list_0 l its.toArray n b its2.toArray n2 hlong (by rw [List.size_toArray]; omega) (by omega)) ⟨e, e2, ?_⟩
  refine ⟨.non, _, I.lset (its' := its ++ its2) hH e (by simp) (r.append r2) ?_, rfl, q⟩
  rw [List.length_append]
  omega

def rPop : V → List V → Hp → VK → Prop := fun x vs H Q => ∃ l xs y, x = .ref l ∧ vs = [] ∧ H l = some (.lst xs) ∧ xs[xs.length - 1]? = some y ∧ Q y (upd H l (.lst xs.dropLast))
theorem mt_pop : MtM X "list.pop" rPop := by
  intro pins s σ H x vs v us Q I rx rv h
  obtain ⟨l, xs, y, rfl, rfl, hH, hy, q⟩ := h
  cases rx
  have hus := rv.zero
  subst hus
  obtain ⟨z, its, n, r, hl, e⟩ := I.lstM hH
  obtain ⟨u, hu, ru⟩ := r.get hy
  have hy' : its.toArray[its.toArray.size - 1]? = some u := by
    show its.toArray[its.length - 1]? = some u
    rw [← Array.getElem?_toList, ← hl]
    exact hu
  refine call_meets F.slot_list_pop ⟨_, e, rfl⟩ F.entry_list_pop (F.args_list_pop_1 _) (MeetsSeq.list_pop_last l its.toArray n u hy' (by rw [List.size_toArray]; omega)) ⟨e, ?_⟩
  refine ⟨y, _, I.lset (its' := its.dropLast) hH e ?_ r.dropLast ?_, ru, q⟩
  · show its.toArray.eraseIdxIfInBounds (its.toArray.size - 1) = its.dropLast.toArray
    rw [List.size_toArray, List.eraseIdxIfInBounds_toArray, erase_last]
  · rw [List.length_dropLast]
    omega

def rPopAt : V → List V → Hp → VK → Prop := fun x vs H Q => ∃ l xs i k y, x = .ref l ∧ vs = [.int i] ∧ H l = some (.lst xs) ∧ -(2 ^ 63) ≤ i ∧ i < 2 ^ 63 ∧ seqIndex? i xs.length = some k ∧ xs[k]? = some y ∧ Q y (upd H l (.lst (xs.eraseIdx k)))
theorem mt_popAt : MtM X "list.pop" rPopAt := by
  intro pins s σ H x vs v us Q I rx rv h
  obtain ⟨l, xs, i, k, y, rfl, rfl, hH, h1, h2, hk, hy, q⟩ := h
  cases rx
  obtain ⟨u, rfl, ru⟩ := rv.one
  obtain ⟨t, rfl⟩ := ru
  obtain ⟨z, its, n, r, hl, e⟩ := I.lstM hH
  obtain ⟨w, hw, rw'⟩ := r.get hy
  refine call_meets F.slot_list_pop ⟨_, e, rfl⟩ F.entry_list_pop (F.args_list_pop_2 _ _)
    (MeetsSeq.list_pop_at l its.toArray n i t k w (fitsIndex_both h1 h2) (by rw [List.size_toArray, ← hl]; exact hk) (by rw [← Array.getElem?_toList]; exact hw) (by rw [List.size_toArray]; omega)) ⟨e, ?_⟩
  refine ⟨y, _, I.lset (its' := its.eraseIdx k) hH e ?_ (r.eraseIdx k) ?_, rw', q⟩
  · show its.toArray.eraseIdxIfInBounds k = (its.eraseIdx k).toArray
    rw [List.eraseIdxIfInBounds_toArray]
  · have := len_erase xs k
    omega

def rReverse : V → List V → Hp → VK → Prop := fun x vs H Q => ∃ l xs, x = .ref l ∧ vs = [] ∧ H l = some (.lst xs) ∧ Q .non (upd H l (.lst xs.reverse))
theorem mt_reverse : MtM X "list.reverse" rReverse := by
  intro pins s σ H x vs v us Q I rx rv h
  obtain ⟨l, xs, rfl, rfl, hH, q⟩ := h
  cases rx
  have hus := rv.zero
  subst hus
  obtain ⟨z, its, n, r, hl, e⟩ := I.lstM hH
  refine call_meets F.slot_list_reverse ⟨_, e, rfl⟩ F.entry_list_reverse (F.args_list_reverse_1 _) (AutoSeq1.list_reverse_list_0 l its.toArray n (by rw [List.size_toArray]; omega)) ⟨e, ?_⟩
  refine ⟨.non, _, I.lset (its' := its.reverse) hH e (by simp) r.reverse ?_, rfl, q⟩
  rw [List.length_reverse]
  omega

def rClear : V → List V → Hp → VK → Prop := fun x vs H Q => ∃ l xs, x = .ref l ∧ vs = [] ∧ H l = some (.lst xs) ∧ Q .non (upd H l (.lst []))
theorem mt_clear : MtM X "list.clear" rClear := by
  intro pins s σ H x vs v us Q I rx rv h
  obtain ⟨l, xs, rfl, rfl, hH, q⟩ := h
  cases rx
  have hus := rv.zero
  subst hus
  obtain ⟨z, its, n, r, hl, e⟩ := I.lstM hH
  refine call_meets F.slot_list_clear ⟨_, e, rfl⟩ F.entry_list_clear (F.args_list_clear_1 _) (AutoSeq1.list_clear_list_0 l its.toArray n (by rw [List.size_toArray]; omega)) ⟨e, ?_⟩
  exact ⟨.non, _, I.lset (its' := []) (ys := []) hH e rfl .nil (Nat.zero_le _), rfl, q⟩

/-! ### list + list, list += list, list * int -/
def rCat : R2 := fun x y H Q => ∃ l b xs zs, x = .ref l ∧ y = .ref b ∧ H l = some (.lst xs) ∧ H b = some (.lst zs) ∧ xs.length + zs.length ≤ sizeLine ∧ ∀ p, H p = none → Q (.ref p) (upd H p (.lst (xs ++ zs)))
theorem op_cat : OpR X (binaryOp .Add) rCat := by
  intro pins s σ H x y v u Q I rx ry h
  obtain ⟨l, b, xs, zs, rfl, rfl, hH, hB, hz, q⟩ := h
  cases rx
  cases ry
  obtain ⟨z, its, n, r, hl, e⟩ := I.lstM hH
  obtain ⟨z2, its2, n2, r2, hl2, e2⟩ := I.lstM hB
  refine PySem.P.add_list e e2 ?_ (by rw [List.size_toArray, List.size_toArray]; omega)
  have ea : its.toArray ++ its2.toArray = (its ++ its2).toArray := by simp
  rw [ea]
  exact ⟨.ref _, _, I.lnew (t' := s.toks) (r.append r2) (by rw [List.length_append]; omega), rfl, q _ I.fresh⟩
/-- a list times an int (a negative one is nothing) -/
def rRep : R2 := fun x y H Q => ∃ l k xs, x = .ref l ∧ y = .int k ∧ H l = some (.lst xs) ∧ -(2 ^ 63) ≤ k ∧ k < 2 ^ 63 ∧ xs.length * k.toNat ≤ sizeLine ∧
  ∀ p, H p = none → Q (.ref p) (upd H p (.lst (List.replicate k.toNat xs).flatten))
theorem len_rep {α : Type} (xs : List α) (k : Nat) : (List.replicate k xs).flatten.length = k * xs.length := by
  induction k with
  | zero => simp
  | succ k ih => rw [List.replicate_succ, List.flatten_cons, List.length_append, ih, Nat.succ_mul, Nat.add_comm]
theorem op_rep : OpR X (binaryOp .Mult) rRep := by
  intro pins s σ H x y v u Q I rx ry h
  obtain ⟨l, k, xs, rfl, rfl, hH, h1, h2, hz, q⟩ := h
  cases rx
  obtain ⟨t, rfl⟩ := ry
  obtain ⟨z, its, n, r, hl, e⟩ := I.lstM hH
  have hlen : its.toArray.size * k.toNat ≤ sizeLine := by rw [List.size_toArray, ← hl]; exact hz
  have hcap : ¬ its.toArray.size * k.toNat > (2 ^ 63 - 1) / 8 := by
    have : (sizeLine : Nat) ≤ (2 ^ 63 - 1) / 8 := by decide
    omega
  have hfit : ¬ (!Builtin.List.listFitsIndex k) = true := by
    rw [fitsIndex_both h1 h2]
    exact Bool.false_ne_true
  have hlong : ¬ Builtin.List.listTooLong (its.toArray.size * k.toNat) = true := by
    rw [notLongL hlen]
    exact Bool.false_ne_true
  have hnew : List.foldl (fun x1 x2 => x1 ++ x2) #[] (List.replicate (if its.toArray.isEmpty = true then 0 else k.toNat) its.toArray) = (List.replicate k.toNat its).flatten.toArray := by
    have f0 : ∀ m : Nat, List.foldl (fun x1 x2 => x1 ++ x2) #[] (List.replicate m its.toArray) = (List.replicate m its).flatten.toArray := fun m => by
      have := foldl_rep its m []
      rw [List.nil_append] at this
      exact this
    rw [f0]
    cases its with
    | nil => simp
    | cons a r' => rw [if_neg (by simp)]
  refine wpAny_binaryOp_repeat_ref (T := "list") (U := "int") (by decide) ⟨_, e, rfl⟩ (fun s' => typeIs_int s' k t) noFill_list_mul F.fills_int_mul F.slot_int_rmul repeat_list F.slot_int_index.lookup
    (call_meets F.slot_int_rmul (typeIs_int s k t) F.entry_int_rmul (F.args_int_rmul_2 _ _) (int___rmul___int_list k t l its.toArray n)
      ⟨e, rfl, ⟨_, e, rfl⟩, call_meets F.slot_list_mul ⟨_, e, rfl⟩ F.entry_list_mul (F.args_list_mul_2 _ _) (AutoListH.list___mul___list_int_3 l its.toArray n k t hfit hcap hlong) ⟨e, ?_⟩⟩)
  rw [hnew]
  exact ⟨.ref _, _, I.lnew (t' := s.toks) (r.rep k.toNat) (by rw [len_rep, Nat.mul_comm]; exact hz), rfl, q _ I.fresh⟩

/-! ### del xs[i] -/
theorem del_list {pins : List (Addr × Obj)} {s : Shared} {σ : St} {H : Hp} {l : Addr} {xs : List V} {i : Int} {t : Tok} {k : Nat} {Q : Unit → Shared → Prop} (I : Inv X pins σ H s) (hH : H l = some (.lst xs))
    (h1 : -(2 ^ 63) ≤ i) (h2 : i < 2 ^ 63) (hk : seqIndex? i xs.length = some k) (h : ∀ s', Inv X pins σ (upd H l (.lst (xs.eraseIdx k))) s' → Q () s') :
    wpAny (model X.prog X.w) X.A (delItem (.ref l) (.int i t)) Q X.xe s := by
  obtain ⟨z, its, n, r, hl, e⟩ := I.lstM hH
  refine PySem.P.delItem_list (k := k) e (fitsIndex_both h1 h2) (by rw [List.size_toArray, ← hl]; exact hk) (h _ ?_) (by rw [List.size_toArray]; omega)
  refine I.lset (its' := its.eraseIdx k) (t' := s.toks) hH e ?_ (r.eraseIdx k) ?_
  · show its.toArray.eraseIdxIfInBounds k = (its.eraseIdx k).toArray
    rw [List.eraseIdxIfInBounds_toArray]
  · have := len_erase xs k
    omega
end

/-! ### xs[a:b] = ys -/
section
variable {prog : Program} {w : World} {A : Around} {E : Value → Shared → Prop} {s : Shared}
theorem splice_eq (its its2 : List Value) (a c : Nat) : its.toArray.extract 0 a ++ its2.toArray ++ its.toArray.extract c its.toArray.size = (its.take a ++ its2 ++ its.drop c).toArray := by
  apply Array.toList_inj.mp
  first
    | (simp
       exact List.take_of_length_le (by simp))
    | simp [List.take_of_length_le]
    | simp
theorem bounds_run {a c n : Nat} (hac : a ≤ c) (hc : c ≤ n) : sliceBounds (some (a : Int)) (some (c : Int)) none n = ((a : Int), (c : Int), 1) := by
  simp only [sliceBounds, Option.getD_none]
  have h1 : ¬ ((a : Int) < 0) := by omega
  have h2 : ¬ ((c : Int) < 0) := by omega
  simp only [h1, h2, if_false, show (1 : Int) > 0 by decide, if_true]
  congr 1
  · omega
  · congr 1; omega
set_option maxRecDepth 100000 in
/-- list.__setitem__ with a slice of step one and another list -/
theorem setItem_slice {l b sl : Addr} {items new : Array Value} {n n2 : Nat} {vl vu : Value} {a c : Nat} {Q : Unit → Shared → Prop}
    (e : s.heap.get? l = some { cls := .type "list", data := .seq items n }) (e2 : s.heap.get? b = some { cls := .type "list", data := .seq new n2 }) (hne : l ≠ b)
    (hs : s.heap.IsSliceOf sl vl vu .none) (pl : IsPart vl (some (a : Int))) (pu : IsPart vu (some (c : Int))) (hac : a ≤ c) (hc : c ≤ items.size)
    (hsz : items.size + new.size ≤ sizeLine) (h : Q () { s with heap := s.heap.update l (Obj.mapSeq fun xs => xs.extract 0 a ++ new ++ xs.extract c xs.size) }) :
    wpAny (model prog w) A (setItem (.ref l) (.ref sl) (.ref b)) Q E s := by
  have hl : s.heap.IsList l items := PySem.IsL.isList e
  have hb : s.heap.IsList b new := PySem.IsL.isList e2
  obtain ⟨os, hos, hcs, hds⟩ := id hs
  have hTs : s.TypeIs (.ref sl) "slice" := ⟨os, hos, hcs⟩
  have hstep : ¬ ((rawPart none == rawInt 0) = true) := Bool.false_ne_true
  have hsame : Builtin.List.listSameRef (.ref l) (.ref b) = false := by
    unfold Builtin.List.listSameRef
    exact beq_eq_false_iff_ne.mpr hne
  have hmax : (max (a : Int) (c : Int)).toNat = c := by omega
  have hz' : ((fun xs : Array Value => xs.extract 0 a ++ new ++ xs.extract c xs.size) items).size ≤ sizeLine + 1 := by
    simp only [Array.size_append, Array.size_extract]
    omega
  unfold setItem
  try with_reducible refine wpAny_holding ?_
  first | refine wpAny_bind (wpAny_pure ?_) | skip
  refine wpAny_bind (wpAny_sequenceKey hl.typeIs (by decide) ?_)
  refine wpAny_bind (wpAny_callSpecial?_slot (name := Str.ofString "__setitem__") hl.typeIs slot_list_setitem
    (wpAny_call_entry slot_list_setitem hl.typeIs entry_list_setitem ?_ (args_list_setitem _ _ _)))
  show wpAny _ _ (Builtin.List.listSubscript? (.ref sl) >>= _) _ _ s
  refine wpAny_bind ?_
  unfold Builtin.List.listSubscript?
  refine wpAny_bind (wpAny_specialOf hTs slice_no_index ?_)
  simp only [Option.isNone_none, if_true]
  refine wpAny_pure ?_
  show wpAny _ _ (typeOf (.ref sl) >>= _) _ _ s
  refine wpAny_bind (wpAny_typeOf hTs ?_)
  first
    | rw [if_neg (by decide)]
    | refine PySem.W.KFB.if_not (by decide) ?_
  rw [listSliceParts_eq]
  refine wpAny_bind (wpAny_bind (wpAny_field hos hds (x := .none) rfl (wpAny_bind (wpAny_listPart .none ?_))))
  rw [if_neg hstep]
  refine wpAny_bind (wpAny_field hos hds (x := vl) rfl (wpAny_bind (wpAny_listPart pl ?_)))
  refine wpAny_bind (wpAny_field hos hds (x := vu) rfl (wpAny_bind (wpAny_listPart pu (wpAny_pure ?_))))
  first
    | simp only [hsame, Bool.false_eq_true, if_false]
    | refine PySem.W.KFB.if_not hsame ?_
    | (dsimp only
       rw [if_neg (by rw [hsame]; exact Bool.false_ne_true)])
  refine wpAny_bind (m := Builtin.List.listAllItems (.ref b) "must assign iterable to extended slice") ?_
  unfold Builtin.List.listAllItems
  refine wpAny_bind (wpAny_typeOf hb.typeIs ?_)
  first
    | refine PySem.W.KFB.if_so (by decide) ?_
    | rw [if_pos (by decide)]
    | simp only [beq_self_eq_true, Bool.true_or, if_true]
  unfold Builtin.List.listItems
  refine wpAny_bind (wpAny_seqItems e2 rfl (wpAny_pure ?_))
  refine wpAny_bind (wpAny_bind (wpAny_seqItems e rfl (wpAny_pure ?_)))
  refine wpAny_bind (wpAny_of_eq ((sliceIndices_raw (some (a : Int)) (some (c : Int)) none items.size (by simp)).trans (congrArg (pure : Int × Int × Int → Sem (Int × Int × Int)) (bounds_run hac hc))) ?_)
  show wpAny _ _ (if ((1 : Int) == 1) = true then _ else _) _ _ s
  rw [if_pos (by decide)]
  refine wpAny_bind (wpAny_rule ?_)
  first
    | simp only [notLongL hsz, Bool.false_eq_true, if_false]
    | refine PySem.W.KFB.if_not (notLongL hsz) ?_
  first | refine wpAny_bind (wpAny_pure ?_) | skip
  show wpAny _ _ (updateSeq l (fun xs => xs.extract 0 ((a : Int)).toNat ++ new ++ xs.extract (max (a : Int) (c : Int)).toNat xs.size) >>= _) _ _ s
  rw [hmax, Int.toNat_natCast]
  refine wpAny_bind (wpAny_updateSeq (hz := Nat.le_trans (Nat.le_add_right _ _) hsz) (_hz' := hz') e rfl ?_)
  refine wpAny_bind (wpAny_letGo ?_)
  first
    | exact wpAny_bind (wpAny_pure (wpAny_pure ⟨.none, rfl, wpAny_pure h⟩))
    | exact wpAny_pure ⟨.none, rfl, wpAny_pure h⟩
end

section
variable {X : Cx}
/-- xs[a:c] = ys of another list, at the value level: sl is the slice object that was just made -/
theorem set_slice {pins : List (Addr × Obj)} {s : Shared} {σ : St} {H : Hp} {l b sl : Addr} {xs ys : List V} {a c : Int} {vl vu : Value} {Q : Unit → Shared → Prop} (I : Inv X pins σ H s)
    (hH : H l = some (.lst xs)) (hB : H b = some (.lst ys)) (hne : l ≠ b) (hs : s.heap.IsSliceOf sl vl vu .none) (ra : RelV (.int a) vl) (rc : RelV (.int c) vu) (h0 : 0 ≤ a) (hac : a ≤ c) (hc : c ≤ xs.length)
    (hz : xs.length + ys.length ≤ sizeLine) (h : ∀ s', Inv X pins σ (upd H l (.lst (xs.take a.toNat ++ ys ++ xs.drop c.toNat))) s' → Q () s') :
    wpAny (model X.prog X.w) X.A (setItem (.ref l) (.ref sl) (.ref b)) Q X.xe s := by
  obtain ⟨ta, rfl⟩ := ra
  obtain ⟨tc, rfl⟩ := rc
  obtain ⟨z, its, n, r, hl, e⟩ := I.lstM hH
  obtain ⟨z2, its2, n2, r2, hl2, e2⟩ := I.lstM hB
  obtain ⟨a', rfl⟩ := Int.eq_ofNat_of_zero_le h0
  obtain ⟨c', rfl⟩ := Int.eq_ofNat_of_zero_le (Int.le_trans h0 hac)
  simp only [Int.toNat_natCast] at h
  refine setItem_slice (a := a') (c := c') e e2 hne hs (.int _ _) (.int _ _) (by omega) (by rw [List.size_toArray]; omega) (by rw [List.size_toArray, List.size_toArray]; omega) (h _ ?_)
  refine I.lset (its' := its.take a' ++ its2 ++ its.drop c') (t' := s.toks) hH e ?_ (Vals.append (Vals.append (r.take _) r2) (r.drop _)) ?_
  · exact splice_eq its its2 a' c'
  · rw [List.length_append, List.length_append, List.length_take, List.length_drop]
    omega
end
end L2
namespace Att
open PySem PySem.W PySem.Calls PyProof.Rows

/-! ### the script -/
theorem ints_of_wellAll {P : Params} {h : Heap} : ∀ (ns : List Int) (vs : List Value), WellAll P h vs (ns.map WData.int) → IntsAre vs ns := by
  intro ns
  induction ns with
  | nil =>
    intro vs w
    rw [List.map_nil] at w
    cases w
    exact .nil
  | cons n ns ih =>
    intro vs w
    rw [List.map_cons] at w
    cases w with
    | cons a b =>
      cases a
      exact .cons _ _ (ih _ b)

theorem script_of {l : OpenLaw} {n : Nat} (hn : l.most = some n) {P : Params} {h : Heap} {args : List WData} {vals : List Value}
    (hpre : l.row.toRowW.claim.pre args = true) (hwl : WellAll P h vals args) :
    ∃ a vs ns, vals = [Value.ref a] ∧ args = [WData.list (ns.map WData.int)] ∧ h.get? a = some { cls := .type "list", data := .seq vs.toArray } ∧ IntsAre vs ns ∧ ns.length ≤ n := by
  have hsh : WShape.hasAll [] args [.list .int] = true := (pre_splitW hpre).1
  have hc : l.pre.holds [] { args := args } = true := (pre_splitW hpre).2
  obtain ⟨d, r, rfl, h1, h2⟩ := hasAllW_cons hsh
  obtain rfl := hasAllW_nil h2
  obtain ⟨xs, rfl, h3⟩ := hasW_list h1
  obtain ⟨ns, rfl⟩ := items_int h3
  have hlen : ns.length ≤ n := by
    unfold OpenLaw.pre at hc
    have h4 : (WTm.not (.lt (.lit (.int (n : Int))) (.len (.arg 0)))).holds [] { args := [.list (ns.map .int)] } = true := by
      have h4 := (holds_andW hc).1
      rw [hn] at h4
      exact h4
    have h5 := condW_of h4 (w_not (w_lt w_lit (w_len_list (w_arg rfl))))
    rw [List.length_map] at h5
    refine Nat.le_of_not_lt fun q => ?_
    have q' : (n : Int) < ((ns.length : Nat) : Int) := by omega
    first
      | (rw [decide_eq_true q'] at h5; exact absurd h5 (by decide))
      | (simp at h5; omega)
  cases hwl with
  | cons w1 w2 =>
    cases w2
    cases w1 with
    | list ho hall => exact ⟨_, _, ns, rfl, rfl, ho, ints_of_wellAll ns _ hall, hlen⟩

theorem post_true (l : OpenLaw) (args : List WData) : l.row.toRowW.claim.post args (.bool true) args = true :=
  postW_of (r := l.row.toRowW) (X := (true == true))
    (show WShape.has [] (.bool true) .bool = true by first | rfl | decide | simp [WShape.has, WShape.arms, WShape.armsAll])
    (show (WTm.eq .res (.lit (.bool true))).value [] { args := args, res := some (.bool true), after := args } = some (.bool (true == true)) from w_eq_bool (w_res rfl) w_lit) rfl

/-! ### the attachment: holds_open's last premise (the goal 'hc' behind k_head) from a wpAny of the law's body -/
theorem attach {l : OpenLaw} {n : Nat} {q : Program} {loose : List Str} {XP : (Str → Option Value) → Heap → Prop} {YP : World → Heap → Prop} {d : DefRec} {x : Str}
    (hn : l.most = some n) (hdf : d.params.defaults = [])
    (hbind : ∀ pm cd doc v : Value, bindArgs (docDef d.name d.params d.body d.scope pm cd doc) ⟨[v], []⟩ = pure [(x, v)])
    (hx : d.scope.names.lookup x = some .local ∨ d.scope.names.lookup x = some .cell)
    (hk : d.scope.kind = .function) (hco : d.scope.isCoroutine = false) (hgen : d.scope.isGenerator = false)
    (body : ∀ (w : World) (s₀ s₁ s : Shared) (mg mb : Str → Option Value) (fa : Addr) (o : Obj) (pm cd doc : Value) (a : Addr) (vs : List Value) (ns : List Int),
      Ground q loose [] XP w s₀ mg mb s₁.heap → YP w s₁.heap →
      s₁.heap.get? fa = some o → o.data = .func (docDef d.name d.params d.body d.scope pm cd doc) → s₁.heap.CodeRec cd d.name → mg d.name = some (.ref fa) →
      s₁.heap.get? a = some { cls := .type "list", data := .seq vs.toArray } → IntsAre vs ns → ns.length ≤ n →
      s.gens = #[] → s.os = s₁.os →
      Fr s₁.heap s₁.heap.objs.size s.heap (bindL (envOfC d.name d.scope s₁.heap.objs.size fa cd).kindOf [(x, .ref a)] fun _ => none) →
      Cl s₁.heap.objs.size (cellsFrom (s₁.heap.objs.size + 1) d.scope.names []) s.heap (bindC (envOfC d.name d.scope s₁.heap.objs.size fa cd).kindOf [(x, .ref a)] fun _ => none) →
      wpAny (model l.prog w) (callerA.deeper (envOfC d.name d.scope s₁.heap.objs.size fa cd)) (execs d.body (envOfC d.name d.scope s₁.heap.objs.size fa cd))
        (fun f s' => f = .ret (.bool true) ∧ OldK s₁.heap s'.heap ∧ s'.os = s₁.os ∧ AllBare s'.gens) (fun _ _ => False) s) :
    WalkO q loose XP YP l.row.toRowW d [] (fun f vs => PySem.call f vs) := by
  intro w s₀ s₁ mg mb G Y fa o pm cd doc dV kV ho hd hcd hD hmg hg args vals as hpre hlay hrd hwl hlo
  obtain rfl : dV = .none := Dflts.none hD hdf
  obtain rfl : kV = .none := Dflts.noKw hD
  obtain ⟨a, vs, ns, rfl, rfl, hobj, hints, hlen⟩ := script_of hn hpre hwl
  refine enter_call ?_
  refine call_cells_ret (o := o) (by rw [depth_caller]; decide) ho (fd_plain hd) G.T.nolimit hcd (hbind pm cd doc (.ref a)) (fun y hy => ?_) (fun h₁ tk F X => ?_) hco hgen hk
  · obtain rfl : y = (x, Value.ref a) := List.mem_singleton.mp hy
    rcases hx with e | e
    · exact .inl e
    · exact .inr ⟨e, cellsFrom_some _ _ _ (.inl e)⟩
  · refine wpAny_mono (body w s₀ s₁ { s₁ with heap := h₁, toks := tk } mg mb fa o pm cd doc a vs ns G Y ho (fd_plain hd) hcd hmg hobj hints hlen hg rfl F X) (fun f s' hq => ?_) (fun _ _ hq => hq)
    obtain ⟨rfl, h2, h3, h4⟩ := hq
    exact ⟨.inl ⟨.bool true, .bool true, [], rfl, fun _ => rfl, .bool true, post_true l _, fun _ => ⟨List.Pairwise.nil, fun _ hm => (nomatch hm)⟩⟩, h2, h3, h4⟩

/-- the same from a codeAny of the CALL (for a layer whose function contracts speak of calls) -/
theorem attach_call {l : OpenLaw} {n : Nat} {q : Program} {loose : List Str} {XP : (Str → Option Value) → Heap → Prop} {YP : World → Heap → Prop} {d : DefRec}
    (hn : l.most = some n) (hdf : d.params.defaults = [])
    (call : ∀ (w : World) (s₀ s₁ : Shared) (mg mb : Str → Option Value) (fa : Addr) (o : Obj) (pm cd doc : Value) (a : Addr) (vs : List Value) (ns : List Int),
      Ground q loose [] XP w s₀ mg mb s₁.heap → YP w s₁.heap →
      s₁.heap.get? fa = some o → o.data = .func (docDef d.name d.params d.body d.scope pm cd doc) → s₁.heap.CodeRec cd d.name → mg d.name = some (.ref fa) →
      s₁.heap.get? a = some { cls := .type "list", data := .seq vs.toArray } → IntsAre vs ns → ns.length ≤ n → s₁.gens = #[] →
      codeAny (model l.prog w) callerA (.call (.ref fa) ⟨[.ref a], []⟩) (fun r s' => r = .ok (.ret (.bool true)) ∧ OldK s₁.heap s'.heap ∧ s'.os = s₁.os ∧ AllBare s'.gens) s₁) :
    WalkO q loose XP YP l.row.toRowW d [] (fun f vs => PySem.call f vs) := by
  intro w s₀ s₁ mg mb G Y fa o pm cd doc dV kV ho hd hcd hD hmg hg args vals as hpre hlay hrd hwl hlo
  obtain rfl : dV = .none := Dflts.none hD hdf
  obtain rfl : kV = .none := Dflts.noKw hD
  obtain ⟨a, vs, ns, rfl, rfl, hobj, hints, hlen⟩ := script_of hn hpre hwl
  refine enter_call (codeAny_mono (call w s₀ s₁ mg mb fa o pm cd doc a vs ns G Y ho (fd_plain hd) hcd hmg hobj hints hlen hg) fun r s' hq => ?_)
  obtain ⟨rfl, h2, h3, h4⟩ := hq
  exact ⟨.inl ⟨.bool true, .bool true, [], rfl, fun _ => rfl, .bool true, post_true l _, fun _ => ⟨List.Pairwise.nil, fun _ hm => (nomatch hm)⟩⟩, h2, h3, h4⟩

/-- the same where the top left finished generators (o_head chose holds_openN): nothing may have changed at all and no generator may be left -/
theorem attachN {l : OpenLaw} {n : Nat} {q : Program} {loose : List Str} {XP : (Str → Option Value) → Heap → Prop} {YP : World → Heap → Prop} {d : DefRec} {x : Str}
    (hn : l.most = some n) (hdf : d.params.defaults = [])
    (hbind : ∀ pm cd doc v : Value, bindArgs (docDef d.name d.params d.body d.scope pm cd doc) ⟨[v], []⟩ = pure [(x, v)])
    (hx : d.scope.names.lookup x = some .local ∨ d.scope.names.lookup x = some .cell)
    (hk : d.scope.kind = .function) (hco : d.scope.isCoroutine = false) (hgen : d.scope.isGenerator = false)
    (body : ∀ (w : World) (s₀ s₁ s : Shared) (mg mb : Str → Option Value) (fa : Addr) (o : Obj) (pm cd doc : Value) (a : Addr) (vs : List Value) (ns : List Int),
      Ground q loose [] XP w s₀ mg mb s₁.heap → YP w s₁.heap →
      s₁.heap.get? fa = some o → o.data = .func (docDef d.name d.params d.body d.scope pm cd doc) → s₁.heap.CodeRec cd d.name → mg d.name = some (.ref fa) →
      s₁.heap.get? a = some { cls := .type "list", data := .seq vs.toArray } → IntsAre vs ns → ns.length ≤ n →
      s.gens = #[] → s.os = s₁.os →
      Fr s₁.heap s₁.heap.objs.size s.heap (bindL (envOfC d.name d.scope s₁.heap.objs.size fa cd).kindOf [(x, .ref a)] fun _ => none) →
      Cl s₁.heap.objs.size (cellsFrom (s₁.heap.objs.size + 1) d.scope.names []) s.heap (bindC (envOfC d.name d.scope s₁.heap.objs.size fa cd).kindOf [(x, .ref a)] fun _ => none) →
      wpAny (model l.prog w) (callerA.deeper (envOfC d.name d.scope s₁.heap.objs.size fa cd)) (execs d.body (envOfC d.name d.scope s₁.heap.objs.size fa cd))
        (fun f s' => f = .ret (.bool true) ∧ (∀ b o, s₁.heap.get? b = some o → s'.heap.get? b = some o) ∧ s'.os = s₁.os ∧ s'.gens = #[]) (fun _ _ => False) s) :
    WalkN q loose XP YP l.row.toRowW d [] (fun f vs => PySem.call f vs) := by
  intro w s₀ s₁ mg mb G Y fa o pm cd doc dV kV ho hd hcd hD hmg hg args vals as hpre hlay hrd hwl hlo
  obtain rfl : dV = .none := Dflts.none hD hdf
  obtain rfl : kV = .none := Dflts.noKw hD
  obtain ⟨a, vs, ns, rfl, rfl, hobj, hints, hlen⟩ := script_of hn hpre hwl
  refine enter_callW ?_
  refine call_cells_ret (o := o) (by rw [depth_caller]; decide) ho (fd_plain hd) G.T.nolimit hcd (hbind pm cd doc (.ref a)) (fun y hy => ?_) (fun h₁ tk F X => ?_) hco hgen hk
  · obtain rfl : y = (x, Value.ref a) := List.mem_singleton.mp hy
    rcases hx with e | e
    · exact .inl e
    · exact .inr ⟨e, cellsFrom_some _ _ _ (.inl e)⟩
  · refine wpAny_mono (body w s₀ s₁ { s₁ with heap := h₁, toks := tk } mg mb fa o pm cd doc a vs ns G Y ho (fd_plain hd) hcd hmg hobj hints hlen hg rfl F X) (fun f s' hq => ?_) (fun _ _ hq => hq)
    obtain ⟨rfl, h2, h3, h4⟩ := hq
    exact ⟨.inl ⟨.bool true, .bool true, [], rfl, fun _ => rfl, .bool true, post_true l _, fun _ => ⟨List.Pairwise.nil, fun _ hm => (nomatch hm)⟩⟩, h2, h3, h4⟩

/-! ### rules over ANY heap (no ledger) from facts about the written part K: the library's own take a ledger (News) for what they write -/
section
variable {prog : Program} {w : World} {A : Around} {E : Value → Shared → Prop} {s : Shared} {K : Frag}

/-- a def of the module, or a method (qual 'C.m'), entered: the frame is the next address; cells behind it -/
theorem call_fn {R : Result → Shared → Prop} {name qual : Str} {params : Arguments} {body : List Stmt} {scope : Scope} {dV kV doc pm cdv ct oc : Value} {an od : Option Addr} {osl : Array (Option Value)} {f : Addr} {args : Args} {binds : List (Str × Value)}
    (X : K.In s.heap) (hlim : s.heap.NoLimit) (ho : K.lookup f = some ⟨oc, od, .func (fnOf name qual params body scope dV kV doc pm an cdv ct), osl⟩) (hcd : codeIn K cdv qual = true) (hroom : A.depth < recursionLimit)
    (hbind : BindsTo s (fnOf name qual params body scope dV kV doc pm an cdv ct) args binds)
    (hkind : (binds.all fun y => scope.names.lookup y.1 == some .local || scope.names.lookup y.1 == some .cell) = true)
    (h : ∀ s₁, InCallC s s.heap.objs.size (bindL (envOfC qual scope s.heap.objs.size f cdv).kindOf binds fun _ => none) (cellsFrom (s.heap.objs.size + 1) scope.names [])
        (bindC (envOfC qual scope s.heap.objs.size f cdv).kindOf binds fun _ => none) s₁ →
      wpAny (model prog w) (A.deeper (envOfC qual scope s.heap.objs.size f cdv)) (execs body (envOfC qual scope s.heap.objs.size f cdv))
        (fun fl s' => R (.ok (.ret (match fl with | .ret v => v | _ => .none))) s')
        (fun e s' => wpAny (model prog w) (A.deeper (envOfC qual scope s.heap.objs.size f cdv)) (leaving (envOfC qual scope s.heap.objs.size f cdv) e) (fun _ s'' => R (.error e) s'') (fun e' s'' => R (.error e') s'') s') s₁)
    (hco : scope.isCoroutine = false) (hgen : scope.isGenerator = false) (hk : scope.kind = .function) : codeAny (model prog w) A (.call (.ref f) args) R s := by
  refine codeAny_call_function hroom (X _ _ ho) rfl hco hgen rfl (codeRec_of X hcd) (hbind _ _ _ _ ?_)
  refine wpAny_newFunctionEnv_cells hk (kindsX hkind _) fun env he s₁ x => ?_
  subst he
  exact ⟨hlim.keeps x.toInCall.keep, codeAny_func (h s₁ x)⟩

/-- C(..): dict at size, instance at size + 1, then __init__ -/
theorem make_obj {R : Result → Shared → Prop} {C fI : Addr} {rest : List Value} {kw : List (Str × Value)}
    (X : K.In s.heap) (hm : makesIn K C = true) (hi : findIn K (.ref C) "__init__" = some (some (.ref fI))) (hf : isFn K (.ref fI) = true)
    (h : codeAny (model prog w) (A.under (.builtin "type.__call__" ⟨.ref C :: rest, kw⟩)) (.call (.ref fI) ⟨.ref (s.heap.objs.size + 1) :: rest, kw⟩) (InitBack (s.heap.objs.size + 1) R)
      { s with heap := (s.heap.push emptyDict).push (instObj C s.heap.objs.size) }) : codeAny (model prog w) A (.call (.ref C) ⟨rest, kw⟩) R s := by
  obtain ⟨hh, g, d, t, os⟩ := s
  exact make_core (makes_of X hm) (looks_findIn X hi) (fun self => bind_fn X self (beq_iff_eq.mp hf)) (.inl rfl) h

/-- x.name where the instance's dict holds the name and the class does not -/
theorem get_field {x C : Addr} {ox : Obj} {es : List DictEntry} {n : Nat} {name : Str} {expr : Bool} {v : Value} {Q : Value → Shared → Prop}
    (X : K.In s.heap) (I : PySem.W.InstAt s.heap x ox C (some (dictOf es n))) (hg : plainGet K C name = true) (hh : hasDictIn K C = true) (ha : findIn K (.ref C) name = some none)
    (hl : getL name es = some (some v)) (hv : handedIn v = true) (h : Q v { s with toks := s.toks + 1 }) : wpAny (model prog w) A (getAttr (.ref x) name expr) Q E s :=
  get_value X I (plainGet_of hg).1 (findObj_own hh ha rfl hl) hv h

/-- x.m(..): the method found in the class -/
theorem get_method {x C f : Addr} {ox : Obj} {es : List DictEntry} {n : Nat} {name : Str} {pl : Sem Bool} {Q : Value × List Value → Shared → Prop}
    (X : K.In s.heap) (I : PySem.W.InstAt s.heap x ox C (some (dictOf es n))) (hg : plainGet K C name = true) (hf : findIn K (.ref C) name = some (some (.ref f))) (ht : isFn K (.ref f) = true)
    (hl : getL name es = some none) (h : Q (.ref f, [.ref x]) s) : wpAny (model prog w) A (getMethod (.ref x) name pl) Q E s :=
  method_fn X I (plainGet_of hg).1 (plainGet_of hg).2 hf (beq_iff_eq.mp ht) (by show (lookIn name (dictOf es n)).map _ = _; rw [lookIn_dict, hl]; rfl) h

/-! the whole heap as the ledger: makes every rule that writes through a ledger a rule over any heap -/
def noObjs (h : Heap) : Heap := { h with objs := #[] }
theorem noObjs_get (h : Heap) (b : Addr) : (noObjs h).get? b = none := by
  cases e : (noObjs h).get? b with
  | none => rfl
  | some o => exact absurd (Heap.lt_size e) (Nat.not_lt_zero _)
def ledger (h : Heap) (L d : Addr) : List (Addr × Obj) := (List.range h.objs.size).filterMap fun a => if a = L ∨ a = d then none else (h.get? a).map fun o => (a, o)
theorem mem_ledger {h : Heap} {L d a : Addr} {o : Obj} : (a, o) ∈ ledger h L d ↔ a ≠ L ∧ a ≠ d ∧ h.get? a = some o := by
  unfold ledger
  rw [List.mem_filterMap]
  constructor
  · rintro ⟨b, _, e⟩
    split at e
    · cases e
    · rename_i hb
      obtain ⟨o', ho, e'⟩ := Option.map_eq_some_iff.mp e
      cases e'
      exact ⟨fun q => hb (.inl q), fun q => hb (.inr q), ho⟩
  · rintro ⟨n1, n2, ho⟩
    refine ⟨a, List.mem_range.mpr (Heap.lt_size ho), ?_⟩
    rw [if_neg (show ¬ (a = L ∨ a = d) from fun q => q.elim n1 n2), ho] <;> rfl
theorem news_ledger {h : Heap} {L d : Addr} {od : Obj} (hne : d ≠ L) (ho : h.get? d = some od) : News (noObjs h) L h ([] ++ (d, od) :: ledger h L d) := by
  rintro ⟨a, o⟩ hp
  rcases List.mem_cons.mp hp with e | hp
  · cases e
    exact ⟨ho, hne, noObjs_get _ _⟩
  · obtain ⟨n1, n2, e⟩ := mem_ledger.mp hp
    exact ⟨e, n1, noObjs_get _ _⟩
theorem fr_all {h : Heap} {L : Addr} {m : Str → Option Value} (n : h.Ns L m) : Fr (noObjs h) L h m :=
  ⟨n, fun b o e => (by rw [noObjs_get] at e; cases e), Nat.zero_le _⟩
/-- Upd of the head entry (for append_K, setItem_K ..) -/
theorem upd_ledger {h : Heap} {L d : Addr} {o o' : Obj} : Upd d o o' ((d, o) :: ledger h L d) ((d, o') :: ledger h L d) :=
  .head fun ⟨_, _⟩ hp => (mem_ledger.mp hp).2.1

/-- x.name = v over any heap: L is any namespace of the heap (the frame's, say): its map stays, its object is not told; all else but the dict stays -/
theorem set_field {x C dx L : Addr} {ox : Obj} {m : Str → Option Value} {es es' : List DictEntry} {n n' : Nat} {name : Str} {v : Value} {Q : Unit → Shared → Prop}
    (X : K.In s.heap) (I : PySem.W.InstAt s.heap x ox C (some (dictOf es n))) (hd : ox.dict = some dx) (hL : s.heap.Ns L m) (hne : dx ≠ L)
    (hs : findIn K (.ref C) "__setattr__" = some (some (.builtin "object.__setattr__"))) (hp : plainOver K C = true) (ht : takerIn K C name = some none) (hh : hasDictIn K C = true) (hl : (getL name es).isSome = true)
    (e : (putL name (PyData.keyHash w.params name) (.str name (s.toks + 1)) v es, putN name es n) = (es', n')) (hz : es'.length ≤ 1000)
    (h : ∀ h' : Heap, h'.Ns L m → h'.get? dx = some (dictOf es' n') → (∀ b o, b ≠ dx → b ≠ L → s.heap.get? b = some o → h'.get? b = some o) → Q () { s with heap := h', toks := s.toks + 2 }) :
    wpAny (model prog w) A (setAttr (.ref x) name v) Q E s := by
  obtain ⟨e1, e2⟩ := Prod.mk.inj e
  have hdx : s.heap.get? dx = some (dictOf es n) := by
    have := I.dict
    rw [hd] at this
    exact this
  refine set_plain X I hs (osa_dict (s := { s with toks := s.toks + 1 }) (h₀ := noObjs s.heap) (L := L) (m := m) (od := dictOf es n) (od' := dictOf es' n') (es := es') (n := n') (pre := []) (post := ledger s.heap L dx)
    (fr_all hL) (news_ledger hne hdx) X I hd hp ht hh hl (fun _ q => nomatch q) (fun ⟨_, _⟩ q => (mem_ledger.mp q).2.1) (by rw [putName_dict, e1, e2]) rfl hz fun h' F' N' => ?_)
  exact h h' F'.ns (N'.get (List.Mem.head _)) fun b o n1 n2 ho => N'.get (List.Mem.tail _ (mem_ledger.mpr ⟨n2, n1, ho⟩))
end
end Att

namespace L2
open PySem PySem.Spec PyProof.Rows

theorem vals_ints : ∀ {vs : List Value} {ns : List Int}, IntsAre vs ns → Vals (ns.map V.int) vs
  | _, _, .nil => .nil
  | _, _, .cons n t h => .cons ⟨t, rfl⟩ (vals_ints h)

/-- nothing is tracked but the script, known to the object (or it is an object of the module) -/
def Only (H : Hp) : Prop := ∀ b, H b = none ∨ ∃ o xs, H b = some (.frz o (.lst xs))

/-- THE HEAD: the law's promise, at the heap behind the top. F, the promise of the law's def, may use that base is part of the heap (so K.In base, base.Ns mainGlobals mg stand in Mod) -/
theorem law_call {P : Program} {w : World} {K : PySem.W.Frag} {mg mb : Str → Option Value} {CX : CXT} {k : Nat} {fa a : Addr} {fd : FuncData} {x : Str} {sp : Sp} {s₁ : Shared} {vs : List Value} {ns : List Int}
    (KX : K.In s₁.heap) (hns : s₁.heap.Ns mainGlobals mg) (hb : s₁.heap.Ns builtinsNs mb) (hbb : ∀ x : Str, x ≠ "__name__" → mb x = bootBuiltins x) (hlim : s₁.heap.NoLimit) (hg : s₁.gens = #[])
    (ha : s₁.heap.get? a = some { cls := .type "list", data := .seq vs.toArray }) (hi : IntsAre vs ns) (hl : ns.length ≤ sizeLine) (hr : Room k callerA)
    (F : ∀ base : Heap, K.In base → base.Ns mainGlobals mg → FnOk P w K mg base CX k fa fd [x] sp) (hbind : ∀ (s : Shared) (u : Value), BindsTo s fd ⟨[u], []⟩ [(x, u)])
    (hsp : ∀ H : Hp, Only H → SqL K H a (ns.map V.int) → sp [.ref a] H (fun v _ => v = .bl true) fun _ _ _ => False)
    (hCX : ∀ H e s', CX [] H s₁ (fun _ _ _ => False) e s' → False) :
    codeAny (model P w) callerA (.call (.ref fa) ⟨[.ref a], []⟩) (fun r s' => r = .ok (.ret (.bool true)) ∧ OldK s₁.heap s'.heap ∧ s'.os = s₁.os ∧ AllBare s'.gens) s₁ := by
  have rv := vals_ints hi
  have lenV := hi.length
  -- from an abstract heap in which nothing but the script may be tracked
  have core : ∀ H : Hp, Only H → SqL K H a (ns.map V.int) → HOk P w H s₁.heap → (∀ b, H b ≠ none → b = a) → (H a ≠ none → K.lookup a = none) →
      codeAny (model P w) callerA (.call (.ref fa) ⟨[.ref a], []⟩) (fun r s' => r = .ok (.ret (.bool true)) ∧ OldK s₁.heap s'.heap ∧ s'.os = s₁.os ∧ AllBare s'.gens) s₁ := by
    intro H hO hS hok hA hK
    have base_of : ∀ {b : Addr} {o : Obj}, s₁.heap.get? b = some o → H b = none → (hidT s₁.heap H).get? b = some o := fun e n => hidT_get e n
    have noA : ∀ {b : Addr} {o : Obj} {es : Array DictEntry} {ep : Nat}, s₁.heap.get? b = some o → o.data = .dict es ep → H b = none := fun {b o es ep} e d => by
      cases q : H b with
      | none => rfl
      | some u =>
        have e' : b = a := hA b (by rw [q]; simp)
        subst e'
        rw [ha] at e; cases e
        have d' : Data.seq vs.toArray _ = Data.dict es ep := d
        cases d'
    have nsK : ∀ {b : Addr} {m : Str → Option Value}, s₁.heap.Ns b m → (hidT s₁.heap H).Ns b m := fun {b m} ⟨o, es, ep, e, d, r⟩ => ⟨o, es, ep, base_of e (noA e d), d, r⟩
    have hKb : K.In (hidT s₁.heap H) := fun b o e => base_of (KX b o e) (by
      cases q : H b with
      | none => rfl
      | some u =>
        have e' : b = a := hA b (by rw [q]; simp)
        subst e'
        rw [hK (by rw [q]; simp)] at e; cases e)
    have hM : Mod K mg (hidT s₁.heap H) := ⟨hKb, nsK hns, ⟨mb, nsK hb, hbb⟩, let ⟨mc, h1, h2⟩ := hlim; ⟨mc, nsK h1, h2⟩⟩
    have e0 : Env0 P w K mg (hidT s₁.heap H) callerA [] s₁ H := ⟨rfl, hM, fun b o e => of_hidT e, Nat.le_of_eq (hidT_size _ _), trivial, fun b hb => absurd (show b ∈ ([] : List Addr) from hb) (by simp), hok, .of_eq hg⟩
    refine codeAny_mono ((F _ hKb (nsK hns)).run callerA [] s₁ H ⟨[.ref a], []⟩ [.ref a] [.ref a] _ _ hr e0 (hbind s₁ (.ref a)) (.cons rfl .nil) (hsp H hO hS)) fun r s' h => ?_
    cases r with
    | error e => exact (hCX H e s' h).elim
    | ok fl =>
      cases fl with
      | next => exact False.elim h
      | brk => exact False.elim h
      | cont => exact False.elim h
      | ret u =>
        obtain ⟨v, H', os, bare, un, hok', r', q⟩ := h
        have q' : v = .bl true := q
        subst q'
        obtain rfl : u = Value.bool true := r'
        refine ⟨rfl, OldK.of_keep fun b o e => ?_, os, bare⟩
        cases q : H b with
        | none => exact un.keep b o e q (by intro z; exact absurd (show b ∈ ([] : List Addr) from z) (by simp)) (by simp)
        | some u =>
          rcases hO b with z | ⟨ob, xs, z⟩
          · rw [q] at z; cases z
          · have z2 := un.frzs b ob _ z
            obtain ⟨e1, _⟩ := hok b _ z
            obtain ⟨e2, _⟩ := hok' b _ z2
            rw [e] at e1; cases e1
            exact e2
  cases hk : K.lookup a with
  | some o =>
    -- the script is one of the module's own objects
    have e := KX a o hk
    rw [ha] at e
    cases e
    refine core (fun _ => none) (fun _ => .inl rfl) (.inr ⟨_, vs.toArray, _, hk, rfl, rfl, rfl, by rw [List.size_toArray, lenV]; exact hl, by simpa using rv⟩) (fun b u z => by have z' : (none : Option HO) = some u := z; cases z') (fun b z => absurd rfl z) fun z => absurd rfl z
  | none =>
    refine core (fun b => if b = a then some (.frz { cls := .type "list", data := .seq vs.toArray } (.lst (ns.map V.int))) else none) (fun b => ?_) (.inl (.inr ⟨{ cls := .type "list", data := .seq vs.toArray }, if_pos rfl⟩)) (fun b u z => ?_) (fun b z => ?_) fun _ => hk
    · by_cases hb : b = a
      · exact .inr ⟨_, _, if_pos hb⟩
      · exact .inl (if_neg hb)
    · by_cases hb : b = a
      · have z' := (if_pos hb).symm.trans z
        cases z'
        subst hb
        exact ⟨ha, by rw [List.length_map]; exact hl, vs, _, rv, ha⟩
      · have z' := (if_neg hb).symm.trans z
        cases z'
    · by_cases hb : b = a
      · exact hb
      · exact absurd (if_neg hb) z
end L2

namespace L2
open PySem PySem.Spec PyProof.Rows

abbrev KOf {K : PySem.W.Frag} {h : Heap} (_ : K.In h) : PySem.W.Frag := K

/-- the goal that k_head leaves (case hc), from the law's promise. F gives the function object fd (K's own) once, then the promise over every base -/
theorem walk_of {l : PySem.W.OpenLaw} {n k : Nat} {q : Program} {loose : List Str} {XP : (Str → Option Value) → Heap → Prop} {YP : World → Heap → Prop} {d : DefRec} {K : Params → PySem.W.Frag} {CX : World → CXT} {sp : World → Sp} {x : Str}
    (hn : l.most = some n) (hn2 : n ≤ sizeLine) (hdf : d.params.defaults = []) (hr : Room k callerA)
    (hY : ∀ (w : World) (h : Heap), YP w h → (K w.params).In h)
    (F : ∀ (w : World) (mg : Str → Option Value) (fa : Addr) (h : Heap), (K w.params).In h → h.Ns mainGlobals mg → mg d.name = some (.ref fa) →
      ∃ fd : FuncData, (∀ (s : Shared) (u : Value), BindsTo s fd ⟨[u], []⟩ [(x, u)]) ∧
        ∀ base : Heap, (K w.params).In base → base.Ns mainGlobals mg → FnOk l.prog w (K w.params) mg base (CX w) k fa fd [x] (sp w))
    (hsp : ∀ (w : World) (H : Hp) (a : Addr) (ns : List Int), ns.length ≤ n → Only H → SqL (K w.params) H a (ns.map V.int) → sp w [.ref a] H (fun v _ => v = .bl true) fun _ _ _ => False)
    (hCX : ∀ (w : World) (H : Hp) (s : Shared) (e : Value) (s' : Shared), CX w [] H s (fun _ _ _ => False) e s' → False) :
    PySem.W.WalkO q loose XP YP l.row.toRowW d [] (fun f vs => PySem.call f vs) := by
  refine Att.attach_call hn hdf fun w s₀ s₁ mg mb fa o pm cd doc a vs ns G Y ho hd hcd hmg hobj hints hlen hg => ?_
  have KX := hY w _ Y
  obtain ⟨fd, hb, hF⟩ := F w mg fa _ KX G.T.g hmg
  exact law_call KX G.T.g G.T.b G.T.builtins G.T.nolimit hg hobj hints (Nat.le_trans hlen hn2) hr hF hb (fun H hO hS => hsp w H a ns hlen hO hS) fun H e s' => hCX w H s₁ e s'
/-- the same where the promise hangs on the written part alone: (sp := My.sp_law), no hole under a binder -/
theorem walk_ofK {l : PySem.W.OpenLaw} {n k : Nat} {q : Program} {loose : List Str} {XP : (Str → Option Value) → Heap → Prop} {YP : World → Heap → Prop} {d : DefRec} {K : Params → PySem.W.Frag} {CX : CXT} {sp : PySem.W.Frag → Sp} {x : Str}
    (hn : l.most = some n) (hn2 : n ≤ sizeLine) (hdf : d.params.defaults = []) (hr : Room k callerA)
    (hY : ∀ (w : World) (h : Heap), YP w h → (K w.params).In h)
    (F : ∀ (w : World) (mg : Str → Option Value) (fa : Addr) (h : Heap), (K w.params).In h → h.Ns mainGlobals mg → mg d.name = some (.ref fa) →
      ∃ fd : FuncData, (∀ (s : Shared) (u : Value), BindsTo s fd ⟨[u], []⟩ [(x, u)]) ∧
        ∀ base : Heap, (K w.params).In base → base.Ns mainGlobals mg → FnOk l.prog w (K w.params) mg base CX k fa fd [x] (sp (K w.params)))
    (hsp : ∀ (K : PySem.W.Frag) (H : Hp) (a : Addr) (ns : List Int), ns.length ≤ n → Only H → SqL K H a (ns.map V.int) → sp K [.ref a] H (fun v _ => v = .bl true) fun _ _ _ => False)
    (hCX : ∀ (H : Hp) (s : Shared) (e : Value) (s' : Shared), CX [] H s (fun _ _ _ => False) e s' → False) :
    PySem.W.WalkO q loose XP YP l.row.toRowW d [] (fun f vs => PySem.call f vs) :=
  walk_of (K := K) (CX := fun _ => CX) (sp := fun w => sp (K w.params)) hn hn2 hdf hr hY F (fun w H a ns h1 h2 h3 => hsp (K w.params) H a ns h1 h2 h3) fun _ H s e s' => hCX H s e s'
end L2

/- THE LAST THEOREM (shape; LID, My.* are yours):
   My.Adr: a structure of the addresses that your layer names (classes, functions); My.Txt K t: a structure (Prop) of the equations over K;
   My.txt_mk : {K} {implicit addresses ..} (e1 : nsIn K mainGlobals "law" = some (some (.ref f))) (e2 : K.lookup f = some ⟨oc, od, .func (fnOf "law" "law" params body scope dV kV doc pm an cdv ct), sl⟩) (e3 : codeIn K cdv "law" = true) .. : ∃ t, My.Txt K t

set_option maxRecDepth 100000 in
set_option maxHeartbeats 0 in
theorem PySem.Challenge.cw_LID_holds : PySem.Challenge.rw_LID.Holds := by
  w_on; o_law; k_head; (case hw => w_witness2)
  k_fill
  refine L2.walk_of (l := PySem.Challenge.rw_LID) (n := 63) (k := 40) (x := "script") (CX := fun w => ..) (sp := fun _ => My.sp_law) rfl (by decide) rfl ⟨rfl, by decide, by decide⟩ (fun w h Y => PySem.W.kIn_of Y) ?F ?S ?C
  case F =>
    intro w mg fa h KX G hmg
    have T : ∃ t, My.Txt (L2.KOf KX) t := by
      dsimp only [L2.KOf]                          -- K must stand as «<heap const> w.params» for k_is
      refine' My.txt_mk ?e1 ?e2 ?e3 ..
      (case e1 => PySem.W.k_is)                    -- in the order: a name -> its address -> its object -> its parts
      (case e2 => PySem.W.k_is)
      ..
    obtain ⟨t, T⟩ := T
    have e0 := hmg.symm.trans (PySem.W.mg_of KX G T.law)
    cases e0                                       -- fa is the law's own address
    exact ⟨_, fun s u => .of_eq rfl, fun base kb nb => My.law_fn T kb nb⟩     -- if «.of_eq rfl» comes too early: refine' ⟨_, ?b, fun base kb nb => My.law_fn T kb nb⟩; exact fun s u => .of_eq rfl
  case S => exact fun w H a ns hl hO hS => ..
  case C => exact ..
(the tactic k_is has no namespace: write k_is) -/

/-! SHORT WORDS over the layer: a def of the text, its body, what a loop and a test want. -/
namespace L2
open PySem PySem.Spec PyProof.Rows

/-! ### the text by places -/
/-- the j-th statement of a class's body -/
def inClass (s : Stmt) (j : Nat) : Stmt := match s with
  | .ClassDef _ _ _ body _ _ _ _ _ _ _ => body.getD j (.Pass ⟨0, 0, 0, 0⟩)
  | _ => .Pass ⟨0, 0, 0, 0⟩
def defArgs (s : Stmt) : Arguments := match s with
  | .FunctionDef _ a _ _ _ _ _ _ _ _ => a
  | _ => { posonlyargs := [], args := [], vararg := none, kwonlyargs := [], kw_defaults := [], kwarg := none, defaults := [] }
def defBody (s : Stmt) : List Stmt := match s with
  | .FunctionDef _ _ b _ _ _ _ _ _ _ => b
  | _ => []
def defScope (s : Stmt) : Scope := match s with
  | .FunctionDef _ _ _ _ _ _ sc _ _ _ => sc
  | _ => { kind := .function, names := [], isGenerator := false, isCoroutine := false }

/-! ### no exception leaves a def -/
abbrev CX0 : CXT := fun _ _ _ _ _ _ => False
abbrev E0 : XK := fun _ _ _ => False
theorem pass0 {X : Cx} : Passes CX0 X E0 := fun _ _ _ _ _ _ _ h => h.elim

/-! ### a def (or method) of the text as it stands behind the top -/
structure Fun (K : PySem.W.Frag) (x qual : Str) (st : Stmt) (f : Addr) (fd : FuncData) : Prop where
  ex : ∃ (oc : Value) (od : Option Addr) (kV doc pm : Value) (an : Option Addr) (cdv ct : Value) (osl : Array (Option Value)),
    fd = PySem.W.fnOf x qual (defArgs st) (defBody st) (defScope st) .none kV doc pm an cdv ct ∧ K.lookup f = some ⟨oc, od, .func fd, osl⟩ ∧ PySem.W.codeIn K cdv qual = true
  kp : PySem.W.keepIn K (.ref f) = true
section
variable {P : Program} {w : World} {K : PySem.W.Frag} {mg : Str → Option Value} {base : Heap}
/-- THE RULE for a def: its body as a term of rules, and the reading of that term -/
theorem Fun.ok {x qual : Str} {st : Stmt} {f : Addr} {fd : FuncData} {N ps : List Str} {k : Nat} {sp : Sp} (F : Fun K x qual st f fd) (S : FnScope N ps (defScope st)) (len : ∀ vs H Q E, sp vs H Q E → vs.length = ps.length)
    (hbody : ∀ (cdv : Value) (A : Around) (outer : List Env) (s : Shared) (H : Hp) (vs : List V) (Q : VK) (E : XK), Room k (A.deeper (envOfC qual (defScope st) s.heap.objs.size f cdv)) → sp vs H Q E →
      ∃ t, PSs (cxOf CX0 P w K mg base N qual (defScope st) f cdv A outer s H E).nox (defBody st) t ∧ t { nx := fun _ H' => Q .non H', rt := Q } (start N vs) H) : FnOk P w K mg base CX0 (k + 1) f fd ps sp := by
  obtain ⟨oc, od, kV, doc, pm, an, cdv, ct, osl, rfl, lk, hcd⟩ := F.ex
  refine fn_of lk hcd S len fun A outer s H vs Q E hr hsp => ?_
  obtain ⟨t, h, q⟩ := hbody cdv A outer s H vs Q E hr hsp
  exact ⟨t, h.nox, q⟩
/-- how its arguments bind (no defaults): h is «fun _ _ _ _ _ _ us hl => match us, hl with | [_, _], _ => rfl», one _ a parameter -/
theorem Fun.binds {x qual : Str} {st : Stmt} {f : Addr} {fd : FuncData} {ps : List Str} (F : Fun K x qual st f fd)
    (h : ∀ (kV doc pm : Value) (an : Option Addr) (cdv ct : Value) (us : List Value), us.length = ps.length → bindArgs (PySem.W.fnOf x qual (defArgs st) (defBody st) (defScope st) .none kV doc pm an cdv ct) ⟨us, []⟩ = pure (ps.zip us)) : Binds K fd ps [] := by
  obtain ⟨oc, od, kV, doc, pm, an, cdv, ct, osl, rfl, lk, hcd⟩ := F.ex
  exact .all (h kV doc pm an cdv ct)
theorem fun_mk {x qual : Str} {st : Stmt} {f : Addr} {oc : Value} {od an : Option Addr} {osl : Array (Option Value)} {kV doc pm cdv ct : Value} (l : K.lookup f = some ⟨oc, od, .func (PySem.W.fnOf x qual (defArgs st) (defBody st) (defScope st) .none kV doc pm an cdv ct), osl⟩)
    (c : PySem.W.codeIn K cdv qual = true) (k : PySem.W.keepIn K (.ref f) = true) : Fun K x qual st f (PySem.W.fnOf x qual (defArgs st) (defBody st) (defScope st) .none kV doc pm an cdv ct) := ⟨⟨oc, od, kV, doc, pm, an, cdv, ct, osl, rfl, l, c⟩, k⟩
end
theorem hu_of {A : Around} {k : Nat} (hr : Room k A) : A.units + 1 < cLine := Nat.lt_of_le_of_lt (Nat.add_le_add_left (by decide : 1 ≤ 64) _) hr.units
theorem small1000 {n : Nat} (h : n ≤ 1000) : n < sizeLine := Nat.lt_of_le_of_lt h (by decide)

/-! ### expressions in short: the name that stands in the i-th slot -/
section
variable {X : Cx}
theorem pv (i : Nat) {x : Str} {pos : Pos} (hN : X.N[i]? = some x := by rfl) (hv : Vis X.env.scope x := by first | exact Or.inl rfl | exact Or.inr (Or.inl rfl) | exact Or.inr (Or.inr rfl)) (hd : (x == ("__debug__" : Str)) = false := by decide)
    (hcd : (x == ("__classdict__" : Str)) = false := by decide) : PE X (.Name x pos) (tVar i) := pe_var hN hv hd hcd
/-- len of a dict -/
theorem call_lenD : CallR X (.builtin "len") (fun xs H Q => ∃ a kvs, xs = [V.ref a] ∧ H a = some (.dK kvs) ∧ Q (.int kvs.length) H) := by
  intro pins s σ H xs us Q I r h
  obtain ⟨a, kvs, rfl, ha, q⟩ := h
  obtain ⟨u, rfl, ru⟩ := vals1 r
  cases ru
  exact d_len I (.inl ha) fun t s' I' => ⟨.int kvs.length, H, I', ⟨t, rfl⟩, q⟩
end

/-! ### tests -/
theorem iteF {A B : Prop} (h : B) : if false = true then A else B := by
  rw [if_neg Bool.false_ne_true]
  exact h
theorem iteT {A B : Prop} (h : A) : if true = true then A else B := by
  rw [if_pos rfl]
  exact h
theorem ite2 {c A B : Prop} [Decidable c] (h1 : c → A) (h2 : ¬ c → B) : if c then A else B := by
  by_cases h : c
  · rw [if_pos h]
    exact h1 h
  · rw [if_neg h]
    exact h2 h
theorem iteNS {c A B : Prop} [Decidable c] (hc : c) (h : B) : if (!decide c) = true then A else B := by
  rw [decide_eq_true hc]
  exact iteF h

/-! ### heaps -/
/-- all that was tracked is as it was -/
def Same (H H' : Hp) : Prop := ∀ b o, H b = some o → H' b = some o
theorem Same.refl (H : Hp) : Same H H := fun _ _ h => h
theorem Same.trans {H H1 H2 : Hp} (a : Same H H1) (b : Same H1 H2) : Same H H2 := fun c o h => b c o (a c o h)
theorem Same.free {H H' : Hp} (e : Same H H') {l : Addr} (h : H' l = Option.none) : H l = Option.none := by
  cases q : H l with
  | none => rfl
  | some o =>
    rw [e l o q] at h
    cases h
theorem Same.seq {K : PySem.W.Frag} {H H' : Hp} {a : Addr} {xs : List V} (e : Same H H') (h : SqL K H a xs) : SqL K H' a xs := by
  rcases h with (h | ⟨o, h⟩) | h
  · exact .inl (.inl (e _ _ h))
  · exact .inl (.inr ⟨o, e _ _ h⟩)
  · exact .inr h

/-! ### a dict's pairs: keys that differ -/
section
variable {κ : Type} [DecidableEq κ]
theorem valV_not {kvs : List (κ × V)} {k : κ} (h : valV kvs k = none) : ¬ k ∈ kvs.map (·.1) := by
  intro m
  obtain ⟨p, hp, e⟩ := List.mem_map.mp m
  have q : (kvs.any fun kv => decide (kv.1 = k)) = true := List.any_eq_true.mpr ⟨p, hp, decide_eq_true e⟩
  rw [valV_any, h] at q
  exact absurd q (by simp)
theorem valV_in {kvs : List (κ × V)} {k : κ} {v : V} (h : valV kvs k = some v) : k ∈ kvs.map (·.1) := by
  have q : (kvs.any fun kv => decide (kv.1 = k)) = true := by
    rw [valV_any, h]
    all_goals rfl
  obtain ⟨p, hp, e⟩ := List.any_eq_true.mp q
  exact List.mem_map.mpr ⟨p, hp, of_decide_eq_true e⟩
theorem nd_snoc : ∀ {l : List κ} {k : κ}, l.Nodup → ¬ k ∈ l → (l ++ [k]).Nodup
  | [], k, _, _ => by simp
  | a :: r, k, h, hk => by
    obtain ⟨h1, h2⟩ := List.nodup_cons.mp h
    show (a :: (r ++ [k])).Nodup
    refine List.nodup_cons.mpr ⟨fun m => ?_, nd_snoc h2 fun m => hk (List.mem_cons.mpr (Or.inr m))⟩
    rcases List.mem_append.mp m with q | q
    · exact h1 q
    · exact hk (List.mem_cons.mpr (Or.inl (List.mem_singleton.mp q).symm))
theorem nd_putK {kvs : List (κ × V)} {k : κ} (v : V) (hn : (kvs.map (·.1)).Nodup) (h : valV kvs k = none) : ((putK kvs k v).map (·.1)).Nodup := by
  rw [putK_new v h, List.map_append]
  exact nd_snoc hn (valV_not h)
theorem dropK_pos {p : κ × V} {r : List (κ × V)} {k : κ} (e : p.1 = k) : dropK (p :: r) k = dropK r k := by
  unfold dropK
  rw [List.filter_cons, if_neg (by simp [e])]
theorem dropK_neg {p : κ × V} {r : List (κ × V)} {k : κ} (e : ¬ p.1 = k) : dropK (p :: r) k = p :: dropK r k := by
  unfold dropK
  rw [List.filter_cons, if_pos (by simp [e])]
theorem dropK_no : ∀ {kvs : List (κ × V)} {k : κ}, ¬ k ∈ kvs.map (·.1) → dropK kvs k = kvs
  | [], _, _ => rfl
  | p :: r, k, h => by
    have h' : ¬ k ∈ r.map (·.1) := fun m => by
      obtain ⟨q, hq, e⟩ := List.mem_map.mp m
      exact h (List.mem_map.mpr ⟨q, List.mem_cons.mpr (Or.inr hq), e⟩)
    rw [dropK_neg fun e => h (List.mem_map.mpr ⟨p, List.mem_cons.mpr (Or.inl rfl), e⟩), dropK_no h']
theorem dropK_mem {kvs : List (κ × V)} {k : κ} {p : κ × V} (h : p ∈ dropK kvs k) : p ∈ kvs := (List.mem_filter.mp h).1
theorem nd_dropK : ∀ {kvs : List (κ × V)} {k : κ}, (kvs.map (·.1)).Nodup → ((dropK kvs k).map (·.1)).Nodup
  | [], _, _ => List.nodup_nil
  | p :: r, k, h => by
    have h : (p.1 :: r.map (·.1)).Nodup := h
    obtain ⟨h1, h2⟩ := List.nodup_cons.mp h
    by_cases e : p.1 = k
    · rw [dropK_pos e]
      exact nd_dropK h2
    · rw [dropK_neg e]
      show (p.1 :: (dropK r k).map (·.1)).Nodup
      refine List.nodup_cons.mpr ⟨fun m => h1 ?_, nd_dropK h2⟩
      obtain ⟨q, hq, eq⟩ := List.mem_map.mp m
      exact List.mem_map.mpr ⟨q, dropK_mem hq, eq⟩
theorem dropK_len : ∀ {kvs : List (κ × V)} {k : κ}, (kvs.map (·.1)).Nodup → k ∈ kvs.map (·.1) → (dropK kvs k).length + 1 = kvs.length
  | [], _, _, m => by simp at m
  | p :: r, k, h, m => by
    have h : (p.1 :: r.map (·.1)).Nodup := h
    have m : k = p.1 ∨ k ∈ r.map (·.1) := List.mem_cons.mp m
    obtain ⟨h1, h2⟩ := List.nodup_cons.mp h
    by_cases e : p.1 = k
    · subst e
      rw [dropK_pos rfl, dropK_no h1]
      all_goals rfl
    · have m' : k ∈ r.map (·.1) := m.resolve_left fun z => e z.symm
      have q := dropK_len h2 m'
      rw [dropK_neg e, List.length_cons, List.length_cons]
      omega
end
end L2

set_option Elab.async false
set_option linter.all false
set_option maxRecDepth 100000
namespace L2
open PySem PySem.Spec PyProof.Rows

/-! the cells that a block takes along -/
def clGo (env : Env) : List (Str × NameKind) → List (Str × Addr) → List (Str × Addr)
  | [], cs => cs
  | (n, k) :: r, cs => clGo env r (if (k == NameKind.free) = true then (n, (env.cells.lookup n).getD 0) :: cs else cs)
theorem clGo_pure {env : Env} : ∀ (ns : List (Str × NameKind)) (cs : List (Str × Addr)), (∀ y ∈ ns, y.2 = .free → ∃ c, env.cells.lookup y.1 = some c) →
    (forIn (m := Sem) ns cs fun y cs => if (y.2 == NameKind.free) = true then (do let a ← cellOf env y.1; pure (ForInStep.yield ((y.1, a) :: cs))) else pure (ForInStep.yield cs)) = pure (clGo env ns cs)
  | [], cs, _ => rfl
  | (n, k) :: r, cs, h => by
    rw [List.forIn_cons]
    have hr : ∀ y ∈ r, y.2 = .free → ∃ c, env.cells.lookup y.1 = some c := fun y hy => h y (List.mem_cons_of_mem _ hy)
    by_cases hk : (k == NameKind.free) = true
    · obtain ⟨c, hc⟩ := h (n, k) List.mem_cons_self (beq_iff_eq.mp hk)
      have e1 : cellOf env n = pure c := by unfold cellOf; rw [show env.cells.lookup n = some c from hc]
      simp only [hk, if_true, e1, pure_bind]
      rw [clGo_pure r _ hr]
      show _ = pure (clGo env r (if (k == NameKind.free) = true then (n, (env.cells.lookup n).getD 0) :: cs else cs))
      rw [if_pos hk, show env.cells.lookup n = some c from hc]
      rfl
    · simp only [hk, Bool.false_eq_true, if_false, pure_bind]
      rw [clGo_pure r _ hr]
      show _ = pure (clGo env r (if (k == NameKind.free) = true then (n, (env.cells.lookup n).getD 0) :: cs else cs))
      rw [if_neg hk]
theorem closure_of {scope : Scope} {env : Env} (h : ∀ y ∈ scope.names, y.2 = .free → ∃ c, env.cells.lookup y.1 = some c) : closureFor scope env = pure (clGo env scope.names []) := by
  have e := clGo_pure scope.names [] h
  unfold closureFor
  refine Eq.trans ?_ (e.trans rfl)
  first
    | rfl
    | (simp only [bind_pure]; rfl)
    | simp

theorem clGo_look {env : Env} {x : Str} {c : Addr} : ∀ (ns : List (Str × NameKind)) (cs : List (Str × Addr)), (∀ y ∈ ns, y.2 = .free → ∃ c, env.cells.lookup y.1 = some c) →
    (∀ c, cs.lookup x = some c → env.cells.lookup x = some c) → (clGo env ns cs).lookup x = some c → env.cells.lookup x = some c
  | [], cs, _, hc, e => hc c e
  | (n, k) :: r, cs, h, hc, e => by
    refine clGo_look r _ (fun y hy => h y (List.mem_cons_of_mem _ hy)) (fun c' e' => ?_) e
    by_cases hk : (k == NameKind.free) = true
    · rw [if_pos hk] at e'
      rw [List.lookup_cons] at e'
      cases hx : x == n with
      | true =>
        rw [hx] at e'
        obtain ⟨c2, h2⟩ := h (n, k) List.mem_cons_self (beq_iff_eq.mp hk)
        have h2' : env.cells.lookup n = some c2 := h2
        rw [h2'] at e'
        rw [beq_iff_eq.mp hx, h2']
        exact e'
      | false =>
        rw [hx] at e'
        exact hc c' e'
    · rw [if_neg hk] at e'
      exact hc c' e'
theorem clGo_has {env : Env} {x : Str} : ∀ (ns : List (Str × NameKind)) (cs : List (Str × Addr)), ((x, NameKind.free) ∈ ns ∨ (∃ c, cs.lookup x = some c)) → ∃ c, (clGo env ns cs).lookup x = some c
  | [], cs, h => by
    rcases h with h | h
    · cases h
    · exact h
  | (n, k) :: r, cs, h => by
    refine clGo_has r _ ?_
    rcases h with h | ⟨c, h⟩
    · rcases List.mem_cons.mp h with e | e
      · cases e
        refine .inr ⟨(env.cells.lookup x).getD 0, ?_⟩
        rw [if_pos (by rfl), List.lookup_cons]
        simp
      · exact .inl e
    · right
      by_cases hk : (k == NameKind.free) = true
      · rw [if_pos hk, List.lookup_cons]
        cases hx : x == n with
        | true => exact ⟨_, rfl⟩
        | false => exact ⟨c, h⟩
      · rw [if_neg hk]
        exact ⟨c, h⟩

/-- the context of a comprehension's block -/
def blk (X : Cx) (scope : Scope) (Nc : List Str) (C : Addr) (s₂ : Shared) (H₂ : Hp) (ex : List Addr) (pins : List (Addr × Obj)) : Cx :=
  { prog := X.prog, w := X.w, K := X.K, mg := X.mg, base := X.base, A := X.A, N := Nc, s₀ := s₂, H₀ := H₂, env := compEnvC scope (clGo X.env scope.names []) C X.env, outer := X.stack, stack := X.stack, ex := ex,
    fn := fun _ => false, calm := X.calm, pn := X.pn ++ pins, xe := fun _ _ => False }

/-- what a block's scope must have: its own name x, the names that it takes from the def (js: their slots there) -/
structure BlkScope (X : Cx) (scope : Scope) (x : Str) (Nf : List Str) (js : List Nat) : Prop where
  kind : scope.kind = .function
  nocell : ∀ y ∈ scope.names, y.2 ≠ .cell
  loc : ∀ y ∈ scope.names, y.2 = .local → scope.names.lookup y.1 = some .local
  own : scope.names.lookup x = some .local
  nd : (x :: Nf).Nodup
  free : ∀ y ∈ scope.names, y.2 = .free → X.env.kindOf y.1 = some .cell
  slots : Nf.length = js.length
  at_ : ∀ (i : Nat) (z : Str), Nf[i]? = some z → ∃ j : Nat, js[i]? = some j ∧ X.N[j]? = some z ∧ scope.names.lookup z = some .free ∧ X.env.scope.names.lookup z = some .cell
section
variable {X : Cx} {scope : Scope} {x : Str} {Nf : List Str} {js : List Nat} {C : Addr} {s₂ : Shared} {H₂ : Hp} {ex : List Addr} {pins : List (Addr × Obj)} {σ : St}
theorem BlkScope.hasCell (B : BlkScope X scope x Nf js) (ok : X.Ok) : ∀ y ∈ scope.names, y.2 = .free → ∃ c, X.env.cells.lookup y.1 = some c := fun y hy hf => ok.has y.1 (.inl (B.free y hy hf))
theorem BlkScope.look (B : BlkScope X scope x Nf js) (ok : X.Ok) {z : Str} {c : Addr} (e : (clGo X.env scope.names []).lookup z = some c) : X.env.cells.lookup z = some c :=
  clGo_look scope.names [] (B.hasCell ok) (fun c h => by simp at h) e
/-- a name of the block that is a cell or free was free in the scope -/
theorem relabel_free {sc : Scope} {env : Env} {z : Str} : ∀ {ns : List (Str × NameKind)}, (∀ y ∈ ns, y.2 ≠ .cell) →
    ((ns.map fun (n, k) => if (k == NameKind.free && env.scope.kind == .function && env.kindOf n == some .cell) then (n, NameKind.cell) else (n, k)).lookup z = some .cell ∨
     (ns.map fun (n, k) => if (k == NameKind.free && env.scope.kind == .function && env.kindOf n == some .cell) then (n, NameKind.cell) else (n, k)).lookup z = some .free) → (z, NameKind.free) ∈ ns
  | [], _, h => by simp at h
  | (n, k) :: r, hc, h => by
    have ih := @relabel_free sc env z r fun y hy => hc y (List.mem_cons_of_mem _ hy)
    rw [List.map_cons, List.lookup_cons] at h
    by_cases hk : (k == NameKind.free && env.scope.kind == .function && env.kindOf n == some .cell) = true
    · have kf : k = .free := by
        rw [Bool.and_eq_true, Bool.and_eq_true] at hk
        exact beq_iff_eq.mp hk.1.1
      subst kf
      simp only [hk, if_true] at h
      cases hz : z == n with
      | true => rw [beq_iff_eq.mp hz]; exact List.mem_cons_self
      | false => rw [hz] at h; exact List.mem_cons_of_mem _ (ih h)
    · simp only [hk, Bool.false_eq_true, if_false] at h
      cases hz : z == n with
      | true =>
        rw [hz] at h
        have h' : k = .cell ∨ k = .free := by
          rcases h with h | h
          · exact .inl (Option.some.inj h)
          · exact .inr (Option.some.inj h)
        rcases h' with e | e
        · exact absurd e (hc (n, k) List.mem_cons_self)
        · rw [beq_iff_eq.mp hz, e]; exact List.mem_cons_self
      | false => rw [hz] at h; exact List.mem_cons_of_mem _ (ih h)
theorem relabel_cell {env : Env} {z : Str} (hk : env.scope.kind = .function) (hz : env.kindOf z = some .cell) : ∀ {ns : List (Str × NameKind)}, (∀ y ∈ ns, y.2 = .local → ns.lookup y.1 = some .local) → (∀ y ∈ ns, y.2 ≠ .cell) → ns.lookup z = some .free →
    (ns.map fun (n, k) => if (k == NameKind.free && env.scope.kind == .function && env.kindOf n == some .cell) then (n, NameKind.cell) else (n, k)).lookup z = some .cell
  | [], _, _, h => by simp at h
  | (n, k) :: r, _, _, h => by
    have ih : ∀ {ns : List (Str × NameKind)}, ns.lookup z = some .free → (ns.map fun (n, k) => if (k == NameKind.free && env.scope.kind == .function && env.kindOf n == some .cell) then (n, NameKind.cell) else (n, k)).lookup z = some .cell := by
      intro ns
      induction ns with
      | nil => intro h; simp at h
      | cons p ps ihp =>
        intro h
        obtain ⟨n', k'⟩ := p
        rw [List.lookup_cons] at h
        rw [List.map_cons, List.lookup_cons]
        cases hx : z == n' with
        | true =>
          rw [hx] at h
          have e : k' = .free := Option.some.inj h
          subst e
          rw [← beq_iff_eq.mp hx]
          simp [hk, hz]
        | false =>
          rw [hx] at h
          by_cases hc : (k' == NameKind.free && env.scope.kind == .function && env.kindOf n' == some .cell) = true
          · simp only [hc, if_true, hx]; exact ihp h
          · simp only [hc, Bool.false_eq_true, if_false, hx]; exact ihp h
    exact ih h

theorem BlkScope.ok (B : BlkScope X scope x Nf js) {H : Hp} {s : Shared} (I : Inv X pins σ H s) (hC : s.heap.objs.size ≤ C) {fp : List Addr} (hf : ∀ b ∈ fp, FpOk X pins H b) (ho : ∀ b ∈ fp, ∃ o, s.heap.get? b = some o ∧ ∀ v, o.data ≠ .cell v) :
    (blk X scope (x :: Nf) C s H fp pins).Ok where
  mod := I.ok.mod
  kind := B.kind
  glob := I.ok.glob
  blt := I.ok.blt
  above := hC
  inj := fun y z c h1 h2 => I.ok.inj y z c (B.look I.ok h1) (B.look I.ok h2)
  has := fun z hz => clGo_has scope.names [] (.inl (relabel_free (sc := scope) B.nocell hz))
  cab := fun y c h _ => Bool.noConfusion h
  hd := fun h => I.ok.hd h
  frames := I.ok.frames
  stk := .inl rfl
  exf := fun b hb => by
    obtain ⟨o, e, d⟩ := ho b hb
    refine ⟨Nat.ne_of_lt (Nat.lt_of_lt_of_le (Heap.lt_size e) hC), fun z c h => (hf b hb).2.2.2.2.1 z c (B.look I.ok h)⟩
  bs := I.bs
  bsz := Nat.le_trans I.ok.bsz I.sz
  noex := fun b o e hb => by
    rcases (hf b hb).2.2.2.1 with z | z
    · exact I.ok.noex b o e z
    · exact absurd (Nat.lt_of_lt_of_le (Heap.lt_size e) (Nat.le_trans I.ok.bsz z)) (Nat.lt_irrefl _)
  exfs := fun b hb hs => by
    rcases List.mem_cons.mp (I.stkSub b hs) with e | e
    · exact (hf b hb).2.1 e
    · exact (hf b hb).2.2.1 e
  funs := I.stack
  frf := I.stkFree
end
end L2

set_option Elab.async false
set_option linter.all false
set_option maxRecDepth 100000
namespace L2
open PySem PySem.Spec PyProof.Rows
section
variable {X : Cx} {scope : Scope} {x : Str} {Nf : List Str} {js : List Nat} {pins : List (Addr × Obj)} {σ : St}

/-- the block's values: its own name, then what it takes from the def -/
def blkSt (js : List Nat) (σ : St) (v : Option V) : St := v :: js.map fun j => (σ[j]?).getD none

theorem BlkScope.inv (B : BlkScope X scope x Nf js) {H : Hp} {s : Shared} (I : Inv X pins σ H s) {fp : List Addr} (hf : ∀ b ∈ fp, FpOk X pins H b) (ho : ∀ b ∈ fp, ∃ o, s.heap.get? b = some o ∧ ∀ v, o.data ≠ .cell v)
    {h₁ : Heap} {tk : Nat} (hn : h₁.Ns (s.heap.objs.size + 1) (fun _ => none)) (hs : Heap.SameBut (s.heap.objs.size + 1) ((s.heap.push { cls := .type "list", data := .seq #[] }).push { cls := .type "dict", data := .dict #[] }) h₁) :
    Inv (blk X scope (x :: Nf) (s.heap.objs.size + 1) s H fp pins) [] (blkSt js σ none) (upd H s.heap.objs.size (.lst [])) { s with heap := h₁, toks := tk } := by
  have old : ∀ b o, s.heap.get? b = some o → h₁.get? b = some o := fun b o e =>
    hs.extBut b o (Nat.ne_of_lt (Nat.lt_succ_of_lt (Heap.lt_size e))) (Heap.get?_push_of_some _ (Heap.get?_push_of_some _ e))
  have hD : h₁.get? s.heap.objs.size = some { cls := .type "list", data := .seq #[] } := hs.extBut _ _ (Nat.ne_of_lt (Nat.lt_succ_self _)) (Heap.get?_push_of_some _ (Heap.get?_push_size _ rfl))
  have fD : H s.heap.objs.size = none := I.hok.fresh (Nat.le_refl _)
  have fC : H (s.heap.objs.size + 1) = none := I.hok.fresh (Nat.le_succ _)
  have cellAt : ∀ z c, (clGo X.env scope.names []).lookup z = some c → c < s.heap.objs.size := fun z c e => by
    obtain ⟨v, q⟩ := I.cell z c (B.look I.ok e)
    exact q.lt
  have J := I.laid (a := s.heap.objs.size) (o := .lst []) (h' := h₁) (t' := tk) old (Nat.le_refl _) ⟨Nat.zero_le _, [], 0, .nil, hD⟩
  refine ⟨B.ok I (Nat.le_succ _) hf ho, rfl, I.bare, Un.laid old (Nat.le_refl _) fD, ⟨_, hn, fun i z v h1 h2 h3 => ?_⟩, fun z c e => ?_, ?_, fun z c e => ?_, fun p hp => ?_, J.hok, ?_⟩
  · -- a name of the block that has a value: one of the def's
    cases i with
    | zero =>
      have h2' : some (none : Option V) = some (some v) := h2
      cases h2'
    | succ i =>
      have h1' : Nf[i]? = some z := h1
      have h2' : (js.map fun j => (σ[j]?).getD none)[i]? = some (some v) := h2
      obtain ⟨j, e1, e2, e3, e4⟩ := B.at_ i z h1'
      rw [List.getElem?_map, e1] at h2'
      have h2'' : (σ[j]?).getD none = some v := Option.some.inj h2'
      have e5 : σ[j]? = some (some v) := by
        cases q : σ[j]? with
        | none => rw [q] at h2''; cases h2''
        | some y => rw [q] at h2''; exact congrArg some h2''
      obtain ⟨m, hm, hl⟩ := I.loc
      obtain ⟨u, r, l⟩ := hl j z v e2 e5 (.inr (.inl e4))
      refine ⟨u, r, .inr ⟨.inl ?_, ?_⟩⟩
      · exact relabel_cell I.ok.kind e4 B.loc B.nocell e3
      · rcases l with ⟨k, _⟩ | ⟨_, c, hc, q⟩
        · rw [show X.env.kindOf z = X.env.scope.names.lookup z from rfl, e4] at k; cases k
        · obtain ⟨c', hc'⟩ := clGo_has (env := X.env) (x := z) scope.names [] (.inl (PySem.mem_of_lookup e3))
          have e6 := B.look I.ok hc'
          rw [hc] at e6
          cases e6
          exact ⟨c, hc', q.keeps old⟩
  · obtain ⟨v, q⟩ := I.cell z c (B.look I.ok e)
    exact ⟨v, q.keeps old⟩
  · show upd H s.heap.objs.size (.lst []) (s.heap.objs.size + 1) = none
    rw [upd_ne (Nat.ne_of_gt (Nat.lt_succ_self _))]
    exact fC
  · rw [upd_ne (Nat.ne_of_lt (cellAt z c e))]
    exact I.freeC z c (B.look I.ok e)
  · have hp' : p ∈ X.pn ++ pins := by
      have : p ∈ (X.pn ++ pins) ++ [] := hp
      rwa [List.append_nil] at this
    obtain ⟨e, n, ne, nf, d⟩ := I.pin p hp'
    refine ⟨old _ _ e, ?_, Nat.ne_of_lt (Nat.lt_succ_of_lt (Heap.lt_size e)), fun z => ?_, d⟩
    · rw [upd_ne (Nat.ne_of_lt (Heap.lt_size e))]; exact n
    · rcases List.mem_cons.mp (I.stkSub p.1 z) with q | q
      · exact ne q
      · exact nf q
  · show (none :: js.map _).length = (x :: Nf).length
    rw [List.length_cons, List.length_map, List.length_cons, B.slots]

/-- behind the block: the def's own state again -/
theorem BlkScope.back (B : BlkScope X scope x Nf js) {H H' : Hp} {s s' : Shared} {fp : List Addr} {C : Addr} {pl : List (Addr × Obj)} {τ : St} (I : Inv X pins σ H s) (hf : ∀ b ∈ fp, FpOk X pins H b) (hC : s.heap.objs.size ≤ C)
    (J : Inv (blk X scope (x :: Nf) C s H fp pins) pl τ H' s') {h' : Heap} (hs : Heap.SameBut C s'.heap h') : Inv X pins σ H' { s' with heap := h' } := by
  have nC : H' C = none := J.free
  refine I.call' (s' := { s' with heap := h' }) (ch := fp) J.os ⟨fun b o e n hb hx => ?_, fun b o e n hb hx => ?_, J.base.free, fun b o e hx => ?_, J.base.tups, J.base.frzs, J.base.tbls⟩ ?_ J.bare (fun b hb => ?_)
  · exact hs.extBut b o (Nat.ne_of_lt (Nat.lt_of_lt_of_le (Heap.lt_size e) hC)) (J.base.keep b o e n hb hx)
  · obtain ⟨sl, e1⟩ := J.base.slot b o e n hb hx
    exact ⟨sl, hs.extBut b _ (Nat.ne_of_lt (Nat.lt_of_lt_of_le (Heap.lt_size e) hC)) e1⟩
  · obtain ⟨o', e1⟩ := J.base.there b o e hx
    exact ⟨o', hs.extBut b _ (Nat.ne_of_lt (Nat.lt_of_lt_of_le (Heap.lt_size e) hC)) e1⟩
  · intro a o e
    refine (J.hok a o e).stay (fun b u hb q => hs.extBut b u ?_ q) (fun _ q => q) fun _ _ q => q
    rcases hb with rfl | hb
    · exact fun z => by rw [z, nC] at e; cases e
    · exact fun z => by rw [z, nC] at hb; cases hb
  · obtain ⟨_, f1, f2, f3, f4, f5⟩ := hf b hb
    exact ⟨f3, f1, f4, f5⟩
end
end L2

set_option Elab.async false
set_option linter.all false
set_option maxRecDepth 100000
namespace L2
open PySem PySem.Spec PyProof.Rows

/-- the tests of a block: none, or one -/
inductive PTs (X : Cx) : List Expr → TT → Prop where
  | nil : PTs X [] (fun _ H Q => Q true H)
  | one {c : Expr} {t : TT} (h : PT X c t) : PTs X [c] t
theorem PTs.run {X : Cx} {ifs : List Expr} {t : TT} (h : PTs X ifs t) {pins : List (Addr × Obj)} {s : Shared} {σ : St} {H : Hp} {Q : Bool → Hp → Prop} (I : Inv X pins σ H s) (q : t σ H Q) :
    wpAny (model X.prog X.w) X.A (forIn ifs true fun c r => if r = true then do let ok ← isTrue c X.env (eval c X.env); pure (ForInStep.yield ok) else pure (ForInStep.yield r)) (TP X pins σ Q) X.xe s := by
  cases h with
  | nil => exact wpAny_pure ⟨H, I, q⟩
  | @one c t h =>
    rw [List.forIn_cons]
    refine wpAny_bind ?_
    rw [if_pos rfl]
    refine wpAny_bind (thn (h pins s σ H Q I q) fun b s1 q1 => wpAny_pure ?_)
    exact wpAny_pure q1

/-- [elt for x in iter if ..] -/
def tComp (js : List Nat) (wi : TI) (tc : TT) (te : TE) : TE := fun σ H Q => wi σ H fun J H1 => ∀ D, H1 D = none → ∃ W : Nat → Nat → Hp → Prop, (∃ m, W 0 m (upd H1 D (.lst []))) ∧ ∀ i m H2, W i m H2 →
  (J.stop i H2 ∧ Q (.ref D) H2) ∨ (J.go i H2 ∧ ∀ v H3, J.yld i H2 v H3 → tc (blkSt js σ (some v)) H3 fun b H4 =>
    if b = true then te (blkSt js σ (some v)) H4 fun y H5 => ∃ ys, H5 D = some (.lst ys) ∧ ys.length < sizeLine ∧ ∃ m', m' < m ∧ W (i + 1) m' (upd H5 D (.lst (ys ++ [y])))
    else ∃ m', m' < m ∧ W (i + 1) m' H4)
section
variable {X : Cx} {scope : Scope} {x : Str} {Nf : List Str} {js : List Nat} {wi : TI} {tc : TT} {te : TE} {elt iter : Expr} {ifs : List Expr} {px pos : Pos}

theorem comp_core (use : Option (Value → Sem Unit)) {pins : List (Addr × Obj)} {s₂ : Shared} {σ : St} {H₂ : Hp} {it : Addr} {fp : List Addr} {tn : Nat → Heap → Prop} {J : It} {E : Value → Shared → Prop} {QQ : Value → Addr → Result → Shared → Prop} {Q : VK} {tg0 : Expr} (htg : tg0 = .Name x px)
    (B : BlkScope X scope x Nf js) (hc : X.calm = true)
    (ht : ∀ C s₂ H₂ ex pins, PTs (blk X scope (x :: Nf) C s₂ H₂ ex pins) ifs tc) (he : ∀ C s₂ H₂ ex pins, PE (blk X scope (x :: Nf) C s₂ H₂ ex pins) elt te)
    (I : Inv X pins σ H₂ s₂) (T : Turn X.prog X.w X.K tg0 J fp it tn) (st : tn 0 s₂.heap) (hf : ∀ b ∈ fp, FpOk X pins H₂ b)
    (hW : ∀ D, H₂ D = none → ∃ W : Nat → Nat → Hp → Prop, (∃ m, W 0 m (upd H₂ D (.lst []))) ∧ ∀ i m H2, W i m H2 →
      (J.stop i H2 ∧ Q (.ref D) H2) ∨ (J.go i H2 ∧ ∀ v H3, J.yld i H2 v H3 → tc (blkSt js σ (some v)) H3 fun b H4 =>
        if b = true then te (blkSt js σ (some v)) H4 fun y H5 => ∃ ys, H5 D = some (.lst ys) ∧ ys.length < sizeLine ∧ ∃ m', m' < m ∧ W (i + 1) m' (upd H5 D (.lst (ys ++ [y])))
        else ∃ m', m' < m ∧ W (i + 1) m' H4))
    (hQ : ∀ s' H', (∀ h', Heap.SameBut (s₂.heap.objs.size + 1) s'.heap h' → Inv X pins σ H' { s' with heap := h' }) → (∃ m, s'.heap.Ns (s₂.heap.objs.size + 1) m) → H' (s₂.heap.objs.size + 1) = none → Q (.ref s₂.heap.objs.size) H' → QQ (.ref s₂.heap.objs.size) (s₂.heap.objs.size + 1) (.ok .next) s') :
    wpAny (model X.prog X.w) X.A (newList []) (fun acc s₃ => wpAny (model X.prog X.w) X.A (newFunctionEnv scope X.env.globals (clGo X.env scope.names []) [] X.env.qual none .none (some X.env)) (fun cenv s₄ =>
      codeAny (model X.prog X.w) X.A (.compStart (.ListComp elt [⟨.Name x px, iter, ifs, 0⟩] scope pos) 0 (.ref it) acc { cenv with scope := relabel scope X.env }) (QQ acc cenv.locals) s₄) E s₃) E s₂ := by
  subst htg
  refine wpAny_newObj_type (wpAny_newFunctionEnv B.nocell (by intro y hy; simp at hy) (fun h₁ hns₁ hsb₁ => ?_) B.kind)
  dsimp only at hns₁ hsb₁ ⊢
  have hsz : (s₂.heap.push { cls := .type "list", dict := none, data := .seq ([] : List Value).toArray }).objs.size = s₂.heap.objs.size + 1 := Heap.size_push _ _
  rw [hsz] at hns₁ hsb₁ ⊢
  have ho : ∀ b ∈ fp, ∃ o, s₂.heap.get? b = some o ∧ ∀ v, o.data ≠ .cell v := T.obj 0 _ st
  have hD0 : H₂ s₂.heap.objs.size = none := I.hok.fresh (Nat.le_refl _)
  obtain ⟨W, ⟨m0, w0⟩, turn⟩ := hW _ hD0
  have old : ∀ b o, s₂.heap.get? b = some o → h₁.get? b = some o := fun b o e =>
    hsb₁.extBut b o (Nat.ne_of_lt (Nat.lt_succ_of_lt (Heap.lt_size e))) (Heap.get?_push_of_some _ (Heap.get?_push_of_some _ e))
  have st1 : tn 0 h₁ := T.keep _ _ _ st fun b _ o e => old b o e
  have I1 : ∀ tk, Inv (blk X scope (x :: Nf) (s₂.heap.objs.size + 1) s₂ H₂ fp pins) [] (blkSt js σ none) (upd H₂ s₂.heap.objs.size (.lst [])) { s₂ with heap := h₁, toks := tk } := fun tk => B.inv I hf ho hns₁ hsb₁
  have fpD : ∀ b ∈ fp, b ≠ s₂.heap.objs.size := fun b hb => by
    obtain ⟨o, e, _⟩ := ho b hb
    exact Nat.ne_of_lt (Heap.lt_size e)
  have fp0 : ∀ b ∈ fp, upd H₂ s₂.heap.objs.size (.lst []) b = none := fun b hb => by rw [upd_ne (fpD b hb)]; exact (hf b hb).1
  -- what the block's context says of the iterator's objects
  have stat : ∀ {H' : Hp}, (∀ b ∈ fp, H' b = none) → ∀ b ∈ fp, FpOk (blk X scope (x :: Nf) (s₂.heap.objs.size + 1) s₂ H₂ fp pins) [] H' b := fun {H'} hn b hb => by
    obtain ⟨_, f1, f2, f3, f4, f5⟩ := hf b hb
    obtain ⟨o, e, _⟩ := ho b hb
    refine ⟨hn b hb, Nat.ne_of_lt (Nat.lt_succ_of_lt (Heap.lt_size e)), fun z => ?_, .inl hb, fun z c h => f4 z c (B.look I.ok h), fun p hp => ?_⟩
    · rcases List.mem_cons.mp (I.stkSub b z) with q | q
      · exact f1 q
      · exact f2 q
    · have hp' : p ∈ (X.pn ++ pins) ++ [] := hp
      rw [List.append_nil] at hp'
      exact f5 p hp'
  have loop : ∀ sL : Shared, sL = { s₂ with heap := h₁, toks := s₂.toks + ([] : List (Str × Value)).length } →
      codeAny (model X.prog X.w) X.A (.compLoop (.ListComp elt [⟨.Name x px, iter, ifs, 0⟩] scope pos) 0 (.ref it) (.ref s₂.heap.objs.size) (compEnvC scope (clGo X.env scope.names []) (s₂.heap.objs.size + 1) X.env))
        (QQ (.ref s₂.heap.objs.size) (s₂.heap.objs.size + 1)) sL := by
    rintro sL rfl
    refine codeAny_compLoop_tests (fun n s' => ∃ i v H', Inv (blk X scope (x :: Nf) (s₂.heap.objs.size + 1) s₂ H₂ fp pins) [] (blkSt js σ v) H' s' ∧ tn i s'.heap ∧ (∀ b ∈ fp, H' b = none) ∧ W i n H') ?_ m0 ⟨0, none, _, I1 _, st1, fp0, w0⟩
    rintro n s3 ⟨i, v3, H3, I3, st3, fr3, w3⟩
    rcases turn i n H3 w3 with ⟨stop, qn⟩ | ⟨go, step⟩
    · refine thn (T.done (blk X scope (x :: Nf) (s₂.heap.objs.size + 1) s₂ H₂ fp pins) rfl rfl rfl hc i [] s3 _ H3 _ I3 (stat fr3) st3 stop) fun r s4 ⟨hr, I4⟩ => ?_
      subst hr
      obtain ⟨m4, hm4, _⟩ := I4.loc
      exact hQ s4 H3 (fun h' hs => B.back I hf (Nat.le_succ _) I4 hs) ⟨m4, hm4⟩ I4.free qn
    · refine thn (T.item (blk X scope (x :: Nf) (s₂.heap.objs.size + 1) s₂ H₂ fp pins) rfl rfl rfl hc i [] s3 _ H3 _ I3 (stat fr3) st3 go) fun r s4 ⟨u, hr, h4⟩ => ?_
      subst hr
      refine (show wpAny (model X.prog X.w) X.A (letOwnedTupleGo (Expr.Name x px) (.ref it) u >>= fun _ => assign (.Name x px) (compEnvC scope (clGo X.env scope.names []) (s₂.heap.objs.size + 1) X.env) u) _ _ s4 from wpAny_bind (thn h4 fun _ s5 ⟨y5, H5, I5, r5, yl5, st5, fr5⟩ => ?_))
      have I5' := I5.pinned (stat fr5) (T.obj _ _ st5)
      have hnm : (blk X scope (x :: Nf) (s₂.heap.objs.size + 1) s₂ H₂ fp pins).env.scope.names.lookup x = some .local := lookup_relabel_local B.own
      have hg : PG (blk X scope (x :: Nf) (s₂.heap.objs.size + 1) s₂ H₂ fp pins) (.Name x px) (gName 0) := pg_name B.nd rfl (.inl hnm) (.inr hnm)
      refine wpAny_mono (hg _ s5 _ H5 y5 u (fun σ' H' => σ' = blkSt js σ (some y5) ∧ H' = H5) I5' r5 ⟨rfl, rfl⟩) (fun _ s6 ⟨σ6, H6, I6, q6⟩ => ?_) fun _ _ z => False.elim z
      obtain ⟨e6, e6'⟩ := q6
      subst e6 e6'
      refine wpAny_mono ((ht _ _ _ _ _).run I6 (step y5 _ yl5)) (fun b s7 ⟨H7, I7, q7⟩ => ?_) fun _ _ z => False.elim z
      have again : ∀ {s8 : Shared} {σ8 : St} {H8 : Hp}, Inv (blk X scope (x :: Nf) (s₂.heap.objs.size + 1) s₂ H₂ fp pins) ([] ++ pinsAt fp s5.heap) σ8 H8 s8 → tn (i + 1) s8.heap ∧ ∀ b ∈ fp, H8 b = none := fun {s8 σ8 H8} I8 => by
        refine ⟨T.keep _ _ _ st5 fun b hb o e => (I8.pin (b, o) (List.mem_append_right _ (List.mem_append_right _ (mem_pinsAt hb e)))).1, fun b hb => ?_⟩
        obtain ⟨o, e, d⟩ := T.obj _ _ st5 b hb
        exact (I8.pin (b, o) (List.mem_append_right _ (List.mem_append_right _ (mem_pinsAt hb e)))).2.1
      cases b with
      | false =>
        simp only [Bool.false_eq_true, if_false] at q7 ⊢
        obtain ⟨m', hm, w7⟩ := q7
        exact ⟨m', hm, i + 1, _, H7, I7.unpinned, (again I7).1, (again I7).2, w7⟩
      | true =>
        simp only [if_true] at q7 ⊢
        refine wpAny_mono (he _ _ _ _ _ _ s7 _ H7 _ I7 q7) (fun yv s8 ⟨y8, H8, I8, r8, ys, hD8, hl8, m', hm, w8⟩ => ?_) fun _ _ z => False.elim z
        obtain ⟨a1, a2⟩ := again I8
        refine wpAny_mono (mt_append (X := blk X scope (x :: Nf) (s₂.heap.objs.size + 1) s₂ H₂ fp pins) _ s8 _ H8 (.ref s₂.heap.objs.size) [y8] (.ref s₂.heap.objs.size) [yv] (fun _ H' => H' = upd H8 s₂.heap.objs.size (.lst (ys ++ [y8]))) I8 rfl (.cons r8 .nil)
          ⟨_, _, _, rfl, rfl, hD8, hl8, rfl⟩) (fun _ s9 ⟨_, H9, I9, _, q9⟩ => ?_) fun _ _ z => False.elim z
        subst q9
        obtain ⟨b1, b2⟩ := again I9
        exact ⟨m', hm, i + 1, _, _, I9.unpinned, b1, b2, w8⟩
  exact codeAny_compStart_list (loop _ rfl) (T.self _ 0 _ _ _ st1 (loop _ rfl))

theorem pe_comp (B : BlkScope X scope x Nf js) (hc : X.calm = true) (hi : PI X (.Name x px) iter wi)
    (ht : ∀ C s₂ H₂ ex pins, PTs (blk X scope (x :: Nf) C s₂ H₂ ex pins) ifs tc) (he : ∀ C s₂ H₂ ex pins, PE (blk X scope (x :: Nf) C s₂ H₂ ex pins) elt te)
    (hs : ∀ v, foldedSetIterable iter X.env v = pure v := by intro _; rfl) : PE X (.ListComp elt [⟨.Name x px, iter, ifs, 0⟩] scope pos) (tComp js wi tc te) := by
  intro pins s σ H Q I h
  rw [eval_ListComp]
  refine wpAny_comprehension_free (use := none) rfl hs (closure_of (B.hasCell I.ok)) B.kind B.loc (thn (hi pins s σ H _ I h) fun v s1 h1 => thn h1 fun itv s2 h2 => ?_)
  obtain ⟨it, fp, tn, J, H2, e, I2, T, st2, f2, hW⟩ := h2
  subst e
  refine comp_core (QQ := fun acc C => compPost (model X.prog X.w) X.A X.xe none (EP X pins σ Q) acc C) none rfl B hc ht he I2 T st2 f2 hW fun s' H' hI hn _ hq => ?_
  obtain ⟨m, hm⟩ := hn
  exact ⟨m, hm, fun h' hs' => ⟨.ref s2.heap.objs.size, H', hI h' hs', rfl, hq⟩⟩
/-- y = [elt for x in iter if ..], y a plain local of the def that the block doesn't name -/
theorem ps_setComp {i : Nat} {y : Str} {py spos : Pos} (B : BlkScope X scope x Nf js) (hc : X.calm = true) (hi : PI X (.Name x px) iter wi)
    (ht : ∀ C s₂ H₂ ex pins, PTs (blk X scope (x :: Nf) C s₂ H₂ ex pins) ifs tc) (he : ∀ C s₂ H₂ ex pins, PE (blk X scope (x :: Nf) C s₂ H₂ ex pins) elt te)
    (hN : X.N.Nodup) (hy : X.N[i]? = some y) (hl : X.env.scope.names.lookup y = some .local)
    (hsw : swapsWith (.ListComp elt [⟨.Name x px, iter, ifs, 0⟩] scope pos) (some (.Name y py)) spos.line X.env = pure true := by rfl)
    (hs : ∀ v, foldedSetIterable iter X.env v = pure v := by intro _; rfl) : PS X (.Assign [.Name y py] (.ListComp elt [⟨.Name x px, iter, ifs, 0⟩] scope pos) spos) (tAsg (tComp js wi tc te) (gName i)) := by
  intro pins s σ H D I h
  have asg := exec_Assign_Name_used _ _ _ _ hsw
  rw [asg]
  refine wpAny_bind (wpAny_standAt ?_)
  refine wpAny_bind ?_
  show wpAny _ _ (do let _ ← comprehension (.ListComp elt [⟨.Name x px, iter, ifs, 0⟩] scope pos) scope X.env _ (newList []) false (eval iter X.env) (some (assign (.Name y py) X.env))) _ _ s
  refine wpAny_bind (wpAny_mono (wpAny_comprehension_free (use := some (assign (.Name y py) X.env)) (Q := fun _ s' => SP X pins D .next s') rfl hs (closure_of (B.hasCell I.ok)) B.kind B.loc
    (thn (hi pins s σ H _ I h) fun v s1 h1 => thn h1 fun itv s2 h2 => ?_)) (fun _ s' hq => wpAny_pure (wpAny_pure hq)) fun _ _ e => e)
  obtain ⟨it, fp, tn, J, H2, e, I2, T, st2, f2, hW⟩ := h2
  subst e
  refine comp_core (Q := fun x H1 => gName i x σ H1 D.nx) (QQ := fun acc C => compPost (model X.prog X.w) X.A X.xe (some (assign (.Name y py) X.env)) (fun _ s' => SP X pins D .next s') acc C) none rfl B hc ht he I2 T st2 f2 hW fun s' H' hI hn hC hq => ?_
  obtain ⟨m, hm⟩ := hn
  have I3 : Inv X pins σ H' s' := hI s'.heap (Heap.SameBut.refl ..)
  have nC := I2.fpOk (b := s2.heap.objs.size + 1) (Nat.le_succ _) hC
  show wpAny _ _ (assign (.Name y py) X.env (.ref s2.heap.objs.size)) _ _ _
  refine wpAny_assign_Name (store_ok2 I3 hN hy (.inl hl) (v := .ref s2.heap.objs.size) rfl (fun s4 I4 ⟨b, hb, hbc⟩ => ?_) (.inr hl))
  have bne : s2.heap.objs.size + 1 ≠ b := by
    rcases hbc with z | z
    · rw [z]; exact nC.2.1
    · exact fun q => nC.2.2.2.2.1 y b z q.symm
  refine ⟨m, hm.sameBut hb bne, fun h' hs' => ⟨_, H', ?_, hq⟩⟩
  exact I4.turned (t' := s4.toks) (fun c o hc q => (hs'.2 c hc).trans q) nC.1 nC.2.1 nC.2.2.2.1 nC.2.2.2.2.1 nC.2.2.2.2.2
end
end L2

set_option Elab.async false
set_option linter.all false
set_option maxRecDepth 100000
namespace L2
open PySem PySem.Spec PyProof.Rows

section
variable {X : Cx} {pins : List (Addr × Obj)} {σ : St} {H : Hp} {s : Shared}
/-! v is True, v is not False .. -/
theorem rel_isb {x : V} {v : Value} {c : Bool} (r : RelV x v) : decide (x = .bl c) = (v == .bool c) := by
  cases x with
  | bl b => cases r; cases b <;> cases c <;> decide
  | non => cases r; rfl
  | int i => obtain ⟨t, rfl⟩ := r; rfl
  | str i => obtain ⟨t, rfl⟩ := r; rfl
  | byt i => obtain ⟨t, rfl⟩ := r; rfl
  | flt i => obtain ⟨t, rfl⟩ := r; rfl
  | ref a => cases r; rfl
  | ty n => cases r; rfl
theorem op_isB : OpR X (compareOp .Is) (fun x y H Q => ∃ c, y = .bl c ∧ Q (.bl (decide (x = .bl c))) H) := by
  intro pins s σ H x y v u Q I rx ry h
  obtain ⟨c, rfl, q⟩ := h
  cases ry
  have q' : EP X pins σ Q (.bool (v == .bool c)) s := fin_bl I q (rel_isb rx)
  cases x <;> first
    | (cases rx; exact wpAny_pure q')
    | (obtain ⟨t, rfl⟩ := rx; exact wpAny_pure q')
theorem op_isnotB : OpR X (compareOp .IsNot) (fun x y H Q => ∃ c, y = .bl c ∧ Q (.bl (!decide (x = .bl c))) H) := by
  intro pins s σ H x y v u Q I rx ry h
  obtain ⟨c, rfl, q⟩ := h
  cases ry
  have q' : EP X pins σ Q (.bool (!(v == .bool c))) s := fin_bl I q (congrArg not (rel_isb rx))
  cases x <;> first
    | (cases rx; exact wpAny_pure q')
    | (obtain ⟨t, rfl⟩ := rx; exact wpAny_pure q')

/-! a // b, b any positive number of few bits -/
theorem op_fdivL : OpR X (binaryOp .FloorDiv) (rI (fun _ j => 0 < j ∧ j.natAbs.log2 < 9000) fun i j => .int (i / j)) := opI fun i j _ _ _ _ _ hc q => by
  have e : i.fdiv j = i / j := Int.fdiv_eq_ediv_of_nonneg i (Int.le_of_lt hc.1)
  exact floordiv_int (by omega) (by rw [e]; exact q) (.inl (PyProof.noPylong_of_log2 hc.2))

/-! == and != of two lists -/
def plainV : V → Bool
  | .non => true | .bl _ => true | .int _ => true | .str _ => true | .ref _ => true
  | _ => false
def okP (x y : V) : Prop := (x = y ∧ plainV x = true) ∨ (flatV x = true ∧ flatV y = true)
def eqP (x y : V) : Bool := decide (x = y) || eqV x y
theorem eqV_self : ∀ {x : V}, flatV x = true → eqV x x = true
  | .non, _ => rfl
  | .bl b, _ => by cases b <;> rfl
  | .int i, _ => by simp [eqV]
  | .str z, _ => by simp [eqV]
theorem eqAt_P {A : Around} {s : Shared} {x y : V} {u v : Value} (ru : RelV x u) (rv : RelV y v) (h : okP x y) : SeqAt.EqAt A s u v (eqP x y) := by
  rcases h with ⟨e, p⟩ | ⟨f, g⟩
  · subst e
    have e1 : eqP x x = true := by unfold eqP; simp
    rw [e1]
    cases x with
    | non => cases ru; cases rv; exact SeqAt.EqAt.same _
    | bl b => cases ru; cases rv; exact SeqAt.EqAt.same _
    | int i => have := eqAt_V (A := A) (s := s) ru rv rfl rfl; rwa [eqV_self rfl] at this
    | str z => have := eqAt_V (A := A) (s := s) ru rv rfl rfl; rwa [eqV_self rfl] at this
    | ref a => cases ru; cases rv; exact SeqAt.EqAt.same _
    | _ => exact absurd (show false = true from p) Bool.false_ne_true
  · have e1 : eqP x y = eqV x y := by
      unfold eqP
      by_cases e : x = y
      · subst e; rw [eqV_self f]; simp
      · simp [e]
    rw [e1]
    exact eqAt_V ru rv f g
def eqPs (xs ys : List V) : Bool := decide (xs.length = ys.length) && (List.zipWith eqP xs ys).all id
def okPs (xs ys : List V) : Prop := xs.length = ys.length → ∀ (j : Nat) (x y : V), xs[j]? = some x → ys[j]? = some y → okP x y
theorem eqPs_nil {xs : List V} : eqPs xs [] = decide (xs = []) := by cases xs <;> simp [eqPs]
theorem okPs_nil {xs : List V} : okPs xs [] := fun _ j x y _ h => by simp at h
theorem eqPs_self {xs : List V} : eqPs xs xs = true := by
  unfold eqPs
  rw [Bool.and_eq_true]
  refine ⟨by simp, ?_⟩
  induction xs with
  | nil => rfl
  | cons x r ih => rw [List.zipWith_cons_cons, List.all_cons, ih]; simp [eqP]
theorem okPs_self {xs : List V} (h : xs.all plainV = true) : okPs xs xs := fun _ j x y e e' => by
  rw [e] at e'
  cases e'
  exact .inl ⟨rfl, List.all_eq_true.mp h x (List.mem_of_getElem? e)⟩
/-- the pairs' answers -/
def ans (xs ys : List V) (j : Nat) : Bool := match xs[j]?, ys[j]? with
  | some x, some y => eqP x y
  | _, _ => true
theorem zip_ans : ∀ (xs ys : List V), xs.length = ys.length → (List.range xs.length).all (ans xs ys) = (List.zipWith eqP xs ys).all id
  | [], [], _ => rfl
  | [], _ :: _, h => by simp at h
  | _ :: _, [], h => by simp at h
  | x :: xs, y :: ys, h => by
    have ih := zip_ans xs ys (by simpa using h)
    rw [List.length_cons, List.range_succ_eq_map, List.all_cons, List.zipWith_cons_cons, List.all_cons, ← ih, List.all_map]
    rfl
theorem ans_at {xs ys : List V} {us ws : List Value} (r : Vals xs us) (r' : Vals ys ws) (ok : okPs xs ys) (hl : xs.length = ys.length) {A : Around} {s : Shared} (j : Nat) (h1 : j < us.toArray.size) (h2 : j < ws.toArray.size) :
    SeqAt.EqAt A s us.toArray[j] ws.toArray[j] (ans xs ys j) := by
  have l1 := r.length
  have l2 := r'.length
  have j1 : j < xs.length := by simp at h1; omega
  have j2 : j < ys.length := by omega
  have e1 : xs[j]? = some xs[j] := by simp [j1]
  have e2 : ys[j]? = some ys[j] := by simp [j2]
  obtain ⟨u, eu, ru⟩ := r.get e1
  obtain ⟨w, ew, rw'⟩ := r'.get e2
  have a1 : us.toArray[j] = u := by
    have : us[j]? = some u := eu
    simp at h1
    simpa [h1] using this
  have a2 : ws.toArray[j] = w := by
    have : ws[j]? = some w := ew
    simp at h2
    simpa [h2] using this
  have a3 : ans xs ys j = eqP xs[j] ys[j] := by unfold ans; rw [e1, e2]
  rw [a1, a2, a3]
  exact eqAt_P ru rw' (ok hl j _ _ e1 e2)
def rEqL (K : PySem.W.Frag) (neg : Bool) : R2 := fun x y H Q => ∃ p q xs ys, x = .ref p ∧ y = .ref q ∧ SqL K H p xs ∧ SqL K H q ys ∧ okPs xs ys ∧ Q (.bl (if neg then !eqPs xs ys else eqPs xs ys)) H
theorem op_eqL (hu : X.A.units < cLine) : OpR X (compareOp .Eq) (rEqL X.K false) := by
  intro pins s σ H x y v u Q I rx ry h
  obtain ⟨p, q, xs, ys, rfl, rfl, hp, hq, ok, hQ⟩ := h
  cases rx
  cases ry
  obtain ⟨us, r, pl, hz⟩ := I.list hp
  obtain ⟨ws, r', pl', hz'⟩ := I.list hq
  have l1 := r.length
  have l2 := r'.length
  by_cases hl : xs.length = ys.length
  · refine SeqAt.RcAt.lists (e := ans xs ys) pl.isList pl'.isList (by simp; omega) hu (fun j h1 h2 => ans_at r r' ok hl j h1 h2) _ _ _ _ ⟨.bl _, H, I, rfl, ?_⟩
    rw [show us.toArray.size = xs.length by simp; omega, zip_ans xs ys hl]
    unfold eqPs at hQ
    rw [decide_eq_true hl, Bool.true_and] at hQ
    exact hQ
  · refine SeqAt.RcAt.lists_lengths pl.isList pl'.isList (by simp; omega) hu _ _ _ _ ⟨.bl _, H, I, rfl, ?_⟩
    unfold eqPs at hQ
    rw [decide_eq_false hl, Bool.false_and] at hQ
    exact hQ
theorem op_neL (hu : X.A.units < cLine) : OpR X (compareOp .NotEq) (rEqL X.K true) := by
  intro pins s σ H x y v u Q I rx ry h
  obtain ⟨p, q, xs, ys, rfl, rfl, hp, hq, ok, hQ⟩ := h
  cases rx
  cases ry
  obtain ⟨us, r, pl, hz⟩ := I.list hp
  obtain ⟨ws, r', pl', hz'⟩ := I.list hq
  have l1 := r.length
  have l2 := r'.length
  by_cases hl : xs.length = ys.length
  · refine SeqAt.RcNeAt.lists (e := ans xs ys) pl.isList pl'.isList (by simp; omega) hu (fun j h1 h2 => ans_at r r' ok hl j h1 h2) _ _ _ _ ⟨.bl _, H, I, rfl, ?_⟩
    rw [show us.toArray.size = xs.length by simp; omega, zip_ans xs ys hl]
    unfold eqPs at hQ
    rw [decide_eq_true hl, Bool.true_and] at hQ
    exact hQ
  · refine SeqAt.RcNeAt.lists_lengths pl.isList pl'.isList (by simp; omega) hu _ _ _ _ ⟨.bl _, H, I, rfl, ?_⟩
    unfold eqPs at hQ
    rw [decide_eq_false hl, Bool.false_and] at hQ
    exact hQ

/-! xs[::-1] -/
def tRev (K : PySem.W.Frag) (te : TE) : TE := fun σ H Q => te σ H fun x H1 => ∃ a xs, x = .ref a ∧ SqL K H1 a xs ∧ ∀ p, H1 p = none → Q (.ref p) (upd H1 p (.lst xs.reverse))
theorem pe_rev {e k : Expr} {te : TE} {p2 pos : Pos} (he : PE X e te) (hk : PE X k (tUn (fun x H Q => x = .int 1 ∧ Q (.int (-1)) H) (tC (.int 1)))) : PE X (.Subscript e (.Slice none none (some k) p2) pos) (tRev X.K te) := by
  intro pins s σ H Q I h
  refine Subscript_ (thn (he pins s σ H _ I h) fun v s1 ⟨x, H1, I1, r1, q1⟩ => ?_)
  obtain ⟨a, xs, rfl, hx, q⟩ := q1
  cases r1
  refine wpAny_Slice ?_
  rw [evalPart_none, evalPart_some]
  refine wpAny_pure (wpAny_pure (thn (hk pins s1 σ H1 (fun v H2 => v = .int (-1) ∧ H2 = H1) I1 ⟨rfl, rfl, rfl⟩) fun kv s2 ⟨y, H2, I2, r2, e1, e2⟩ => ?_))
  subst e1 e2
  obtain ⟨t, rfl⟩ := r2
  have I3 := I2.kept (h' := s2.heap.push { cls := .type "slice", data := .fields #[.none, .none, .int (-1) t] }) (t' := s2.toks) fun b ob q => Heap.get?_push_of_some _ q
  obtain ⟨its, r, pl, hz⟩ := I3.list hx
  have hlen := r.length
  refine tail_any (ops := [.ref a, .ref s2.heap.objs.size]) pl.isList.typeIs slot_list_getitem.lookup (wpAny_getItem_list_slice pl.isList (Heap.IsSliceOf.new ..) .none .none (.int (-1) t) (by decide) ?_ (by rw [List.size_toArray] <;> omega)) (by with_unfolding_all rfl)
  rw [PySem.W.krv_pick]
  refine ⟨.ref _, _, I3.laid (t' := s2.toks) (o := .lst xs.reverse) (fun b ob q => Heap.get?_push_of_some _ q) (Nat.le_refl _) ?_, rfl, q _ (I3.hok.fresh (Nat.le_refl _))⟩
  refine ⟨by rw [List.length_reverse]; exact hz, its.reverse, 0, r.reverse, ?_⟩
  have := Heap.get?_push_size (s2.heap.push { cls := .type "slice", data := .fields #[.none, .none, .int (-1) t] }) (o := { cls := .type "list", data := .seq its.reverse.toArray }) rfl
  simpa using this
end
end L2

set_option Elab.async false
set_option linter.all false
set_option maxRecDepth 100000
namespace L2
open PySem PySem.Spec PyProof.Rows

abbrev bmV : List Value := [.type "ValueError", .type "Exception", .type "BaseException", .type "object"]
def strK (es : Array DictEntry) : Bool := es.all fun e => match e.key with | .str _ _ => true | _ => false
theorem strK_ok {es : Array DictEntry} (x : strK es = true) : StrKeys es := fun e he => by
  have hx := Array.all_eq_true_iff_forall_mem.mp x e he
  cases hk : e.key with
  | str a b => exact ⟨a, b, rfl⟩
  | _ => rw [hk] at hx; cases hx

/-- an own class C of errors under an own class T that stands under ValueError: C has an __init__ of its own, T has none -/
structure ExC (K : PySem.W.Frag) (C T fI : Addr) : Prop where
  cls : ∃ (nm q : Str) (N : Addr) (bs : List Value) (hdct : Bool) (sn : List Str) (sub : List Value) (ab : Bool) (col : Option Bool) (dd : Option Addr) (k0 k1 k2 k3 k5 : Option Value),
    K.lookup C = some (excClassObj nm q C N bs (.ref T :: bmV) hdct sn sub ab col dd k0 k1 k2 k3 k5 "ValueError.__new__")
  top : ∃ (c0 : Value) (dd : Option Addr) (cd : ClassData) (sl : Array (Option Value)), K.lookup T = some ⟨c0, dd, .cls cd, sl⟩ ∧
    ∃ (d0 : Value) (d1 : Option Addr) (es : Array DictEntry) (n : Nat) (sl' : Array (Option Value)), K.lookup cd.ns = some ⟨d0, d1, .dict es n, sl'⟩ ∧ strK es = true ∧ nsFind es "__init__" = none
  init : PySem.W.findIn K (.ref C) "__init__" = some (some (.ref fI))
  fn : PySem.W.isFn K (.ref fI) = true
  kp : PySem.W.keepIn K (.ref C) = true
theorem ExC.tail {K : PySem.W.Frag} {C T fI : Addr} (x : ExC K C T fI) {h : Heap} (X : K.In h) : OwnTail h bmV (.ref T :: bmV) := by
  obtain ⟨c0, dd, cd, sl, h1, d0, d1, es, n, sl', h2, h3, h4⟩ := x.top
  exact .own (X _ _ h1) ⟨_, es, n, X _ _ h2, rfl, strK_ok h3, fun _ => rfl⟩ h4 .base

section
variable {prog : Program} {w : World} {A : Around} {E : Value → Shared → Prop} {K : PySem.W.Frag} {C T fI : Addr} {h : Heap} {g : Array GenState} {d : Drawn} {t : Nat} {os : OsState}
theorem exc_tc (x : ExC K C T fI) (X : K.In h) {us : List Value} {Q : Fin → Shared → Prop}
    (hq : ∀ h' e, Heap.MadeExcOf h h' e (.ref C) us → h.objs.size ≤ e → wpAny (model prog w) A (call (.ref fI) (.ref e :: us)) (fun r s' => r = .none ∧ Q (.done (.ret (.ref e))) s') E ⟨h', g, d, t, os⟩) (hz : us.length ≤ sizeLine) :
    wpAny (model prog w) A (Builtin.«type.__call__» ⟨.ref C :: us, []⟩) Q E ⟨h, g, d, t, os⟩ := by
  have F := PySem.F.excBase_ValueError
  have OT := x.tail X
  obtain ⟨nm, q, N, bs, hdct, sn, sub, ab, col, dd, k0, k1, k2, k3, k5, lk⟩ := x.cls
  have hC := X _ _ lk
  repeat (first
    | with_reducible exact wpAny_loadPart_at hC ‹_›
    | with_reducible refine wpAny_loadPart_at hC ?_
    | with_reducible refine wpAny_madeBy_exc hC ?_
    | wp_step)
  refine codeAny_call_builtin_code (Code.quiet_builtin _ F.quiet) (wpAny_check_new_subU F F.hasB OT hC ?_)
  refine codeAny_exc_new_subU F F.hasB F OT hC ?_ hz
  show wpAny _ _ _ _ _ _
  generalize hg1 : h.push { cls := .type "tuple", data := .seq us.toArray } = h1
  have z1 : h1.objs.size = h.objs.size + 1 := by rw [← hg1]; exact Heap.size_push _ _
  have k1' : ∀ b o, h.get? b = some o → h1.get? b = some o := fun b o e => by rw [← hg1]; exact Heap.get?_push_of_some _ e
  generalize hg2 : h1.push { cls := .ref C, data := .fields #[.ref h.objs.size, .none, .none, .none, .bool false, .none] } = h2
  have k2' : ∀ b o, h1.get? b = some o → h2.get? b = some o := fun b o e => by rw [← hg2]; exact Heap.get?_push_of_some _ e
  have X2 : K.In h2 := X.keeps fun b o e => k2' b o (k1' b o e)
  have hC2 := X2 _ _ lk
  have he : h2.get? (h.objs.size + 1) = some { cls := .ref C, data := .fields #[.ref h.objs.size, .none, .none, .none, .bool false, .none] } := by
    rw [← hg2, ← z1]; exact Heap.get?_push_size _ rfl
  have ht : h2.get? h.objs.size = some { cls := .type "tuple", data := .seq us.toArray } := k2' _ _ (by rw [← hg1]; exact Heap.get?_push_size _ rfl)
  have hcC : (Value.ref C :: Value.ref T :: bmV).contains (.ref C) = true := by simp
  unfold isInstance
  repeat (first | with_reducible refine wpAny_loadPart_at he ?_ | (with_reducible refine wpAny_isSubtype_exc hC2 ?_; rw [hcC]) | wp_step)
  refine (PySem.W.looks_findIn X2 x.init).at (wpAny_holding ?_)
  refine wpAny_bind ?_
  unfold bindSpecial
  refine wpAny_bind ((PySem.W.looks_typeIn X2 (beq_iff_eq.mp x.fn)).at ?_)
  rw [if_pos (by decide)]
  refine wpAny_pure (wpAny_bind (wpAny_mono (hq h2 (h.objs.size + 1) ⟨fun b o e => k2' b o (k1' b o e), Heap.get?_none_of_le (Nat.le_succ _), h.objs.size, he, Heap.get?_none_of_le (Nat.le_refl _), ht⟩ (Nat.le_succ _)) (fun r s' hr => ?_) fun _ _ z => z))
  obtain ⟨rfl, hQ⟩ := hr
  wp_walk
  exact hQ
theorem exc_call (x : ExC K C T fI) (X : K.In h) {us : List Value} {Q : Value → Shared → Prop}
    (hq : ∀ h' e, Heap.MadeExcOf h h' e (.ref C) us → h.objs.size ≤ e → wpAny (model prog w) (A.under (.builtin "type.__call__" ⟨.ref C :: us, []⟩)) (call (.ref fI) (.ref e :: us)) (fun r s' => r = .none ∧ Q (.ref e) s') E ⟨h', g, d, t, os⟩) (hz : us.length ≤ sizeLine) :
    wpAny (model prog w) A (call (.ref C) us) Q E ⟨h, g, d, t, os⟩ := by
  obtain ⟨nm, q, N, bs, hdct, sn, sub, ab, col, dd, k0, k1, k2, k3, k5, lk⟩ := x.cls
  have hC := X _ _ lk
  have f1 := tc_lookup
  have f2 := tc_bind (.ref C)
  have ty : Shared.TypeIs ⟨h, g, d, t, os⟩ (.ref C) "type" := ⟨_, hC, rfl⟩
  refine wpAny_call ?_
  refine codeAny_of_tree ?_
  show wpAny (model prog w) _ (callAny (.ref C) _) _ _ _
  repeat (any_goals (first
    | assumption
    | with_reducible refine wpAny_loadPart_at hC ?_
    | wp_step))
  refine ⟨rfl, ?_⟩
  exact codeAny_call_builtin_at (Code.quiet_builtin _ (by decide +kernel)) entry_typeCall (wpAny_check_type_call_sub hC (exc_tc x X hq hz))
end
end L2

set_option Elab.async false
set_option linter.all false
set_option maxRecDepth 100000
namespace L2
open PySem PySem.Spec PyProof.Rows PySem.Builtin.ObjectAttr

/-- an error of the class at C stands at e, its own dict at dx (or it has none yet) -/
def ExAt (C e : Addr) (dx ar : Option Addr) (h : Heap) : Prop := ∃ (o : Obj) (vs : Array Value), h.get? e = some o ∧ o.cls = .ref C ∧ o.dict = dx ∧ o.data = .fields vs ∧ 0 < vs.size ∧ ∀ t, ar = some t → vs[0]? = some (.ref t)
def ExO (C e : Addr) (dx ar : Option Addr) : HO := .ext (ExAt C e dx ar)
/-- the dict of an error -/
def XdAt (a : Addr) (fs : List (Str × V)) (h : Heap) : Prop := fs.length ≤ 1000 ∧ ∃ mA, h.Ns1 a mA ∧ (∀ f, RelO (fs.lookup f) (mA f)) ∧ PySem.Within mA (fs.map (·.1))
def XdO (a : Addr) (fs : List (Str × V)) : HO := .ext (XdAt a fs)
theorem ExAt.stay {C e : Addr} {dx ar : Option Addr} {h h' : Heap} (x : ExAt C e dx ar h) (k : ∀ o, h.get? e = some o → h'.get? e = some o) : ExAt C e dx ar h' :=
  let ⟨o, vs, e1, r⟩ := x; ⟨o, vs, k o e1, r⟩
theorem XdAt.stay {a : Addr} {fs : List (Str × V)} {h h' : Heap} (x : XdAt a fs h) (k : ∀ o, h.get? a = some o → h'.get? a = some o) : XdAt a fs h' :=
  let ⟨z, mA, hn, r⟩ := x; ⟨z, mA, hn.at k, r⟩
section
variable {P : Program} {w : World} {H : Hp} {h : Heap}
theorem exO_ok {C e : Addr} {dx ar : Option Addr} (x : ExAt C e dx ar h) : ObjOk P w H h e (ExO C e dx ar) := by
  refine ⟨x, ?_, fun h1 h2 q k => q.stay k⟩
  obtain ⟨o, _, e1, _⟩ := x
  exact ⟨o, e1⟩
theorem xdO_ok {a : Addr} {fs : List (Str × V)} (x : XdAt a fs h) : ObjOk P w H h a (XdO a fs) := by
  refine ⟨x, ?_, fun h1 h2 q k => q.stay k⟩
  obtain ⟨_, _, ⟨o, _, _, e, _⟩, _⟩ := x
  exact ⟨o, e⟩
end
/-- what of the text such a class must have to be made and its fields to be stored -/
structure ExF (K : PySem.W.Frag) (C T fI : Addr) : Prop extends ExC K C T fI where
  hd : PySem.W.hasDictIn K C = true
  sa : PySem.W.findIn K (.ref C) "__setattr__" = some (some (.builtin "object.__setattr__"))

section
variable {X : Cx} {pins : List (Addr × Obj)} {σ : St} {H : Hp} {s : Shared} {C T fI e : Addr} {A : Around} {E : Value → Shared → Prop}
theorem ex_get {dx ar : Option Addr} (I : Inv X pins σ H s) (he : H e = some (ExO C e dx ar)) : ExAt C e dx ar s.heap := (I.hok e _ he).1

/-- T.__init__(self, text), T's own __init__ being ValueError's -/
structure BaseInit (K : PySem.W.Frag) (T : Addr) : Prop where
  ga : PySem.W.specialIn K (.ref T) "__getattribute__" = some (some (.builtin "type.__getattribute__"))
  rd : PySem.W.readsIn K T (.type "type") = true
  at_ : PySem.W.findCls K (.ref T) (.type "type") "__init__" = some (.val (.builtin "ValueError.__init__"))
theorem init_text {dx ar : Option Addr} {us : List Value} {rest : List V} {Q : Value → Shared → Prop} (x : ExF X.K C T fI) (I : Inv X pins σ H s) (he : H e = some (ExO C e dx ar)) (rv : Vals rest us) (hz : us.length ≤ sizeLine)
    (hq : ∀ t s', H t = none → t ≠ e → Inv X pins σ (upd (upd H t (.tup rest)) e (ExO C e dx (some t))) s' → Q .none s') : wpAny (model X.prog X.w) A (call (.builtin "ValueError.__init__") (.ref e :: us)) Q E s := by
  have F := PySem.F.excBase_ValueError
  have OT := x.tail I.kIn
  obtain ⟨nm, q, N, bs, hdct, sn, sub, ab, col, dd, k0, k1, k2, k3, k5, lk⟩ := x.cls
  have hC := I.kIn _ _ lk
  obtain ⟨o, vs, e1, e2, e3, e4, e5, e6⟩ := ex_get I he
  rcases s with ⟨hp, g, d, tk, os⟩
  refine wpAny_call (codeAny_call_builtin F.init.plain F.initEntry (wpAny_check_init_subU F OT hC e1 e2 ?_))
  show wpAny _ _ (Builtin.«BaseException.__init__» ⟨.ref e :: us, []⟩) _ _ _
  delta Builtin.«BaseException.__init__»
  dsimp only
  rw [if_neg (by simp)]
  unfold Builtin.BaseException.bexcPut newTuple
  have h0 : vs[0]? = some vs[0] := by simp [e5]
  have e1' := Heap.get?_push_of_some (h := hp) { cls := .type "tuple", data := .seq us.toArray } e1
  refine wpAny_bind (wpAny_newObj_type (wpAny_bind (wpAny_bind (wpAny_field e1' e4 h0 (wpAny_bind (wpAny_setField e1' e4 e5 ?_))))) hz)
  have nt : hp.objs.size ≠ e := Nat.ne_of_gt (Heap.lt_size e1)
  have ft : H hp.objs.size = none := I.hok.fresh (Nat.le_refl _)
  have key : Inv X pins σ (upd (upd H hp.objs.size (.tup rest)) e (ExO C e dx (some hp.objs.size))) ⟨(hp.push { cls := .type "tuple", data := .seq us.toArray }).update e (Obj.mapFields (·.setIfInBounds 0 (.ref hp.objs.size))), g, d, tk, os⟩ := by
    have I1 := I.laid (a := hp.objs.size) (o := .tup rest) (h' := hp.push { cls := .type "tuple", data := .seq us.toArray }) (t' := tk) (fun b o q => Heap.get?_push_of_some _ q) (Nat.le_refl _) ⟨by rw [rv.length]; exact hz, _, rv, IsTup.new _ _⟩
    have e7 : ((hp.push { cls := .type "tuple", data := .seq us.toArray }).update e (Obj.mapFields (·.setIfInBounds 0 (.ref hp.objs.size)))).get? e = some (Obj.mapFields (·.setIfInBounds 0 (.ref hp.objs.size)) o) :=
      Heap.get?_update_self _ e1' (Obj.isFreed_of_fields (Obj.data_mapFields e4 _))
    refine I1.write (x := e) (e := e) (t' := tk) (by rw [upd_ne (Ne.symm nt), he]; trivial) (.inl rfl) (fun b u hb q => (Heap.get?_update_other _ _ (Ne.symm hb)).trans q) ⟨_, e7⟩ (exO_ok ⟨_, _, e7, (Obj.cls_mapFields ..).trans e2, ?_, Obj.data_mapFields e4 _, by simpa using e5, fun t ht => ?_⟩)
    · have : (Obj.mapFields (·.setIfInBounds 0 (.ref hp.objs.size)) o).dict = o.dict := by
        rcases o with ⟨oc, od, odt, osl⟩
        cases (show odt = _ from e4)
        rfl
      rw [this, e3]
    · cases ht
      simp [e5]
  have fin : wpAny (model X.prog X.w) A.in1 (ret Value.none) (fun fin s' => match fin with
      | Fin.done f => match (Except.ok f : Result) with
        | Except.ok (Flow.ret v) => Q v s'
        | Except.ok a => False
        | Except.error e => E e s'
      | Fin.again c' => c'.quiet = true ∧ codeAny (model X.prog X.w) A c' (fun r s' => match r with
        | Except.ok (Flow.ret v) => Q v s'
        | Except.ok a => False
        | Except.error e => E e s') s') (fun e s' => E e s') _ := wpAny_pure (hq _ _ ft nt key)
  cases vs[0] <;> first
    | exact wpAny_letGo fin
    | exact wpAny_pure fin

/-- e.f = v, e an error without a dict as yet -/
theorem exc_refuse (self : Value) : refuseLoop self "__setattr__" (.ref C :: .ref T :: bmV) = pure () := by
  rw [refuseLoop_ref, refuseLoop_ref]
  first
    | kernel_rfl
    | rfl
theorem exset_ok {ar : Option Addr} {f : Str} {y : V} {u : Value} {Q : Unit → Shared → Prop} (x : ExF X.K C T fI) (I : Inv X pins σ H s) (he : H e = some (ExO C e none ar)) (n : NoAttr X.K C f) (ry : RelV y u)
    (hq : ∀ dx s', H dx = none → dx ≠ e → Inv X pins σ (upd (upd H dx (XdO dx [(f, y)])) e (ExO C e (some dx) ar)) s' → Q () s') : wpAny (model X.prog X.w) A (setAttr (.ref e) f u) Q E s := by
  obtain ⟨o, vs, e1, e2, e3, e4, e5, e6⟩ := ex_get I he
  have J : PySem.W.InstAt s.heap e o C none := ⟨e1, e2, by unfold PySem.W.notCls; rw [e4], by rw [e3]; trivial⟩
  refine PySem.W.set_plain I.kIn J x.sa ?_
  have SF : _ := PySem.F.store_object
  obtain ⟨cd, hc, hd'⟩ := PySem.W.any_some x.hd
  obtain ⟨nm, q, N, bs, hdct, sn, sub, ab, col, dd, k0, k1, k2, k3, k5, lk⟩ := x.cls
  have hcd : cd.mro = .ref C :: .ref T :: bmV := by
    unfold PySem.W.clsIn at hc
    rw [lk] at hc
    cases hc
    rfl
  have hm : PySem.W.Looks (model X.prog X.w) s.heap (mroOf (.ref C)) cd.mro := (PySem.W.looks_clsIn I.kIn hc).andThen .now
  have sub : PySem.W.Looks (model X.prog X.w) s.heap (isInstance (.ref e) (.type "object")) true :=
    J.type.andThen (PySem.W.looks_mroIn I.kIn (by unfold PySem.W.mroIn; rw [hc, Option.bind_some, hcd]; rfl))
  have hat := PySem.W.looks_findIn (M := model X.prog X.w) I.kIn (show PySem.W.findIn X.K (.ref C) f = some none from n)
  refine codeAny_call_builtin SF.slot.plain SF.entry (@PySem.W.check_slot (model X.prog X.w) _ _ { s with toks := s.toks + 1 } "object.__setattr__" "object" "__setattr__" (.ref e) [.str f s.toks, u] [] _ SF.kind SF.split sub (SF.args (.ref e) (.str f s.toks) u) ?_)
  rw [PySem.W.osa_eq, refuse_eq]
  refine wpAny_bind (wpAny_bind (PySem.W.Looks.here (s := { s with toks := s.toks + 1 }) J.type (wpAny_bind (PySem.W.Looks.here (s := { s with toks := s.toks + 1 }) hm ?_))))
  rw [hcd, exc_refuse]
  refine wpAny_pure (wpAny_bind (PySem.W.Looks.here (s := { s with toks := s.toks + 1 }) J.type (wpAny_bind (PySem.W.Looks.here (s := { s with toks := s.toks + 1 }) hat (wpAny_bind (wpAny_pure ?_))))))
  show wpAny _ _ (storeInOwnDict (.ref e) (.ref C) (.str f s.toks) f u false) _ _ _
  have e1b : s.heap.get? e = some ⟨.ref C, none, .fields vs, o.slots⟩ := by
    rcases o with ⟨oc, od, odt, osl⟩
    cases (show oc = _ from e2)
    cases (show od = _ from e3)
    cases (show odt = _ from e4)
    exact e1
  unfold storeInOwnDict
  refine wpAny_bind (wpAny_pure ?_)
  dsimp only
  rw [if_neg (by intro z; cases z)]
  refine wpAny_bind ?_
  unfold ownDictForStores instanceDict
  refine wpAny_bind (wpAny_loadPart (s := { s with toks := s.toks + 1 }) e1b ?_)
  dsimp only
  refine wpAny_bind (PySem.W.Looks.here (s := { s with toks := s.toks + 1 }) (PySem.W.looks_clsIn I.kIn hc) ?_)
  rw [hd', if_neg (by decide), if_neg (show ¬ (!true || !typeHasDict (.ref C)) = true from Bool.false_ne_true)]
  have nd : s.heap.objs.size ≠ e := Nat.ne_of_gt (Heap.lt_size e1)
  refine wpAny_bind (wpAny_alloc (wpAny_bind (wpAny_update (Heap.get?_push_of_some _ e1b) (wpAny_pure ?_))))
  show wpAny _ _ (storeInDict s.heap.objs.size (.str f s.toks) f u) _ _ _
  generalize hg1 : s.heap.push { cls := .type "dict", data := .dict #[] } = g1
  have p1 : ∀ b o, s.heap.get? b = some o → g1.get? b = some o := fun b o q => by rw [← hg1]; exact Heap.get?_push_of_some _ q
  have q1 : g1.get? s.heap.objs.size = some { cls := .type "dict", data := .dict #[] } := by rw [← hg1]; exact Heap.get?_push_size _ rfl
  have z1 : g1.objs.size = s.heap.objs.size + 1 := by rw [← hg1]; exact Heap.size_push _ _
  generalize hg2 : g1.update e (fun o => { cls := o.cls, dict := some s.heap.objs.size, data := o.data, slots := o.slots }) = g2
  have q2 : g2.get? s.heap.objs.size = some { cls := .type "dict", data := .dict #[] } := by rw [← hg2, Heap.get?_update_other _ _ (Ne.symm nd)]; exact q1
  have q2e : g2.get? e = some ⟨.ref C, some s.heap.objs.size, .fields vs, o.slots⟩ := by rw [← hg2, Heap.get?_update_self _ (p1 _ _ e1b) rfl]
  have q2o : ∀ b, b ≠ e → g2.get? b = g1.get? b := fun b hb => by rw [← hg2]; exact Heap.get?_update_other _ _ (Ne.symm hb)
  have n2 : g2.Ns s.heap.objs.size (fun _ => none) := ⟨_, #[], _, q2, rfl, (fun e he => absurd he (by simp)), fun _ => rfl⟩
  unfold storeInDict
  refine wpAny_bind (wpAny_pure (wpAny_bind (wpAny_nsSet1 (s := ⟨g2, s.gens, s.drawn, s.toks + 1, s.os⟩) (Heap.Ns1.of_empty n2) fun h3 hn3 hs3 => ?_)))
  have wi : PySem.Within (fun z => if z = f then some u else none) [f] := fun z hz => by
    by_cases q : z = f
    · simp [q]
    · exact absurd (if_neg q) hz
  obtain ⟨oD, esD, epD, hoD, hdD, hcD⟩ := hn3.count wi
  refine wpAny_bind (wpAny_lookBehind hoD (by rw [hdD]; exact pastItsLine_dict (Nat.le_trans hcD (by rw [sizeLine_eq, List.length_singleton]; decide))) ?_)
  refine wpAny_pure (hq s.heap.objs.size _ (I.hok.fresh (Nat.le_refl _)) nd ?_)
  -- the dict first, with what it holds; then the error that has it
  have kA : (s.heap.push oD).get? s.heap.objs.size = some oD := Heap.get?_push_size _ (Obj.isFreed_of_dict hdD)
  have I1 := I.laid (a := s.heap.objs.size) (o := XdO s.heap.objs.size [(f, y)]) (h' := s.heap.push oD) (t' := s.toks + 1 + 1) (fun b u q => Heap.get?_push_of_some _ q) (Nat.le_refl _)
    (xdO_ok ⟨Nat.le_of_ble_eq_true rfl, _, hn3.at fun o q => by rw [hoD] at q; cases q; exact kA, fun z => ?_, wi⟩)
  · refine I1.write (x := e) (e := e) (t' := s.toks + 1 + 1) (by rw [upd_ne (Ne.symm nd), he]; trivial) (.inl rfl) (fun b v hb q => ?_) ⟨_, hs3.extBut _ _ (Ne.symm nd) q2e⟩ (exO_ok ⟨_, vs, hs3.extBut _ _ (Ne.symm nd) q2e, rfl, rfl, rfl, e5, e6⟩)
    by_cases hbd : b = s.heap.objs.size
    · subst hbd
      rw [kA] at q
      cases q
      exact hoD
    · have hlt : b < s.heap.objs.size := by
        have z := Heap.lt_size q
        have z2 : (s.heap.push oD).objs.size = s.heap.objs.size + 1 := Heap.size_push _ _
        have z3 : b < s.heap.objs.size + 1 := by rw [← z2]; exact z
        exact Nat.lt_of_le_of_ne (Nat.le_of_lt_succ z3) hbd
      have q' : s.heap.get? b = some v := by
        obtain ⟨a1, a2⟩ := Heap.get?_some_iff.mp q
        refine Heap.get?_some_iff.mpr ⟨?_, a2⟩
        have : (s.heap.objs.push oD)[b]? = some v := a1
        rw [Array.getElem?_push_lt hlt] at this
        simpa [hlt] using this
      exact hs3.extBut _ _ hbd (by rw [q2o b hb]; exact p1 _ _ q')
  · show RelO ([(f, y)].lookup z) (if z = f then some u else none)
    by_cases q : z = f
    · subst q
      rw [if_pos rfl, List.lookup_cons]
      simp
      exact ry
    · rw [if_neg q, List.lookup_cons]
      have : (z == f) = false := beq_eq_false_iff_ne.mpr q
      rw [this]
      trivial
/-- e.f = v, e an error with a dict -/
theorem exset2_ok {dx : Addr} {ar : Option Addr} {fs : List (Str × V)} {f : Str} {y : V} {u : Value} {Q : Unit → Shared → Prop} (x : ExF X.K C T fI) (I : Inv X pins σ H s) (he : H e = some (ExO C e (some dx) ar)) (hx : H dx = some (XdO dx fs)) (hz : fs.length < 1000)
    (n : NoAttr X.K C f) (ry : RelV y u) (hq : ∀ s', Inv X pins σ (upd H dx (XdO dx (putF f y fs))) s' → Q () s') : wpAny (model X.prog X.w) A (setAttr (.ref e) f u) Q E s := by
  obtain ⟨o, vs, e1, e2, e3, e4, e5, e6⟩ := ex_get I he
  obtain ⟨hzl, mA, hn, rA, wA⟩ := (show XdAt dx fs s.heap from (I.hok dx _ hx).1)
  obtain ⟨oD, q⟩ : ∃ oD, s.heap.get? dx = some oD := let ⟨o, _, _, z, _⟩ := hn; ⟨o, z⟩
  have J : PySem.W.InstAt s.heap e o C (some oD) := ⟨e1, e2, by unfold PySem.W.notCls; rw [e4], by rw [e3]; exact q⟩
  refine PySem.W.set_plain I.kIn J x.sa ?_
  have SF : _ := PySem.F.store_object
  obtain ⟨cd, hc, hd'⟩ := PySem.W.any_some x.hd
  obtain ⟨nm, qq, N, bs, hdct, sn, sub, ab, col, dd, k0, k1, k2, k3, k5, lk⟩ := x.cls
  have hcd : cd.mro = .ref C :: .ref T :: bmV := by
    unfold PySem.W.clsIn at hc
    rw [lk] at hc
    cases hc
    rfl
  have hm : PySem.W.Looks (model X.prog X.w) s.heap (mroOf (.ref C)) cd.mro := (PySem.W.looks_clsIn I.kIn hc).andThen .now
  have sub : PySem.W.Looks (model X.prog X.w) s.heap (isInstance (.ref e) (.type "object")) true :=
    J.type.andThen (PySem.W.looks_mroIn I.kIn (by unfold PySem.W.mroIn; rw [hc, Option.bind_some, hcd]; rfl))
  have hat := PySem.W.looks_findIn (M := model X.prog X.w) I.kIn (show PySem.W.findIn X.K (.ref C) f = some none from n)
  refine codeAny_call_builtin SF.slot.plain SF.entry (@PySem.W.check_slot (model X.prog X.w) _ _ { s with toks := s.toks + 1 } "object.__setattr__" "object" "__setattr__" (.ref e) [.str f s.toks, u] [] _ SF.kind SF.split sub (SF.args (.ref e) (.str f s.toks) u) ?_)
  rw [PySem.W.osa_eq, refuse_eq]
  refine wpAny_bind (wpAny_bind (PySem.W.Looks.here (s := { s with toks := s.toks + 1 }) J.type (wpAny_bind (PySem.W.Looks.here (s := { s with toks := s.toks + 1 }) hm ?_))))
  rw [hcd, exc_refuse]
  refine wpAny_pure (wpAny_bind (PySem.W.Looks.here (s := { s with toks := s.toks + 1 }) J.type (wpAny_bind (PySem.W.Looks.here (s := { s with toks := s.toks + 1 }) hat (wpAny_bind (wpAny_pure ?_))))))
  show wpAny _ _ (storeInOwnDict (.ref e) (.ref C) (.str f s.toks) f u false) _ _ _
  have e1b : s.heap.get? e = some ⟨.ref C, some dx, .fields vs, o.slots⟩ := by
    rcases o with ⟨oc, od, odt, osl⟩
    cases (show oc = _ from e2)
    cases (show od = _ from e3)
    cases (show odt = _ from e4)
    exact e1
  unfold storeInOwnDict
  refine wpAny_bind (wpAny_pure ?_)
  dsimp only
  rw [if_neg (by intro z; cases z)]
  refine wpAny_bind ?_
  unfold ownDictForStores instanceDict
  refine wpAny_bind (wpAny_loadPart (s := { s with toks := s.toks + 1 }) e1b ?_)
  dsimp only
  refine wpAny_bind (PySem.W.Looks.here (s := { s with toks := s.toks + 1 }) (PySem.W.looks_clsIn I.kIn hc) ?_)
  rw [hd', if_neg (by decide)]
  refine wpAny_pure ?_
  show wpAny _ _ (storeInDict dx (.str f s.toks) f u) _ _ _
  unfold storeInDict
  refine wpAny_bind (wpAny_pure (wpAny_bind (wpAny_nsSet1 (s := ⟨s.heap, s.gens, s.drawn, s.toks + 1, s.os⟩) hn fun h3 hn3 hs3 => ?_)))
  have wi : PySem.Within (fun z => if z = f then some u else mA z) ((putF f y fs).map (·.1)) := fun z hz' => by
    by_cases q : z = f
    · rw [q]; exact (keys_putF f y fs).1
    · refine (keys_putF f y fs).2 z (wA z fun w => hz' ?_)
      show (if z = f then some u else mA z) = none
      rw [if_neg q]; exact w
  have hlen : (putF f y fs).length ≤ 1000 := by have := length_putF f y fs; omega
  obtain ⟨oD', esD, epD, hoD, hdD, hcD⟩ := hn3.count wi
  refine wpAny_bind (wpAny_lookBehind hoD (by rw [hdD]; exact pastItsLine_dict (Nat.le_trans hcD (by rw [sizeLine_eq, List.length_map]; omega))) ?_)
  refine wpAny_pure (hq _ ?_)
  refine I.write (x := dx) (e := dx) (by rw [hx]; trivial) (.inl rfl) (fun b v hb q' => hs3.extBut _ _ hb q') ⟨_, hoD⟩ (xdO_ok ⟨hlen, _, hn3, fun z => ?_, wi⟩)
  show RelO ((putF f y fs).lookup z) (if z = f then some u else mA z)
  rw [lookup_putF]
  by_cases q : z = f
  · rw [if_pos q, if_pos q]; exact ry
  · rw [if_neg q, if_neg q]; exact rA z
/-- an attribute of an error told -/
theorem exget_ok {dx : Addr} {ar : Option Addr} {fs : List (Str × V)} {f : Str} {y : V} {b : Bool} {Q : Value → Shared → Prop} (g : PySem.W.hasDictIn X.K C = true) (I : Inv X pins σ H s) (he : H e = some (ExO C e (some dx) ar)) (hx : H dx = some (XdO dx fs)) (n : NoAttr X.K C f)
    (l : fs.lookup f = some y) (ga : ∀ {o : Obj} {od : Option Obj} {v : Value}, PySem.W.InstAt s.heap e o C od → PySem.W.findObj X.K C od f = some (.value v) → PySem.W.handedIn v = true → Q v { s with toks := s.toks + 1 } → wpAny (model X.prog X.w) A (getAttr (.ref e) f b) Q E s)
    (hq : ∀ u s', Inv X pins σ H s' → RelV y u → Q u s') : wpAny (model X.prog X.w) A (getAttr (.ref e) f b) Q E s := by
  obtain ⟨o, vs, e1, e2, e3, e4, e5, e6⟩ := ex_get I he
  obtain ⟨hzl, mA, hn, rA, wA⟩ := (show XdAt dx fs s.heap from (I.hok dx _ hx).1)
  obtain ⟨oD, q, hl⟩ := lookIn_ns hn
  obtain ⟨u, hu, ru⟩ := RelO.some_of (v := y) (o := mA f) (by rw [← l]; exact rA f)
  exact ga ⟨e1, e2, by unfold PySem.W.notCls; rw [e4], by rw [e3]; exact q⟩ (PySem.W.findObj_own g n rfl (by rw [hl, hu])) (handed_of ru) (hq u _ (I.tok _) ru)
end
end L2

set_option Elab.async false
set_option linter.all false
set_option maxRecDepth 100000
namespace L2
open PySem PySem.Spec PyProof.Rows PySem.Builtin.ObjectAttr

/-- how such an error tells its attributes -/
structure ExG (K : PySem.W.Frag) (C : Addr) : Prop where
  ga : PySem.W.findIn K (.ref C) "__getattribute__" = some (some (.builtin "BaseException.__getattribute__"))
  no : PySem.W.findIn K (.ref C) "__getattr__" = some none
  be : PySem.W.mroIn K C (.type "BaseException") = some true
  hd : PySem.W.hasDictIn K C = true
  ca : PySem.W.findIn K (.ref C) "__class__" = some (some (.builtin "object.__class__"))
  cn : PySem.W.specialIn K (.builtin "object.__class__") "__get__" = some (some (.builtin "getset_descriptor.__get__"))
  ct : PySem.W.takesIn K (.builtin "object.__class__") = some true
  ob : PySem.W.mroIn K C (.type "object") = some true
  ki : PySem.W.subIn K (.ref C) (.type "int") = some false
  kb : PySem.W.subIn K (.ref C) (.type "bool") = some false
  kl : PySem.W.subIn K (.ref C) (.type "list") = some false
  kt : PySem.W.subIn K (.ref C) (.type "tuple") = some false
def foundRun (r : Found) (e C : Addr) (name : Str) : Sem PySem.Fin := match r with
  | .value v => ret v
  | .bind g a => bindTo g a (.ref e) (.ref C)
  | .missing => noSuchAttribute (.ref e) name
section
variable {prog : Program} {w : World} {A : Around} {E : Value → Shared → Prop} {s : Shared} {K : PySem.W.Frag} {e C : Addr} {o : Obj} {od : Option Obj} {name : Str}
theorem exga_by {fill expr : Bool} {tk : Tok} {r : Found} {Q : Value → Shared → Prop} (x : ExG K C) (X : K.In s.heap) (I : PySem.W.InstAt s.heap e o C od) (hf : PySem.W.findObj K C od name = some r) (hr : r ≠ .missing)
    (h : wpAny (model prog w) A.in1 (foundRun r e C name) (fun fin s' => match fin with | .done (.ret v) => wpAny (model prog w) A (handedOut v) Q E s' | _ => False) (fun _ _ => False) s) :
    wpAny (model prog w) A (getAttrBy (.ref e) (.str name tk) fill expr) Q E s := by
  have SL := PySem.F.attr_ValueError.ga
  unfold getAttrBy
  refine wpAny_holding (wpAny_bind (I.type.here (wpAny_bind ((PySem.W.looks_findIn X x.ga).here ?_))))
  dsimp only
  rw [if_neg (by rw [show (Value.builtin "BaseException.__getattribute__" == Value.builtin "object.__getattribute__") = false from by decide +kernel, Bool.and_false]; decide)]
  unfold getAttrByItsOwn
  refine wpAny_bind ((PySem.W.looks_hook (mc := .ref C) X (r := none) (by rw [if_pos (by rfl)]; exact x.no)).here (wpAny_bind (wpAny_attempt (wpAny_holding ?_))))
  unfold callGetattribute
  rw [if_neg (by rw [show onTheHeap (Value.builtin "BaseException.__getattribute__") = false from rfl, Bool.and_false]; decide)]
  unfold boundAndCalled
  rw [SL.bind]
  refine wpAny_bind (wpAny_pure ?_)
  show wpAny _ _ (call (.builtin "BaseException.__getattribute__") [.ref e, .str name tk]) _ _ _
  refine wpAny_call (codeAny_call_builtin SL.plain PySem.F.entry_bexc_ga ?_)
  refine @PySem.W.check_slot (model prog w) _ _ s "BaseException.__getattribute__" "BaseException" "__getattribute__" (.ref e) [.str name tk] [] _ (by decide +kernel) (by decide +kernel) (I.type.andThen (PySem.W.looks_mroIn X x.be)) (PySem.F.args_bexc_ga (.ref e) (.str name tk)) ?_
  delta Builtin.«object.__getattribute__»
  refine wpAny_bind (wpAny_pure (wpAny_bind (wpAny_pure (wpAny_bind (I.type.here (wpAny_bind ((PySem.W.looks_find X I hf).here ?_)))))))
  refine wpAny_mono (show wpAny (model prog w) A.in1 _ (fun fin s' => match fin with | .done (.ret v) => wpAny (model prog w) A (handedOut v) Q E s' | _ => False) (fun _ _ => False) s from ?_) (fun fin s' z => ?_) fun _ _ z => z.elim
  · cases r with
    | value v => exact h
    | bind g a => exact h
    | missing => exact absurd rfl hr
  · rcases fin with (_ | _ | _ | _) | _ <;> first | exact z | exact z.elim
theorem exga_value {v : Value} {expr : Bool} {Q : Value → Shared → Prop} (x : ExG K C) (X : K.In s.heap) (I : PySem.W.InstAt s.heap e o C od) (hf : PySem.W.findObj K C od name = some (.value v)) (hh : PySem.W.handedIn v = true)
    (h : Q v { s with toks := s.toks + 1 }) : wpAny (model prog w) A (getAttr (.ref e) name expr) Q E s := by
  unfold getAttr
  refine wpAny_bind (wpAny_mkText (exga_by (s := { s with toks := s.toks + 1 }) x X I hf (fun z => nomatch z) (wpAny_pure ?_)))
  show wpAny (model prog w) _ (handedOut v) _ _ _
  rw [PySem.W.handedOut_of hh]
  exact wpAny_pure h
theorem exga_class {Q : Option Value → Shared → Prop} (x : ExG K C) (X : K.In s.heap) (I : PySem.W.InstAt s.heap e o C od) (h : Q (some (.ref C)) { s with toks := s.toks + 1 }) : wpAny (model prog w) A (getAttr? (.ref e) "__class__") Q E s := by
  have hf : PySem.W.findObj K C od "__class__" = some (.bind (.builtin "getset_descriptor.__get__") (.builtin "object.__class__")) := by
    obtain ⟨cd, hc, _⟩ := PySem.W.any_some x.hd
    unfold PySem.W.findObj
    rw [hc, Option.bind_some, x.ca, Option.bind_some]
    simp [x.cn, x.ct]
  unfold getAttr? getAttrBy?
  refine wpAny_bind (wpAny_mkText (wpAny_bind (wpAny_attempt (exga_by (s := { s with toks := s.toks + 1 }) x X I hf (fun z => nomatch z) ?_))))
  show wpAny _ _ (holding [.builtin "object.__class__"] (call (.builtin "getset_descriptor.__get__") [.builtin "object.__class__", .ref e, .ref C]) >>= ret) _ _ _
  refine wpAny_bind (wpAny_holding (wpAny_call (PySem.W.class_get (s := { s with toks := s.toks + 1 }) X I x.ob ?_)))
  refine wpAny_pure ?_
  show wpAny _ _ (handedOut (.ref C)) _ _ _
  rw [PySem.W.handedOut_of rfl]
  refine wpAny_pure ?_
  exact wpAny_pure h
/-- what isinstance asks of such an error -/
theorem kitx_exc {dx ar : Option Addr} (x : ExG K C) : PySem.W.KitX K (.ref e) (.ref C) (fun h => ExAt C e dx ar h ∧ ∀ d, dx = some d → ∃ oD, h.get? d = some oD) where
  ty := fun _ h X p => by
    obtain ⟨⟨o, vs, e1, e2, _⟩, _⟩ := p
    exact e2 ▸ (PySem.W.Looks.ld e1).andThen .now
  it := fun _ _ X _ => by
    obtain ⟨cdD, hcD, _⟩ := PySem.W.any_some x.hd
    unfold PySem.W.clsIn at hcD
    split at hcD
    · rename_i c' d' cd' sl' ho
      intro A' Q' E' s' k q
      have hk := k _ _ (X _ _ ho)
      unfold isType loadHead
      exact wpAny_bind (wpAny_loadPart hk (wpAny_pure q))
    · cases hcD
  ne := fun _ tp _ _ _ _ X htp => by
    obtain ⟨cdD, hcD, _⟩ := PySem.W.any_some x.hd
    by_cases z : C = tp
    case neg => exact Bool.eq_false_iff.mpr (fun q => z (Value.ref.inj (beq_iff_eq.mp q)))
    subst z
    unfold PySem.W.clsIn at hcD
    split at hcD
    · rename_i c' d' cd' sl' ho
      exact nomatch (X _ _ ho).symm.trans htp
    · cases hcD
  ca := fun X p k => by
    obtain ⟨⟨o, vs, e1, e2, e3, e4, _⟩, hD⟩ := p
    cases dx with
    | none => exact exga_class (od := none) x X ⟨e1, e2, by unfold PySem.W.notCls; rw [e4], by rw [e3]; trivial⟩ k
    | some d =>
      obtain ⟨oD, q⟩ := hD d rfl
      exact exga_class (od := some oD) x X ⟨e1, e2, by unfold PySem.W.notCls; rw [e4], by rw [e3]; exact q⟩ k
end
end L2

set_option Elab.async false
set_option linter.all false
set_option maxRecDepth 100000
namespace L2
open PySem PySem.Spec PyProof.Rows

/-- a thing of a known type -/
inductive Thg (K : PySem.W.Frag) (H : Hp) : V → Value → Prop where
  | non : Thg K H .non (.type "NoneType")
  | bl (x : Bool) : Thg K H (.bl x) (.type "bool")
  | int (i : Int) : Thg K H (.int i) (.type "int")
  | str (x : Str) : Thg K H (.str x) (.type "str")
  | lst {a : Addr} {xs : List V} (e : H a = some (.lst xs)) : Thg K H (.ref a) (.type "list")
  | frz {a : Addr} {o : Obj} {xs : List V} (e : H a = some (.frz o (.lst xs))) : Thg K H (.ref a) (.type "list")
  | tup {a : Addr} {xs : List V} (e : H a = some (.tup xs)) : Thg K H (.ref a) (.type "tuple")
  | dK {a : Addr} {kvs : List (Key × V)} (e : H a = some (.dK kvs)) : Thg K H (.ref a) (.type "dict")
  | exc {a C : Addr} {dx : Addr} {ar : Option Addr} {u : HO} (e : H a = some (ExO C a (some dx) ar)) (d : H dx = some u) (x : ExG K C) : Thg K H (.ref a) (.ref C)
  | exn {a C : Addr} {ar : Option Addr} (e : H a = some (ExO C a none ar)) (x : ExG K C) : Thg K H (.ref a) (.ref C)
theorem Thg.keep {K : PySem.W.Frag} {H H' : Hp} {v : V} {t : Value} (x : Thg K H v t) (k : ∀ a o, H a = some o → H' a = some o) : Thg K H' v t := by
  cases x with
  | non => exact .non
  | bl x => exact .bl x
  | int i => exact .int i
  | str x => exact .str x
  | lst e => exact .lst (k _ _ e)
  | frz e => exact .frz (k _ _ e)
  | tup e => exact .tup (k _ _ e)
  | dK e => exact .dK (k _ _ e)
  | exc e d x => exact .exc (k _ _ e) (k _ _ d) x
  | exn e x => exact .exn (k _ _ e) x
section
variable {X : Cx} {pins : List (Addr × Obj)} {σ : St} {H : Hp} {s : Shared}
theorem ObjOk.there {P : Program} {w : World} {H : Hp} {h : Heap} {a : Addr} {o : HO} (x : ObjOk P w H h a o) : ∃ ob, h.get? a = some ob := by
  cases o with
  | lst xs => obtain ⟨_, _, _, _, e⟩ := x; exact ⟨_, e⟩
  | tup xs => obtain ⟨_, _, _, ob, e, _⟩ := x; exact ⟨ob, e⟩
  | dK kvs => obtain ⟨_, _, _, _, o, _, _, e, _⟩ := x; exact ⟨o, e⟩
  | dT kvs => obtain ⟨_, _, _, _, o, _, _, e, _⟩ := x; exact ⟨o, e⟩
  | set S n => obtain ⟨o, _, _, _, e, _⟩ := x; exact ⟨o, e⟩
  | ins C dx fs => obtain ⟨_, _, _, e, _⟩ := x; exact ⟨_, e⟩
  | own y => exact x
  | xd fs => obtain ⟨_, ⟨o, _, _, e, _⟩, _⟩ := x; exact ⟨o, e⟩
  | rng lo hi => obtain ⟨_, _, _, e⟩ := x; exact ⟨_, e⟩
  | frz ob u => obtain ⟨e, _⟩ := x; exact ⟨ob, e⟩
  | tbl ps => exact ⟨_, x⟩
  | met f y => exact ⟨_, x⟩
  | ext φ => exact x.2.1
theorem Thg.kit {v : V} {u t : Value} (I : Inv X pins σ H s) (r : RelV v u) (x : Thg X.K H v t) : u ≠ .builtin "__main__.__loader__#opaque" ∧ ∃ φ, PySem.W.KitX X.K u t φ ∧ φ s.heap := by
  cases x with
  | non => cases (show u = Value.none from r); exact ⟨(fun z => nomatch z), _, PySem.W.kitx_none, True.intro⟩
  | bl y => cases (show u = Value.bool y from r); exact ⟨(fun z => nomatch z), _, PySem.W.kitx_bool, True.intro⟩
  | int i => obtain ⟨t, q⟩ := (show ∃ t, u = Value.int i t from r); cases q; exact ⟨(fun z => nomatch z), _, PySem.W.kitx_int, True.intro⟩
  | str y => obtain ⟨t, q⟩ := (show ∃ t, u = Value.str y t from r); cases q; exact ⟨(fun z => nomatch z), _, PySem.W.kitx_str, True.intro⟩
  | @lst a xs ea =>
    cases (show u = Value.ref a from r)
    obtain ⟨_, _, n, _, h1⟩ := (show ObjOk X.prog X.w H s.heap a (.lst xs) from I.hok a _ ea)
    exact ⟨(fun z => nomatch z), _, PySem.W.kitx_list, ⟨_, h1, rfl⟩⟩
  | @frz a ob xs ea =>
    cases (show u = Value.ref a from r)
    obtain ⟨_, _, _, n, _, h1⟩ := (show ObjOk X.prog X.w H s.heap a (.frz ob (.lst xs)) from I.hok a _ ea)
    exact ⟨(fun z => nomatch z), _, PySem.W.kitx_list, ⟨_, h1, rfl⟩⟩
  | @tup a xs ea =>
    cases (show u = Value.ref a from r)
    obtain ⟨_, _, _, p⟩ := (show ObjOk X.prog X.w H s.heap a (.tup xs) from I.hok a _ ea)
    obtain ⟨o, h1, h2, _⟩ := p
    exact ⟨(fun z => nomatch z), _, PySem.W.kitx_tuple, ⟨o, h1, h2⟩⟩
  | @dK a kvs ea =>
    cases (show u = Value.ref a from r)
    obtain ⟨_, _, vs, _, p⟩ := (show ObjOk X.prog X.w H s.heap a (.dK kvs) from I.hok a _ ea)
    obtain ⟨o, es, ep, h1, h2, _⟩ := p
    exact ⟨(fun z => nomatch z), _, PySem.W.kitx_dict, ⟨o, h1, h2.1⟩⟩
  | @exc a C dx ar w ea ed x =>
    cases (show u = Value.ref a from r)
    refine ⟨(fun z => nomatch z), _, kitx_exc (dx := some dx) x, (I.hok a _ ea).1, fun d hd => ?_⟩
    cases hd
    exact (I.hok dx _ ed).there
  | @exn a C ar ea x =>
    cases (show u = Value.ref a from r)
    exact ⟨(fun z => nomatch z), _, kitx_exc (dx := none) x, (I.hok a _ ea).1, fun d hd => nomatch hd⟩
def vOf : V → Value
  | .ty n => .type n
  | .ref a => .ref a
  | _ => .none
theorem vals_vOf : ∀ {cs : List V} {us : List Value}, Vals cs us → (∀ c ∈ cs, (∃ n, c = .ty n) ∨ ∃ a, c = .ref a) → us = cs.map vOf
  | _, _, .nil, _ => rfl
  | c :: cs, u :: us, .cons r t, h => by
    rw [List.map_cons, vals_vOf t fun c hc => h c (List.mem_cons_of_mem _ hc)]
    rcases h c List.mem_cons_self with ⟨n, rfl⟩ | ⟨a, rfl⟩
    · cases (show u = Value.type n from r); rfl
    · cases (show u = Value.ref a from r); rfl
/-- isinstance(v, T), isinstance(v, (T, ..)) -/
def rInst (K : PySem.W.Frag) : List V → Hp → VK → Prop := fun xs H Q => ∃ v c t b, xs = [v, c] ∧ Thg K H v t ∧
  ((∃ T, c = .ty T ∧ PySem.W.kitOne K t (.type T) = some b) ∨ (∃ C, c = .ref C ∧ PySem.W.kitOne K t (.ref C) = some b) ∨
    ∃ tp cs, c = .ref tp ∧ H tp = some (.tup cs) ∧ (∀ c ∈ cs, (∃ n, c = .ty n) ∨ ∃ a, c = .ref a) ∧ PySem.W.kitAny K t (cs.map vOf) = some b) ∧ Q (.bl b) H
theorem call_inst : CallR X (.builtin "isinstance") (rInst X.K) := by
  intro pins s σ H xs us Q I r h
  obtain ⟨v, c, t, b, rfl, x, hc, q⟩ := h
  obtain ⟨u, u', rfl, ru, ru'⟩ := vals2 r
  obtain ⟨hx, φ, Z, p⟩ := x.kit I ru
  have fin : ∀ tk, EP X pins σ Q (.bool b) { s with toks := tk } := fun tk => ⟨.bl b, H, I.tok tk, rfl, q⟩
  rcases hc with ⟨T, rfl, e⟩ | ⟨C, rfl, e⟩ | ⟨tp, cs, rfl, ht, hcs, e⟩
  · cases (show u' = Value.type T from ru')
    exact PySem.W.kia_one Z I.kIn p e hx fin
  · cases (show u' = Value.ref C from ru')
    exact PySem.W.kia_one Z I.kIn p e hx fin
  · cases (show u' = Value.ref tp from ru')
    obtain ⟨_, its, rv, o, h1, h2, n, h3⟩ := (show ObjOk X.prog X.w H s.heap tp (.tup cs) from I.hok tp _ ht)
    rcases o with ⟨oc, od, odt, osl⟩
    cases (show oc = _ from h2)
    cases (show odt = _ from h3)
    rw [← vals_vOf rv hcs] at e
    exact PySem.W.kia_tup Z I.kIn p h1 e hx fin
end

/-! an own error is made -/
section
variable {X : Cx} {C T fI : Addr}
def tEx (C : Addr) (sp : Sp) (t : TA) : TE := fun σ H Q => t σ H fun vs H1 => vs.length ≤ sizeLine ∧ ∀ e, H1 e = none → sp (.ref e :: vs) (upd H1 e (ExO C e none none)) (fun v H2 => v = .non ∧ Q (.ref e) H2) E0
theorem pe_exc {k : Nat} {fd : FuncData} {ps : List Str} {sp : Sp} {x : Str} {p pos : Pos} {e : Expr} {es : List Expr} {t : TA} (M : ExF X.K C T fI) (F : FnOk X.prog X.w X.K X.mg X.base CX0 k fI fd ps sp) (hr : Room (k + 1) X.A) (hg : Gl X x) (hm : X.mg x = some (.ref C))
    (hb : Binds X.K fd ps []) (ha : PA X (e :: es) t) (hdb : (x == ("__debug__" : Str)) = false := by decide) (he : starEach (e :: es) X.env = (false, eval e X.env) :: starEach es X.env := by rfl) (hpl : (backTo pos (starEach es X.env)).any (·.1) = false := by rfl) :
    PE X (.Call (.Name x p) (e :: es) [] pos) (tEx C sp t) := by
  intro pins s σ H Q I h
  refine wpAny_Call_Name_kw (ld_glob I hg hm ?_ hdb)
  refine PySem.W.callWith_K (h₀ := X.base) I.ok.mod.kin M.kp (thn (ha pos pins s σ H _ I h) fun us s1 ⟨vs, H1, I1, r, hz, q⟩ => ⟨I1.kIn, ?_⟩) he hpl
  obtain ⟨hp, g, d, tk, os⟩ := s1
  refine exc_call M.toExC I1.kIn (fun h' e hm hle => ?_) (by rw [List.nil_append, ← r.length]; exact hz)
  obtain ⟨hk, hn, tt, h1, _, h2⟩ := hm
  have I2 : Inv X pins σ (upd H1 e (ExO C e none none)) ⟨h', g, d, tk, os⟩ := I1.laid (a := e) (o := ExO C e none none) (h' := h') (t' := tk) hk hle (exO_ok ⟨_, _, h1, rfl, rfl, rfl, by show 0 < 6; decide, fun t z => nomatch z⟩)
  have hq := q e (I1.hok.fresh hle)
  have r2 : Vals (V.ref e :: vs) (Value.ref e :: us) := .cons rfl r
  have hl : (Value.ref e :: us ++ []).length = ps.length := by
    have e1 := r2.length
    rw [F.len _ _ _ _ hq] at e1
    rw [List.append_nil]
    exact e1.symm
  have hbb := hb ⟨h', g, d, tk, os⟩ (Value.ref e :: us) I2.kIn hl
  rw [List.append_nil] at hbb
  refine wpAny_call (codeAny_mono (F.run _ X.stack _ _ ⟨Value.ref e :: us, []⟩ (Value.ref e :: us) _ _ E0 (hr.make C us []) (I2.env0.make C us []) hbb r2 hq) fun rr s' hq' => ?_)
  cases rr with
  | error e => exact False.elim hq'
  | ok fl =>
    cases fl with
    | ret u =>
      obtain ⟨v, H', I3, rv, ev, q3⟩ := I2.after hq'
      subst ev
      exact ⟨rv, ⟨V.ref e, H', I3, rfl, q3⟩⟩
    | next => exact False.elim hq'
    | brk => exact False.elim hq'
    | cont => exact False.elim hq'
/-- T.__init__(e, ..) -/
def tBI (C : Addr) (t : TA) : TE := fun σ H Q => t σ H fun vs H1 => ∃ e dx ar rest, vs = .ref e :: rest ∧ rest.length ≤ sizeLine ∧ H1 e = some (ExO C e dx ar) ∧ ∀ t, H1 t = none → t ≠ e → Q .non (upd (upd H1 t (.tup rest)) e (ExO C e dx (some t)))
theorem pe_baseInit {pl : Sem Bool} {x : Str} {p apos pos : Pos} {e : Expr} {es : List Expr} {t : TA} (M : ExF X.K C T fI) (B : BaseInit X.K T) (hg : Gl X x) (hm : X.mg x = some (.ref T)) (ha : PA X (e :: es) t)
    (hdb : (x == ("__debug__" : Str)) = false := by decide) (he : starEach (e :: es) X.env = (false, eval e X.env) :: starEach es X.env := by rfl) (hpl : (backTo pos (starEach es X.env)).any (·.1) = false := by rfl)
    (ht : eval (.Call (.Attribute (.Name x p) "__init__" apos) (e :: es) [] pos) X.env = (do
      let ov ← eval (.Name x p) X.env
      standAt apos.atName
      let (f, first) ← holding [ov] (getMethod ov "__init__" pl)
      callWith pos f first (backTo pos (starEach (e :: es) X.env)) (backToKw pos (keywordEach [] X.env))) := by rfl) :
    PE X (.Call (.Attribute (.Name x p) "__init__" apos) (e :: es) [] pos) (tBI C t) := by
  intro pins s σ H Q I h
  refine PySem.W.methodCall_KW (pl := pl) (ld_glob I hg hm ?_ hdb) ht
  refine PySem.W.method_cls I.kIn B.ga (PySem.W.cls_value I.kIn B.rd B.at_ (by decide +kernel) ?_)
  refine PyProof.Rows.callWith_builtin1 (thn (ha pos pins { s with toks := s.toks + 1 } σ H _ (I.tok _) h) fun us s1 ⟨vs, H1, I1, r, q⟩ => ?_) he hpl
  obtain ⟨e', dx, ar, rest, rfl, hz, hE, q⟩ := q
  cases r with
  | cons r1 r2 =>
    cases r1
    exact init_text M I1 hE r2 (by rw [← r2.length]; exact hz) fun t s' f1 f2 I' => ⟨.non, _, I', rfl, q t f1 f2⟩
/-- e.f = v, the error's first field -/
def sExF (K : PySem.W.Frag) (C : Addr) (ta tv : TE) (f : Str) : TS := fun D σ H => tv σ H fun y H1 => ta σ H1 fun x H2 => ∃ e ar, x = .ref e ∧ H2 e = some (ExO C e none ar) ∧ NoAttr K C f ∧
  ∀ dx, H2 dx = none → dx ≠ e → D.nx σ (upd (upd H2 dx (XdO dx [(f, y)])) e (ExO C e (some dx) ar))
theorem ps_exf {o value : Expr} {f : Str} {pos pos' : Pos} {ta tv : TE} (M : ExF X.K C T fI) (ha : PE X o ta) (hv : PE X value tv) (hs : swapsWith value (some (.Attribute o f pos')) pos.line X.env = pure false) : PS X (.Assign [.Attribute o f pos'] value pos) (sExF X.K C ta tv f) := by
  intro pins s σ H D I h
  refine plainObj_wpAny_Assign_Attribute (thn (hv pins s σ H _ I h) fun u s1 ⟨y, H1, I1, ry, q⟩ => thn (ha pins s1 σ H1 _ I1 q) fun ov s2 ⟨x, H2, I2, rx, e, ar, ex, ea, n, q2⟩ => ?_) hs
  subst ex
  obtain rfl : ov = Value.ref e := rx
  exact exset_ok M I2 ea n ry fun dx s3 h1 h2 I3 => ⟨σ, _, I3, q2 dx h1 h2⟩
/-- e.f = v, another field -/
def sExF2 (K : PySem.W.Frag) (C : Addr) (ta tv : TE) (f : Str) : TS := fun D σ H => tv σ H fun y H1 => ta σ H1 fun x H2 => ∃ e dx ar fs, x = .ref e ∧ H2 e = some (ExO C e (some dx) ar) ∧ H2 dx = some (XdO dx fs) ∧ fs.length < 1000 ∧ NoAttr K C f ∧
  D.nx σ (upd H2 dx (XdO dx (putF f y fs)))
theorem ps_exf2 {o value : Expr} {f : Str} {pos pos' : Pos} {ta tv : TE} (M : ExF X.K C T fI) (ha : PE X o ta) (hv : PE X value tv) (hs : swapsWith value (some (.Attribute o f pos')) pos.line X.env = pure false) : PS X (.Assign [.Attribute o f pos'] value pos) (sExF2 X.K C ta tv f) := by
  intro pins s σ H D I h
  refine plainObj_wpAny_Assign_Attribute (thn (hv pins s σ H _ I h) fun u s1 ⟨y, H1, I1, ry, q⟩ => thn (ha pins s1 σ H1 _ I1 q) fun ov s2 ⟨x, H2, I2, rx, e, dx, ar, fs, ex, ea, ed, hz, n, q2⟩ => ?_) hs
  subst ex
  obtain rfl : ov = Value.ref e := rx
  exact exset2_ok M I2 ea ed hz n ry fun s3 I3 => ⟨σ, _, I3, q2⟩
/-- e.f told, e an error -/
def tExFld (K : PySem.W.Frag) (ta : TE) (f : Str) : TE := fun σ H Q => ta σ H fun x H1 => ∃ e C dx ar fs y, x = .ref e ∧ H1 e = some (ExO C e (some dx) ar) ∧ H1 dx = some (XdO dx fs) ∧ ExG K C ∧ NoAttr K C f ∧ fs.lookup f = some y ∧ Q y H1
theorem pe_exfld {e : Expr} {f : Str} {pos : Pos} {ta : TE} (he : PE X e ta) (hb : attributeBase e f X.env (eval e X.env) = eval e X.env) : PE X (.Attribute e f pos) (tExFld X.K ta f) := by
  intro pins s σ H Q I h
  refine attr_of hb (thn (he pins s σ H _ I h) fun u s1 ⟨x, H1, I1, rx, a, C, dx, ar, fs, y, ex, ea, ed, g, n, l, q⟩ => ?_)
  subst ex
  obtain rfl : u = Value.ref a := rx
  exact exget_ok g.hd I1 ea ed n l (fun J hf hh hq => exga_value g I1.kIn J hf hh hq) fun u' s2 I2 ru => ⟨y, H1, I2, ru, q⟩
end
end L2

set_option Elab.async false
set_option linter.all false
set_option maxRecDepth 100000
namespace L2
open PySem PySem.Spec PyProof.Rows
/-- how an error of the class at C is shown: by BaseException's own, with the class's name -/
structure ExS (K : PySem.W.Frag) (C : Addr) (nm : String) : Prop where
  rp : PySem.W.findIn K (.ref C) "__repr__" = some (some (.builtin "BaseException.__repr__"))
  be : PySem.W.mroIn K C (.type "BaseException") = some true
  nm : ∃ cd, PySem.W.clsIn K C = some cd ∧ cd.name.toString = nm
section
variable {prog : Program} {w : World} {A : Around} {E : Value → Shared → Prop} {s : Shared} {K : PySem.W.Frag} {e C t : Addr} {o : Obj} {od : Option Obj} {vs : Array Value} {m : Str} {tk : Tok} {nm : String}
theorem exs_at {b : Nat} {Q : PySem.Fin → Shared → Prop} (x : ExS K C nm) (X : K.In s.heap) (I : PySem.W.InstAt s.heap e o C od) (hd : o.data = .fields vs) (h0 : vs[0]? = some (.ref t)) (ht : s.heap.TupAt t [.str m tk])
    (hsz : b + (excReprHead nm ++ "(" ++ reprText m ++ ")").length ≤ sizeLine)
    (hq : Q (.done (.ret (.str (excReprHead nm ++ "(" ++ reprText m ++ ")") (s.toks + 1)))) { s with toks := s.toks + 1 + 1 }) : wpAny (model prog w) A (Builtin.bexcReprAt b ⟨[.ref e], []⟩) Q E s := by
  obtain ⟨cd, hc, hn⟩ := x.nm
  obtain ⟨ot, kt, t1, t2, t3⟩ := ht
  have full : b + (Str.ofString ((nm.cutAt '.').getLastD "") ++ Str.ofString "(" ++ reprText m ++ Str.ofString ")").length ≤ sizeLine := hsz
  have full2 : (Str.ofString ((nm.cutAt '.').getLastD "") ++ Str.ofString "(" ++ reprText m ++ Str.ofString ")").length ≤ sizeLine := by omega
  have one : (Str.ofString "(").length = 1 := by rw [PySem.ofString_length]; rfl
  rw [strLen_append, strLen_append, strLen_append, one] at full
  have part : (reprText m).length ≤ sizeLine := by omega
  have head : b + ((Str.ofString ((nm.cutAt '.').getLastD "")).length + 1) ≤ sizeLine := by omega
  have name : ∀ {A : Around} {E : Value → Shared → Prop} {R : String → Shared → Prop}, R nm s → wpAny (model prog w) A (typeNameOfWhole (.ref e)) R E s := fun {A E R} r => by
    delta typeNameOfWhole shownTypeOf
    refine wpAny_bind (wpAny_bind (I.type.here ?_))
    rw [if_neg (by intro z; cases z)]
    refine wpAny_pure ?_
    show wpAny _ _ (do return (← classData C).name.toString) _ _ _
    refine wpAny_bind ((PySem.W.looks_clsIn X hc).here (wpAny_pure ?_))
    rw [hn]
    exact r
  have args : ∀ {A : Around} {E : Value → Shared → Prop} {R : Value × List Value → Shared → Prop}, R (.ref t, [.str m tk]) s → wpAny (model prog w) A (Builtin.BaseException.bexcArgs (.ref e)) R E s := fun {A E R} r => by
    unfold Builtin.BaseException.bexcArgs
    exact wpAny_bind (wpAny_field I.1 hd h0 (wpAny_bind (wpAny_seqItems t1 t3 (wpAny_pure r))))
  delta Builtin.bexcReprAt
  repeat (first
    | with_reducible refine name ?_
    | with_reducible refine args ?_
    | rw [pyReprUnder_leaf (v := .str m tk) head (by intro a z; cases z)]
    | with_reducible refine wpAny_pyRepr_str ?_
    | wp_step)
  exact hq
theorem exs_under {b : Nat} {Q : Str → Shared → Prop} (x : ExS K C nm) (X : K.In s.heap) (I : PySem.W.InstAt s.heap e o C od) (hd : o.data = .fields vs) (h0 : vs[0]? = some (.ref t)) (ht : s.heap.TupAt t [.str m tk]) (hu : A.units < cLine)
    (hsz : b + (excReprHead nm ++ "(" ++ reprText m ++ ")").length ≤ sizeLine)
    (hq : ∀ tk, Q (excReprHead nm ++ "(" ++ reprText m ++ ")") { s with toks := tk }) : wpAny (model prog w) A (pyReprUnder b (.ref e)) Q E s := by
  have L : PySem.W.Looks (model prog w) s.heap (specialOf (.ref e) (Str.ofString "__repr__")) (some (.builtin "BaseException.__repr__")) := I.type.andThen (PySem.W.looks_findIn X x.rp)
  have SL : bindSpecial (.builtin "BaseException.__repr__") (.ref e) = pure (.builtin "BaseException.__repr__", [.ref e]) := rfl
  refine wpAny_pyReprUnder_ref (by omega) ?_
  delta pyReprObjUnder pyReprObjBy
  refine wpAny_bind (wpAny_cRoomFor hu (wpAny_bind (L.here ?_)))
  rw [if_neg (by simp)]
  unfold callSpecialIfBoundBy? bindSpecialIfBound?
  have fin : wpAny (model prog w) A (call (.builtin "BaseException.__repr__.under") [.ref e, rawInt b]) (fun v s' => ∃ u tk, v = .str (excReprHead nm ++ "(" ++ reprText m ++ ")") u ∧ s' = { s with toks := tk }) E s := by
    refine wpAny_call (codeAny_call_builtin PySem.F.plain_bexc_repr_under PySem.F.entry_bexc_repr_under ?_)
    rw [PySem.F.check_bexc_repr_under]
    refine wpAny_pure ?_
    show wpAny _ _ (reprTwin "BaseException.__repr__" Builtin.bexcReprAt ⟨[.ref e, rawInt b], []⟩) _ _ _
    rw [reprTwin_eq]
    refine wpAny_bind (@PySem.W.check_slot (model prog w) _ _ s "BaseException.__repr__" "BaseException" "__repr__" (.ref e) [] [] _ (by decide +kernel) (by decide +kernel) (I.type.andThen (PySem.W.looks_mroIn X x.be)) (PySem.F.args_bexc_repr (.ref e)) ?_)
    exact exs_at x X I hd h0 ht hsz ⟨_, _, rfl, rfl⟩
  refine wpAny_bind (wpAny_holding (wpAny_bind (wpAny_bind (L.here ?_))))
  have go : wpAny (model prog w) A (call (.builtin "BaseException.__repr__.under") [.ref e, rawInt b] >>= fun v => pure (some v)) (fun r s' => ∃ u tk, r = some (.str (excReprHead nm ++ "(" ++ reprText m ++ ")") u) ∧ s' = { s with toks := tk }) E s :=
    wpAny_bind (wpAny_mono fin (fun v s' ⟨u, tk, h1, h2⟩ => wpAny_pure ⟨u, tk, by rw [h1], h2⟩) fun _ _ z => z)
  dsimp only
  rw [SL]
  have out : wpAny (model prog w) A (call (.builtin "BaseException.__repr__.under") [.ref e, rawInt b] >>= fun v => pure (some v)) (fun a s' => wpAny (model prog w) A (match a with
      | some r => do
        let __do_lift ← isInstance r (.type "str")
        if __do_lift = true then pure r else do
          let __do_lift ← typeNameOf r
          raiseErrorMade "TypeError" (toString "__repr__ returned non-string (type " ++ toString __do_lift ++ toString ")")
      | none => unsupported "repr:special-get-raises") (fun v s' => ∃ x u, v = .str x u ∧ Q x s') E s') E s := by
    refine wpAny_mono go (fun r s' ⟨u, tk, h1, h2⟩ => ?_) fun _ _ z => z
    subst h1 h2
    exact wpAny_bind (wpAny_isInstance (T := "str") (b := true) rfl isSubtype_str_str (wpAny_pure ⟨_, _, rfl, hq tk⟩))
  refine wpAny_bind ?_
  refine wpAny_askSetting (wpAny_ite ?_)
  split
  · exact wpAny_bind (wpAny_pure (wpAny_pure out))
  · exact wpAny_tryCatch (wpAny_bind (wpAny_pure (wpAny_pure out)))
/-! how things are shown: whatever is done behind, but for the box at p -/
def KBp (p : Addr) (H H' : Hp) : Prop := ∀ b o, H b = some o → b ≠ p → H' b = some o
def Shw (P : Program) (w : World) (K : PySem.W.Frag) (p : Addr) (H : Hp) (as : List Addr) (d : Nat) (v : V) (t : Str) : Prop :=
  ∀ (X : Cx) (pins : List (Addr × Obj)) (σ : St) (H' : Hp) (s : Shared) (u : Value), X.prog = P → X.w = w → X.K = K → Inv X pins σ H' s → KBp p H H' → RelV v u → ReprK P w as s.heap d u t
variable {P : Program} {p : Addr} {H H' : Hp} {as as' : List Addr} {d d' : Nat} {v : V} {tx : Str}
theorem Shw.keep (h : Shw P w K p H as d v tx) (k : KBp p H H') : Shw P w K p H' as d v tx := fun X pins σ H2 s u e1 e2 e3 I k2 r => h X pins σ H2 s u e1 e2 e3 I (fun b o q n => k2 b o (k b o q n) n) r
theorem Shw.more (h : Shw P w K p H as d v tx) (hs : ∀ b ∈ as, b ∈ as') (hd : d ≤ d') : Shw P w K p H as' d' v tx := fun X pins σ H2 s u e1 e2 e3 I k r => ((h X pins σ H2 s u e1 e2 e3 I k r).more hs).level_le hd
theorem shw_non : Shw P w K p H as d .non "None" := fun X pins σ H2 s u _ _ _ I k r => by
  cases (show u = Value.none from r)
  exact .of_is .none _ _ _
theorem shw_bl {b : Bool} : Shw P w K p H as d (.bl b) (if b then "True" else "False") := fun X pins σ H2 s u _ _ _ I k r => by
  cases (show u = Value.bool b from r)
  exact .of_is (.bool b) _ _ _
theorem shw_int {i : Int} (h : i.natAbs.log2 < 1920) : Shw P w K p H as d (.int i) (toString i) := fun X pins σ H2 s u _ _ _ I k r => by
  obtain ⟨tk, rfl⟩ := (show ∃ t, u = Value.int i t from r)
  exact .of_is (.int tk h) _ _ _
theorem shw_str {z : Str} (h : (reprText z).length ≤ sizeLine) : Shw P w K p H as d (.str z) (reprText z) := fun X pins σ H2 s u _ _ _ I k r => by
  obtain ⟨tk, rfl⟩ := (show ∃ t, u = Value.str z t from r)
  exact .of_is (.str z tk h) _ _ _
inductive ShwAll (P : Program) (w : World) (K : PySem.W.Frag) (p : Addr) (H : Hp) (as : List Addr) (d : Nat) : List V → List Str → Prop
  | nil : ShwAll P w K p H as d [] []
  | cons {v : V} {t : Str} {vs : List V} {ts : List Str} : Shw P w K p H as d v t → ShwAll P w K p H as d vs ts → ShwAll P w K p H as d (v :: vs) (t :: ts)
theorem ShwAll.reprs {X : Cx} {pins : List (Addr × Obj)} {σ : St} {s : Shared} (e1 : X.prog = P) (e2 : X.w = w) (e3 : X.K = K) (I : Inv X pins σ H' s) (k : KBp p H H') : ∀ {xs : List V} {ts : List Str} {us : List Value}, ShwAll P w K p H as d xs ts → Vals xs us → ReprAllK P w as s.heap d us ts
  | _, _, _, .nil, .nil => .nil
  | _, _, _, .cons h t, .cons r q => .cons (h X pins σ H' s _ e1 e2 e3 I k r) (ShwAll.reprs e1 e2 e3 I k t q)
theorem shw_nil {a : Addr} (e : H a = some (.lst [])) (na : a ≠ p) : Shw P w K p H as d (.ref a) "[]" := fun X pins σ H2 s u e1 e2 e3 I k r => by
  cases (show u = Value.ref a from r)
  obtain ⟨_, its, n, rv, q⟩ := (show ObjOk X.prog X.w H2 s.heap a (.lst []) from I.hok a _ (k a _ e na))
  cases rv
  exact ReprK.listEmpty q rfl rfl
theorem shw_lst {a : Addr} {x : V} {xs : List V} {ts : List Str} (e : H a = some (.lst (x :: xs))) (na : a ≠ p) (hna : a ∉ as) (h : ShwAll P w K p H as d (x :: xs) ts) : Shw P w K p H (a :: as) (d + 1) (.ref a) (listText ts) := fun X pins σ H2 s u e1 e2 e3 I k r => by
  cases (show u = Value.ref a from r)
  obtain ⟨_, its, n, rv, q⟩ := (show ObjOk X.prog X.w H2 s.heap a (.lst (x :: xs)) from I.hok a _ (k a _ e na))
  have hk := h.reprs e1 e2 e3 I k rv
  cases rv with
  | cons r1 r2 => exact ReprK.list q rfl rfl hna (by simpa using hk.length_eq) fun i y z => hk.item i y (by simpa using z)
theorem shw_tup {a : Addr} {xs : List V} {ts : List Str} (e : H a = some (.tup xs)) (na : a ≠ p) (hna : a ∉ as) (h : ShwAll P w K p H as d xs ts) : Shw P w K p H (a :: as) (d + 1) (.ref a) (tupleText ts) := fun X pins σ H2 s u e1 e2 e3 I k r => by
  cases (show u = Value.ref a from r)
  obtain ⟨_, its, rv, o, h1, h2, n, h3⟩ := (show ObjOk X.prog X.w H2 s.heap a (.tup xs) from I.hok a _ (k a _ e na))
  exact ReprK.tuple h1 h2 h3 hna (by simpa using h.reprs e1 e2 e3 I k rv)
theorem shw_exc {e dx t : Addr} {m : Str} (x : ExS K C nm) (he : H e = some (ExO C e (some dx) (some t))) (hx : ∃ o, H dx = some o) (ht : H t = some (.tup [.str m])) (ne : e ≠ p) (nt : t ≠ p) (nx : dx ≠ p) :
    Shw P w K p H as d (.ref e) (excReprHead nm ++ "(" ++ reprText m ++ ")") := fun X pins σ H2 s u e1 e2 e3 I k r => by
  cases (show u = Value.ref e from r)
  subst e1 e2 e3
  obtain ⟨hz, its, rv, ot, h1, h2, n, h3⟩ := (show ObjOk X.prog X.w H2 s.heap t (.tup [.str m]) from I.hok t _ (k t _ ht nt))
  obtain ⟨o, vs, a1, a2, a3, a4, a5, a6⟩ := (show ExAt C e (some dx) (some t) s.heap from (I.hok e _ (k e _ he ne)).1)
  obtain ⟨ox, hx⟩ := hx
  obtain ⟨oD, q⟩ := (I.hok dx _ (k dx _ hx nx)).there
  cases rv with
  | cons r1 r2 =>
    obtain ⟨tk, rfl⟩ := r1
    cases r2
    intro base hb A g E s1 Q hg hcl hu hk0 hQ
    have X1 : X.K.In s1.heap := fun b ob z => hk0 _ _ (I.kIn b ob z)
    exact exs_under x X1 (o := o) (od := some oD) ⟨hk0 _ _ a1, a2, by unfold PySem.W.notCls; rw [a4], by rw [a3]; exact hk0 _ _ q⟩ a4 (a6 t rfl) ⟨ot, n, hk0 _ _ h1, h2, h3⟩ (by omega) hb fun tk => hQ s1.heap tk fun _ _ z => z
end
end L2

set_option Elab.async false
set_option linter.all false
set_option maxRecDepth 100000
namespace L2
open PySem PySem.Spec PyProof.Rows
section
variable {w : World} {K : PySem.W.Frag} {P : Program} {p : Addr} {H H' : Hp} {as as' : List Addr} {d d' : Nat} {v : V} {tx : Str}
theorem shw_dict1 {a : Addr} {k : Str} {t : Str} (e : H a = some (.dK [(Sum.inr k, v)])) (na : a ≠ p) (hna : a ∉ as) (hk : (reprText k).length ≤ sizeLine) (h : Shw P w K p H as d v t) : Shw P w K p H (a :: as) (d + 1) (.ref a) (dictText [reprText k ++ ": " ++ t]) := fun X pins σ H2 s u e1 e2 e3 I kb r => by
  cases (show u = Value.ref a from r)
  obtain ⟨_, hs, vs, kv, o, es, ep, h1, h2, h3, h4, h5, h6⟩ := (show ObjOk X.prog X.w H2 s.heap a (.dK [(Sum.inr k, v)]) from I.hok a _ (kb a _ e na))
  cases kv with
  | cons q1 q2 =>
    cases q2
    rename_i y
    obtain ⟨y1, y2⟩ := y
    obtain ⟨z1, z2⟩ := q1
    have z1' : (Sum.inr k : Key) = y1 := z1
    subst z1'
    generalize hl : es.toList = l at h5
    cases h5 with
    | @cons e0 _ _ _ w1 w2 w3 =>
      cases w3
      rcases keyIs_shape (show keyIs (Sum.inr k) e0.key = true from w1) with ⟨_, _, z, _⟩ | ⟨_, tk, z, w4⟩
      · cases z
      · cases z
        have hv : ReprK P w as s.heap d e0.val t := by
          rw [w2]
          exact h X pins σ H2 s _ e1 e2 e3 I kb z2
        have hkk : ReprK P w as s.heap d e0.key (reprText k) := by
          rw [w4]
          exact .of_is (.str k tk hk) _ _ _
        exact ReprK.dict h1 h2.1 h3 hs hna (by rw [hl]; exact .cons hkk hv .nil)
theorem call_reprL {X : Cx} (hg : X.A.guards = some []) (hu : X.A.units + 64 < cLine) : CallR X (.builtin "repr") (fun xs H Q => ∃ (p l : Addr) (x : V) (ys : List V) (as : List Addr) (d : Nat) (ts : List Str), xs = [.ref l] ∧ H l = some (.lst (x :: ys)) ∧ l ∉ as ∧ d ≤ 20 ∧
    ShwAll X.prog X.w X.K p H as d (x :: ys) ts ∧ (listText ts).length ≤ sizeLine ∧ Q (.str (listText ts)) H) := by
  intro pins s σ H xs us Q I r h
  obtain ⟨p, l, x, ys, as, d, ts, rfl, hl, hna, hd, hs, hz, q⟩ := h
  obtain ⟨u, rfl, rx⟩ := vals1 r
  cases rx
  obtain ⟨_, its, n, rv, g⟩ := (show ObjOk X.prog X.w H s.heap l (.lst (x :: ys)) from I.hok l _ hl)
  have hk := hs.reprs rfl rfl rfl I (fun _ _ e _ => e) rv
  cases rv with
  | cons r1 r2 =>
    refine call_repr_slot (by omega) ⟨_, g, rfl⟩ PySem.F.slot_list_repr.toG (call_list_reprK (g := []) g rfl rfl hna (by simpa using hk.length_eq) (fun i y z => hk.item i y (by simpa using z)) hg (fun b _ => Clear.nil b) (by show X.A.units + 1 + (d + 1) < cLine; omega) (fun _ _ e => e) (fun h' u tk hkk => ⟨_, _, rfl, ?_⟩) hz)
    exact ⟨.str (listText ts), H, I.kept hkk, ⟨_, rfl⟩, q⟩
end
end L2

set_option Elab.async false
set_option linter.all false
set_option maxRecDepth 100000
namespace L2
open PySem PySem.Spec PyProof.Rows
/-- an own class T of errors straight under ValueError, without an __init__ of its own -/
structure ExT (K : PySem.W.Frag) (T : Addr) : Prop where
  cls : ∃ (nm q : Str) (N : Addr) (bs : List Value) (hdct : Bool) (sn : List Str) (sub : List Value) (ab : Bool) (col : Option Bool) (dd : Option Addr) (k0 k1 k2 k3 k5 : Option Value),
    K.lookup T = some (excClassObj nm q T N bs bmV hdct sn sub ab col dd k0 k1 k2 k3 k5 "ValueError.__new__")
  init : PySem.W.findIn K (.ref T) "__init__" = some (some (.builtin "ValueError.__init__"))
  kp : PySem.W.keepIn K (.ref T) = true
section
variable {prog : Program} {w : World} {A : Around} {E : Value → Shared → Prop} {K : PySem.W.Frag} {T : Addr} {h : Heap} {g : Array GenState} {d : Drawn} {t : Nat} {os : OsState}
theorem exT_tc (x : ExT K T) (X : K.In h) {us : List Value} {Q : Fin → Shared → Prop}
    (hq : ∀ h' e, Heap.MadeExcOf h h' e (.ref T) us → h.objs.size ≤ e → wpAny (model prog w) A (call (.builtin "ValueError.__init__") (.ref e :: us)) (fun r s' => r = .none ∧ Q (.done (.ret (.ref e))) s') E ⟨h', g, d, t, os⟩) (hz : us.length ≤ sizeLine) :
    wpAny (model prog w) A (Builtin.«type.__call__» ⟨.ref T :: us, []⟩) Q E ⟨h, g, d, t, os⟩ := by
  have F := PySem.F.excBase_ValueError
  have OT : OwnTail h bmV bmV := .base
  obtain ⟨nm, q, N, bs, hdct, sn, sub, ab, col, dd, k0, k1, k2, k3, k5, lk⟩ := x.cls
  have hC := X _ _ lk
  repeat (first
    | with_reducible refine wpAny_loadPart_at hC ?_
    | with_reducible refine wpAny_madeBy_exc hC ?_
    | wp_step)
  refine codeAny_call_builtin_code (Code.quiet_builtin _ F.quiet) (wpAny_check_new_subU F F.hasB OT hC ?_)
  refine codeAny_exc_new_subU F F.hasB F OT hC ?_ hz
  show wpAny _ _ _ _ _ _
  generalize hg1 : h.push { cls := .type "tuple", data := .seq us.toArray } = h1
  have z1 : h1.objs.size = h.objs.size + 1 := by rw [← hg1]; exact Heap.size_push _ _
  have k1' : ∀ b o, h.get? b = some o → h1.get? b = some o := fun b o e => by rw [← hg1]; exact Heap.get?_push_of_some _ e
  generalize hg2 : h1.push { cls := .ref T, data := .fields #[.ref h.objs.size, .none, .none, .none, .bool false, .none] } = h2
  have k2' : ∀ b o, h1.get? b = some o → h2.get? b = some o := fun b o e => by rw [← hg2]; exact Heap.get?_push_of_some _ e
  have X2 : K.In h2 := X.keeps fun b o e => k2' b o (k1' b o e)
  have hC2 := X2 _ _ lk
  have he : h2.get? (h.objs.size + 1) = some { cls := .ref T, data := .fields #[.ref h.objs.size, .none, .none, .none, .bool false, .none] } := by
    rw [← hg2, ← z1]; exact Heap.get?_push_size _ rfl
  have ht : h2.get? h.objs.size = some { cls := .type "tuple", data := .seq us.toArray } := k2' _ _ (by rw [← hg1]; exact Heap.get?_push_size _ rfl)
  have hcC : (Value.ref T :: bmV).contains (.ref T) = true := by simp
  have SL : bindSpecial (.builtin "ValueError.__init__") (.ref (h.objs.size + 1)) = pure (.builtin "ValueError.__init__", [.ref (h.objs.size + 1)]) := rfl
  unfold isInstance
  repeat (first | with_reducible refine wpAny_loadPart_at he ?_ | (with_reducible refine wpAny_isSubtype_exc hC2 ?_; rw [hcC]) | wp_step)
  refine (PySem.W.looks_findIn X2 x.init).at (wpAny_holding ?_)
  refine wpAny_bind ?_
  rw [SL]
  refine wpAny_pure (wpAny_bind (wpAny_mono (hq h2 (h.objs.size + 1) ⟨fun b o e => k2' b o (k1' b o e), Heap.get?_none_of_le (Nat.le_succ _), h.objs.size, he, Heap.get?_none_of_le (Nat.le_refl _), ht⟩ (Nat.le_succ _)) (fun r s' hr => ?_) fun _ _ z => z))
  obtain ⟨rfl, hQ⟩ := hr
  wp_walk
  exact hQ
theorem exT_call (x : ExT K T) (X : K.In h) {us : List Value} {Q : Value → Shared → Prop}
    (hq : ∀ h' e, Heap.MadeExcOf h h' e (.ref T) us → h.objs.size ≤ e → wpAny (model prog w) (A.under (.builtin "type.__call__" ⟨.ref T :: us, []⟩)) (call (.builtin "ValueError.__init__") (.ref e :: us)) (fun r s' => r = .none ∧ Q (.ref e) s') E ⟨h', g, d, t, os⟩) (hz : us.length ≤ sizeLine) :
    wpAny (model prog w) A (call (.ref T) us) Q E ⟨h, g, d, t, os⟩ := by
  obtain ⟨nm, q, N, bs, hdct, sn, sub, ab, col, dd, k0, k1, k2, k3, k5, lk⟩ := x.cls
  have hC := X _ _ lk
  have f1 := tc_lookup
  have f2 := tc_bind (.ref T)
  have ty : Shared.TypeIs ⟨h, g, d, t, os⟩ (.ref T) "type" := ⟨_, hC, rfl⟩
  refine wpAny_call ?_
  refine codeAny_of_tree ?_
  show wpAny (model prog w) _ (callAny (.ref T) _) _ _ _
  repeat (any_goals (first
    | assumption
    | with_reducible refine wpAny_loadPart_at hC ?_
    | wp_step))
  refine ⟨rfl, ?_⟩
  exact codeAny_call_builtin_at (Code.quiet_builtin _ (by decide +kernel)) entry_typeCall (wpAny_check_type_call_sub hC (exT_tc x X hq hz))
end
section
variable {X : Cx} {pins : List (Addr × Obj)} {σ : St} {H : Hp} {s : Shared} {T e : Addr} {A : Around} {E : Value → Shared → Prop}
theorem initT_text {dx ar : Option Addr} {us : List Value} {rest : List V} {Q : Value → Shared → Prop} (x : ExT X.K T) (I : Inv X pins σ H s) (he : H e = some (ExO T e dx ar)) (rv : Vals rest us) (hz : us.length ≤ sizeLine)
    (hq : ∀ t s', H t = none → t ≠ e → Inv X pins σ (upd (upd H t (.tup rest)) e (ExO T e dx (some t))) s' → Q .none s') : wpAny (model X.prog X.w) A (call (.builtin "ValueError.__init__") (.ref e :: us)) Q E s := by
  have F := PySem.F.excBase_ValueError
  have OT : OwnTail s.heap bmV bmV := .base
  obtain ⟨nm, q, N, bs, hdct, sn, sub, ab, col, dd, k0, k1, k2, k3, k5, lk⟩ := x.cls
  have hC := I.kIn _ _ lk
  obtain ⟨o, vs, e1, e2, e3, e4, e5, e6⟩ := ex_get I he
  rcases s with ⟨hp, g, d, tk, os⟩
  refine wpAny_call (codeAny_call_builtin F.init.plain F.initEntry (wpAny_check_init_subU F OT hC e1 e2 ?_))
  show wpAny _ _ (Builtin.«BaseException.__init__» ⟨.ref e :: us, []⟩) _ _ _
  delta Builtin.«BaseException.__init__»
  dsimp only
  rw [if_neg (by simp)]
  unfold Builtin.BaseException.bexcPut newTuple
  have h0 : vs[0]? = some vs[0] := by simp [e5]
  have e1' := Heap.get?_push_of_some (h := hp) { cls := .type "tuple", data := .seq us.toArray } e1
  refine wpAny_bind (wpAny_newObj_type (wpAny_bind (wpAny_bind (wpAny_field e1' e4 h0 (wpAny_bind (wpAny_setField e1' e4 e5 ?_))))) hz)
  have nt : hp.objs.size ≠ e := Nat.ne_of_gt (Heap.lt_size e1)
  have ft : H hp.objs.size = none := I.hok.fresh (Nat.le_refl _)
  have key : Inv X pins σ (upd (upd H hp.objs.size (.tup rest)) e (ExO T e dx (some hp.objs.size))) ⟨(hp.push { cls := .type "tuple", data := .seq us.toArray }).update e (Obj.mapFields (·.setIfInBounds 0 (.ref hp.objs.size))), g, d, tk, os⟩ := by
    have I1 := I.laid (a := hp.objs.size) (o := .tup rest) (h' := hp.push { cls := .type "tuple", data := .seq us.toArray }) (t' := tk) (fun b o q => Heap.get?_push_of_some _ q) (Nat.le_refl _) ⟨by rw [rv.length]; exact hz, _, rv, IsTup.new _ _⟩
    have e7 : ((hp.push { cls := .type "tuple", data := .seq us.toArray }).update e (Obj.mapFields (·.setIfInBounds 0 (.ref hp.objs.size)))).get? e = some (Obj.mapFields (·.setIfInBounds 0 (.ref hp.objs.size)) o) :=
      Heap.get?_update_self _ e1' (Obj.isFreed_of_fields (Obj.data_mapFields e4 _))
    refine I1.write (x := e) (e := e) (t' := tk) (by rw [upd_ne (Ne.symm nt), he]; trivial) (.inl rfl) (fun b u hb q => (Heap.get?_update_other _ _ (Ne.symm hb)).trans q) ⟨_, e7⟩ (exO_ok ⟨_, _, e7, (Obj.cls_mapFields ..).trans e2, ?_, Obj.data_mapFields e4 _, by simpa using e5, fun t ht => ?_⟩)
    · have : (Obj.mapFields (·.setIfInBounds 0 (.ref hp.objs.size)) o).dict = o.dict := by
        rcases o with ⟨oc, od, odt, osl⟩
        cases (show odt = _ from e4)
        rfl
      rw [this, e3]
    · cases ht
      simp [e5]
  have fin : wpAny (model X.prog X.w) A.in1 (ret Value.none) (fun fin s' => match fin with
      | Fin.done f => match (Except.ok f : Result) with
        | Except.ok (Flow.ret v) => Q v s'
        | Except.ok a => False
        | Except.error e => E e s'
      | Fin.again c' => c'.quiet = true ∧ codeAny (model X.prog X.w) A c' (fun r s' => match r with
        | Except.ok (Flow.ret v) => Q v s'
        | Except.ok a => False
        | Except.error e => E e s') s') (fun e s' => E e s') _ := wpAny_pure (hq _ _ ft nt key)
  cases vs[0] <;> first
    | exact wpAny_letGo fin
    | exact wpAny_pure fin
/-- T(..), T without an __init__ of its own -/
def tExT (T : Addr) (t : TA) : TE := fun σ H Q => t σ H fun vs H1 => vs.length ≤ sizeLine ∧ ∀ e a, H1 e = none → H1 a = none → a ≠ e → Q (.ref e) (upd (upd (upd H1 e (ExO T e none none)) a (.tup vs)) e (ExO T e none (some a)))
theorem pe_excT {x : Str} {p pos : Pos} {e : Expr} {es : List Expr} {t : TA} (M : ExT X.K T) (hg : Gl X x) (hm : X.mg x = some (.ref T)) (ha : PA X (e :: es) t)
    (hdb : (x == ("__debug__" : Str)) = false := by decide) (he : starEach (e :: es) X.env = (false, eval e X.env) :: starEach es X.env := by rfl) (hpl : (backTo pos (starEach es X.env)).any (·.1) = false := by rfl) :
    PE X (.Call (.Name x p) (e :: es) [] pos) (tExT T t) := by
  intro pins s σ H Q I h
  refine wpAny_Call_Name_kw (ld_glob I hg hm ?_ hdb)
  refine PySem.W.callWith_K (h₀ := X.base) I.ok.mod.kin M.kp (thn (ha pos pins s σ H _ I h) fun us s1 ⟨vs, H1, I1, r, hz, q⟩ => ⟨I1.kIn, ?_⟩) he hpl
  obtain ⟨hp, g, d, tk, os⟩ := s1
  refine exT_call M I1.kIn (fun h' e hm hle => ?_) (by rw [List.nil_append, ← r.length]; exact hz)
  obtain ⟨hk, hn, tt, h1, _, h2⟩ := hm
  have I2 : Inv X pins σ (upd H1 e (ExO T e none none)) ⟨h', g, d, tk, os⟩ := I1.laid (a := e) (o := ExO T e none none) (h' := h') (t' := tk) hk hle (exO_ok ⟨_, _, h1, rfl, rfl, rfl, by show 0 < 6; decide, fun t z => nomatch z⟩)
  have hf : H1 e = none := I1.hok.fresh hle
  rw [List.nil_append]
  refine initT_text M I2 upd_same r (by rw [← r.length]; exact hz) fun a s' f1 f2 I3 => ⟨rfl, .ref e, _, I3, rfl, q e a hf ?_ f2⟩
  rwa [upd_ne f2] at f1
end
end L2

set_option Elab.async false
set_option linter.all false
set_option maxRecDepth 100000
namespace L2
open PySem PySem.Spec PyProof.Rows
theorem bt_len : bootBuiltins "len" = some (.builtin "len") := by decide +kernel
theorem bt_max : bootBuiltins "max" = some (.builtin "max") := by decide +kernel
theorem bt_min : bootBuiltins "min" = some (.builtin "min") := by decide +kernel
theorem bt_isinstance : bootBuiltins "isinstance" = some (.builtin "isinstance") := by decide +kernel
theorem bt_list : bootBuiltins "list" = some (.type "list") := by decide +kernel
theorem bt_tuple : bootBuiltins "tuple" = some (.type "tuple") := by decide +kernel
theorem bt_int : bootBuiltins "int" = some (.type "int") := by decide +kernel
theorem bt_bool : bootBuiltins "bool" = some (.type "bool") := by decide +kernel
theorem bt_enumerate : bootBuiltins "enumerate" = some (.type "enumerate") := by decide +kernel
/-- a def of the text: its object, how it binds, its name -/
structure Dn (K : PySem.W.Frag) (mg : Str → Option Value) (x qual : Str) (st : Stmt) (ps : List Str) (f : Addr) (fd : FuncData) : Prop where
  fn : Fun K x qual st f fd
  b : Binds K fd ps []
  m : mg x = some (.ref f)
theorem dn_mk {K : PySem.W.Frag} {h : Heap} {mg : Str → Option Value} (X : K.In h) (G : h.Ns mainGlobals mg) {x : Str} {st : Stmt} {ps : List Str} {f : Addr} {oc : Value} {od an : Option Addr} {osl : Array (Option Value)} {kV doc pm cdv ct : Value}
    (a : PySem.W.nsIn K mainGlobals x = some (some (.ref f))) (l : K.lookup f = some ⟨oc, od, .func (PySem.W.fnOf x x (defArgs st) (defBody st) (defScope st) .none kV doc pm an cdv ct), osl⟩)
    (c : PySem.W.codeIn K cdv x = true) (k : PySem.W.keepIn K (.ref f) = true)
    (b : ∀ (kV doc pm : Value) (an : Option Addr) (cdv ct : Value) (us : List Value), us.length = ps.length → bindArgs (PySem.W.fnOf x x (defArgs st) (defBody st) (defScope st) .none kV doc pm an cdv ct) ⟨us, []⟩ = pure (ps.zip us)) :
    ∃ f fd, Dn K mg x x st ps f fd := ⟨f, _, fun_mk (st := st) l c k, (fun_mk (st := st) l c k).binds b, PySem.W.mg_of X G a⟩
def isStar : Expr → Bool
  | .Starred _ _ => true
  | _ => false
theorem star_cons {e : Expr} {es : List Expr} {env : Env} (h : isStar e = false) : starEach (e :: es) env = (false, eval e env) :: starEach es env := by
  cases e with
  | Starred a b => exact Bool.noConfusion h
  | _ => kernel_rfl
theorem pa_c {X : Cx} {e : Expr} {es : List Expr} {te : TE} {t : TA} (ha : PE X e te) (hr : PA X es t) (h : isStar e = false := by rfl) : PA X (e :: es) (tCons te t) := pa_cons ha hr (star_cons h)
section
variable {X : Cx} {es : List Expr} {t : TA} {j : Nat} {p : Pos}
/-! long displays: rules without a look at the tail -/
theorem pa_ofE {e : Expr} {te : TE} (ha : PE X e te) (hs : isStar e = false) (h : PA X es t) : PA X (e :: es) (tCons te t) := pa_c ha h hs
theorem pa_non (h : PA X es t) : PA X (.Constant .none j p :: es) (tCons (tC .non) t) := pa_ofE pe_non rfl h
theorem pa_bl {b : Bool} (h : PA X es t) : PA X (.Constant (.bool b) j p :: es) (tCons (tC (.bl b)) t) := pa_ofE pe_bl rfl h
theorem pa_str {x : Str} (h : PA X es t) : PA X (.Constant (.str x) j p :: es) (tCons (tC (.str x)) t) := pa_ofE pe_str rfl h
theorem pa_int {i : Int} (h : PA X es t) : PA X (.Constant (.int i) j p :: es) (tCons (tC (.int i)) t) := pa_ofE pe_int rfl h
theorem pa_lst {es' : List Expr} {t' : TA} (h' : PA X es' t') (h : PA X es t) : PA X (.List es' p :: es) (tCons (tLst t') t) := pa_ofE (pe_lst h') rfl h
theorem pa_tup {es' : List Expr} {t' : TA} {k : Nat} (h' : PA X es' t') (h : PA X es t) : PA X (.Tuple es' k p :: es) (tCons (tTup t') t) := pa_ofE (pe_tup h') rfl h
theorem pa_dnew (h : PA X es t) : PA X (.Dict [] [] p :: es) (tCons tDNewK t) := pa_ofE pe_dnewK rfl h
theorem pa_call {e : Expr} {a : List Expr} {kw : List Keyword} {te : TE} (ha : PE X (.Call e a kw p) te) (h : PA X es t) : PA X (.Call e a kw p :: es) (tCons te t) := pa_ofE ha rfl h
theorem pa_disp1 {k v : Expr} {tk tv : TE} (hk : PE X k tk) (hv : PE X v tv) (h : PA X es t) : PA X (.Dict [some k] [v] p :: es) (tCons (tDisp [(tk, tv)]) t) :=
  pa_ofE (pe_disp (pps_cons hk hv pps_nil) rfl rfl (List.cons_ne_nil _ _) (Nat.le_of_ble_eq_true rfl)) rfl h
end
/-! a block's scope, by a look -/
def blkOk (fs : Scope) (scope : Scope) (N : List Str) (x : Str) (Nf : List Str) (js : List Nat) : Bool :=
  (scope.kind == .function) && scope.names.all (fun y => y.2 != .cell) && scope.names.all (fun y => y.2 != .local || scope.names.lookup y.1 == some .local) && (scope.names.lookup x == some .local) &&
    decide (x :: Nf).Nodup && scope.names.all (fun y => y.2 != .free || fs.names.lookup y.1 == some .cell) && (Nf.length == js.length) &&
    (Nf.zip js).all (fun p => N[p.2]? == some p.1 && scope.names.lookup p.1 == some .free && fs.names.lookup p.1 == some .cell)
theorem blk_mk {X : Cx} {scope : Scope} {x : Str} (Nf : List Str) (js : List Nat) (h : blkOk X.env.scope scope X.N x Nf js = true := by kernel_rfl) : BlkScope X scope x Nf js := by
  unfold blkOk at h
  simp only [Bool.and_eq_true, beq_iff_eq, decide_eq_true_eq] at h
  obtain ⟨⟨⟨⟨⟨⟨⟨h1, h2⟩, h3⟩, h4⟩, h5⟩, h6⟩, h7⟩, h8⟩ := h
  refine ⟨h1, fun y hy => ?_, fun y hy hl => ?_, h4, h5, fun y hy hf => ?_, h7, fun i z hz => ?_⟩
  · have := List.all_eq_true.mp h2 y hy
    simpa using this
  · have := List.all_eq_true.mp h3 y hy
    rw [hl] at this
    simpa using this
  · have := List.all_eq_true.mp h6 y hy
    rw [hf] at this
    show X.env.scope.names.lookup y.1 = some .cell
    simpa using this
  · have hi : i < js.length := by rw [← h7]; exact (List.getElem?_eq_some_iff.mp hz).1
    have hm : (z, js[i]) ∈ Nf.zip js := by
      have e : (Nf.zip js)[i]? = some (z, js[i]) := by
        rw [List.getElem?_zip_eq_some]
        exact ⟨hz, by simp [hi]⟩
      exact List.mem_of_getElem? e
    have q := List.all_eq_true.mp h8 _ hm
    rw [Bool.and_eq_true, Bool.and_eq_true, beq_iff_eq, beq_iff_eq, beq_iff_eq] at q
    exact ⟨js[i], by simp [hi], q.1.1, q.1.2, q.2⟩
/-! heaps: all but p kept -/
abbrev KB (p : Addr) (H H' : Hp) : Prop := KBp p H H'
theorem KB.refl {p : Addr} {H : Hp} : KB p H H := fun _ _ h _ => h
theorem KB.trans {p : Addr} {H H1 H2 : Hp} (a : KB p H H1) (b : KB p H1 H2) : KB p H H2 := fun c o h n => b c o (a c o h n) n
theorem Same.kb {p : Addr} {H H' : Hp} (a : Same H H') : KB p H H' := fun b o h _ => a b o h
theorem Same.upd {H : Hp} {p : Addr} {o : HO} (h : H p = none) : Same H (upd H p o) := fun b u q => by rw [upd_ne (ne_of_none q h)]; exact q
theorem KB.updN {H H1 : Hp} {p q : Addr} {o : HO} (k : KB p H H1) (h : H1 q = none) : KB p H (upd H1 q o) := fun b u z n => by rw [upd_ne (ne_of_none (k b u z n) h)]; exact k b u z n
theorem KB.updP {H H1 : Hp} {p : Addr} {o : HO} (k : KB p H H1) : KB p H (upd H1 p o) := fun b u z n => by rw [upd_ne n]; exact k b u z n
end L2

set_option Elab.async false
set_option linter.all false
set_option maxRecDepth 100000
set_option maxHeartbeats 0
namespace K02
open PySem L2
def top (i : Nat) : Stmt := PySem.Challenge.pw_nolocktree_k02_refusals_made.main.body.getD i (.Pass ⟨0, 0, 0, 0⟩)
structure Txt (K : PySem.W.Frag) (mg : Str → Option Value) : Prop where
  n_len : mg "len" = none
  n_max : mg "max" = none
  n_min : mg "min" = none
  n_isinstance : mg "isinstance" = none
  n_int : mg "int" = none
  n_range : mg "range" = none
  n_repr : mg "repr" = none
  n_ValueError : mg "ValueError" = none
/-- a def of the text with its promise -/
def OkD (P : Program) (w : World) (K : PySem.W.Frag) (mg : Str → Option Value) (base : Heap) (x : Str) (st : Stmt) (ps : List Str) (k : Nat) (sp : Sp) : Prop :=
  ∃ f fd, Dn K mg x x st ps f fd ∧ FnOk P w K mg base CX0 k f fd ps sp
/-! the box of draws -/
def Box (H : Hp) (p : Addr) (n : Nat) : Prop := ∃ a b c : Int, H p = some (.lst [.int a, .int b, .int c]) ∧ 0 ≤ a ∧ 0 ≤ b ∧ b < 2147483629 ∧ 0 ≤ c ∧ c ≤ n
theorem Box.lst {H : Hp} {p : Addr} {n : Nat} (x : Box H p n) : ∃ xs, H p = some (.lst xs) := let ⟨_, _, _, h, _⟩ := x; ⟨_, h⟩
theorem Box.mono {H : Hp} {p : Addr} {n m : Nat} (x : Box H p n) (h : n ≤ m) : Box H p m := let ⟨a, b, c, h1, h2, h3, h4, h5, h6⟩ := x; ⟨a, b, c, h1, h2, h3, h4, h5, by omega⟩
theorem Box.upd {H : Hp} {p q : Addr} {n : Nat} {o : HO} (x : Box H p n) (h : H q = none) : Box (upd H q o) p n := by
  obtain ⟨a, b, c, h1, r⟩ := x
  exact ⟨a, b, c, by rw [upd_ne (ne_of_none h1 h)]; exact h1, r⟩
def spTake : Sp := fun vs H Q _ => ∃ (p : Addr) (m : Int) (n : Nat), vs = [.ref p, .int m] ∧ Box H p n ∧ n ≤ 1000000 ∧ 0 < m ∧ m ≤ 1000000000000000 ∧
  ∀ (r : Int) (H' : Hp), 0 ≤ r → r < m → Box H' p (n + 1) → KB p H H' → Q (.int r) H'
section
variable {P : Program} {w : World} {K : PySem.W.Frag} {mg : Str → Option Value} {base : Heap}
abbrev s__law_take : Stmt := top 34
theorem sc__law_take : FnScope ["_law_box_here", "_law_many", "_law_digit", "_law_number"] ["_law_box_here", "_law_many"] (defScope s__law_take) := ⟨rfl, rfl, rfl, by decide +kernel, rfl, by decide +kernel, by decide +kernel⟩
theorem log_small {m : Int} (h : 0 < m) (h2 : m ≤ 1000000000000000) : m.natAbs.log2 < 9000 := by
  have e : m.natAbs < 2 ^ 50 := by omega
  have := (Nat.log2_lt (by omega)).mpr e
  omega
theorem small_mod {x : Int} : (x % 2147483629).natAbs < 2 ^ 64 := by omega
theorem ok_take (hd : ∃ f fd, Dn K mg "_law_take" "_law_take" s__law_take ["_law_box_here", "_law_many"] f fd) (T : Txt K mg) : OkD P w K mg base "_law_take" s__law_take ["_law_box_here", "_law_many"] 1 spTake := by
  obtain ⟨f, fd, D⟩ := hd
  refine ⟨f, fd, D, D.fn.ok sc__law_take (fun vs H Q E h => ?_) (fun cdv A outer s H vs Q E hr h => ?_)⟩
  · obtain ⟨_, _, _, rfl, _⟩ := h
    rfl
  · obtain ⟨p, m, n, rfl, ⟨a, b, c, hb, ha, hb0, hb1, hc0, hc1⟩, hn, hm, hm2, k⟩ := h
    have sc := sc__law_take
    refine ⟨_, (pss_cons (ps_if (pt_cmpR op_gt (pe_ix ix_list (pv 0) pe_int (fun _ _ => rfl)) pe_int (nomark _))
      (pss_cons (ps_set (i := 2) sc.nd rfl (Or.inl rfl) (pe_op op_mod (pe_ix ix_list (pv 0) pe_int (fun _ _ => rfl)) (pv 1)))
    (pss_cons (ps_asg (pe_op op_fdivL (pe_ix ix_list (pv 0) pe_int (fun _ _ => rfl)) (pv 1)) (pg_sub (pv 0) pe_int set_list))
    (pss_one (ps_ret (pv 2)))))
      pss_nil)
    (pss_cons (ps_asg (pe_op op_add (pe_ix ix_list (pv 0) pe_int (fun _ _ => rfl)) pe_int) (pg_sub (pv 0) pe_int set_list))
    (pss_cons (ps_set (i := 3) sc.nd rfl (Or.inl rfl) (pe_op op_mod (pe_op op_add (pe_op op_pow (pe_op op_add (pe_ix ix_list (pv 0) pe_int (fun _ _ => rfl)) (pe_op op_mul pe_int (pe_ix ix_list (pv 0) pe_int (fun _ _ => rfl)))) pe_int) (pe_op op_mul pe_int (pe_ix ix_list (pv 0) pe_int (fun _ _ => rfl)))) pe_int))
    (pss_one (ps_ret (pe_op op_mod (pe_op op_fdivL (pe_op op_mod (pe_op op_pow (pv 3) pe_int) pe_int) pe_int) (pv 1))))))), ?_⟩
    refine ⟨_, rfl, _, _, _, _, rfl, rfl, SqL.of hb, rfl, _, _, rfl, rfl, _, rfl, ?_⟩
    refine ite2 (fun h0 => ?_) (fun h0 => ?_)
    · refine ⟨_, rfl, _, _, _, _, rfl, rfl, SqL.of hb, rfl, _, rfl, _, _, rfl, rfl, hm, ?_⟩
      refine ⟨_, rfl, _, _, _, _, rfl, rfl, SqL.of hb, rfl, _, rfl, _, _, rfl, rfl, ⟨hm, log_small hm hm2⟩, ?_⟩
      refine ⟨_, rfl, _, _, _, _, rfl, rfl, hb, rfl, _, rfl, ?_⟩
      exact k _ _ (Int.emod_nonneg _ (by omega)) (Int.emod_lt_of_pos _ hm) ⟨a / m, b, c, upd_same, Int.ediv_nonneg ha (by omega), hb0, hb1, hc0, by omega⟩ (KB.refl.updP)
    · refine ⟨_, rfl, _, _, _, _, rfl, rfl, SqL.of hb, rfl, _, _, rfl, rfl, ?_⟩
      refine ⟨_, rfl, _, _, _, _, rfl, rfl, hb, rfl, ?_⟩
      have hb' : upd H p (.lst ([V.int a, V.int b, V.int c].set 2 (V.int (c + 1)))) p = some (.lst [V.int a, V.int b, V.int (c + 1)]) := upd_same
      refine ⟨_, rfl, _, _, _, _, rfl, rfl, SqL.of hb', rfl, _, rfl, _, _, _, _, rfl, rfl, SqL.of hb', rfl, _, _, rfl, rfl, .inl ⟨by decide, by decide⟩, _, _, rfl, rfl, _, _, rfl, rfl, ⟨by decide, by decide, ?_⟩, ?_⟩
      · show (b + 104729 * (c + 1)).natAbs < 2 ^ 64
        omega
      refine ⟨_, rfl, _, _, _, _, rfl, rfl, SqL.of hb', rfl, _, _, rfl, rfl, .inl ⟨by decide, by decide⟩, _, _, rfl, rfl, _, _, rfl, rfl, (by show (0 : Int) < 2147483629; decide), ?_⟩
      refine ⟨_, rfl, _, _, rfl, rfl, ⟨by decide, by decide, small_mod⟩, _, _, rfl, rfl, (by show (0 : Int) < 2147483587; decide), _, _, rfl, rfl, ⟨by decide, by decide +kernel⟩, _, rfl, _, _, rfl, rfl, hm, ?_⟩
      exact k _ _ (Int.emod_nonneg _ (by omega)) (Int.emod_lt_of_pos _ hm) ⟨a, b, c + 1, hb', ha, hb0, hb1, by omega, by omega⟩ (KB.refl.updP)
end
theorem cp {j : Int} (h0 : 0 ≤ j) (h1 : j ≤ 1000000) : CPow 10 j := ⟨h0, h1, by decide⟩
theorem atI_mem {xs : List V} {r : Int} (h0 : 0 ≤ r) (h1 : r < xs.length) : ∃ v, v ∈ xs ∧ atI xs r = some v := by
  have hj : r.toNat < xs.length := by omega
  refine ⟨xs[r.toNat], List.getElem_mem hj, ?_⟩
  have e : xs[r.toNat]? = some xs[r.toNat] := by simp [hj]
  have := atI_nat e
  rwa [show ((r.toNat : Nat) : Int) = r by omega] at this
theorem atI_ints {ns : List Int} {r : Int} (h0 : 0 ≤ r) (h1 : r < ns.length) : ∃ z, z ∈ ns ∧ atI (ns.map V.int) r = some (.int z) := by
  obtain ⟨v, hv, e⟩ := atI_mem (xs := ns.map V.int) h0 (by simpa using h1)
  obtain ⟨z, hz, rfl⟩ := List.mem_map.mp hv
  exact ⟨z, hz, e⟩
theorem Box.ne {H H1 : Hp} {p q : Addr} {n : Nat} (x : Box H p n) (h : H q = none) : q ≠ p := by
  obtain ⟨xs, e⟩ := x.lst
  exact (ne_of_none e h).symm
theorem kbF {H H1 : Hp} {p q : Addr} {o : HO} (k : KB p H H1) (h : H q = none) : KB p H (upd H1 q o) := fun b u z n => by rw [upd_ne (ne_of_none z h)]; exact k b u z n
theorem kb_free {H H1 : Hp} {p l : Addr} {m : Nat} (k : KB p H H1) (b : Box H1 p m) (h : H1 l = none) : H l = none ∧ l ≠ p := by
  obtain ⟨xs, e⟩ := b.lst
  have nl : l ≠ p := (ne_of_none e h).symm
  refine ⟨?_, nl⟩
  cases z : H l with
  | none => rfl
  | some o => rw [k l o z nl] at h; cases h
theorem Box.updQ {H : Hp} {p q : Addr} {n : Nat} {o : HO} (x : Box H p n) (h : q ≠ p) : Box (L2.upd H q o) p n := by
  obtain ⟨a, b, c, h1, r⟩ := x
  exact ⟨a, b, c, by rw [upd_ne h.symm]; exact h1, r⟩
theorem Box.same {H H' : Hp} {p : Addr} {n : Nat} (x : Box H p n) (h : Same H H') : Box H' p n := by
  obtain ⟨a, b, c, h1, r⟩ := x
  exact ⟨a, b, c, h _ _ h1, r⟩
theorem sameD {H1 H2 : Hp} {D : Addr} {o : HO} (s : Same H1 H2) (d : H1 D = none) : Same H1 (upd H2 D o) := fun b u q => by rw [upd_ne (ne_of_none q d)]; exact s b u q
theorem iteE {b c : Bool} {A B : Prop} (e : b = c) (h : if c = true then A else B) : if b = true then A else B := by subst e; exact h
theorem big1000 : (2001 : Nat) ≤ sizeLine := by decide
section
variable {P : Program} {w : World} {K : PySem.W.Frag} {mg : Str → Option Value} {base : Heap}
abbrev s__law_cell : Stmt := top 32
theorem sc__law_cell : FnScope ["_law_script", "_law_k"] ["_law_script", "_law_k"] (defScope s__law_cell) := ⟨rfl, rfl, rfl, by decide +kernel, rfl, by decide +kernel, by decide +kernel⟩
def spCell (K : PySem.W.Frag) : Sp := fun vs H Q _ => ∃ (a : Addr) (k : Nat) (ns : List Int), vs = [.ref a, .int k] ∧ SqL K H a (ns.map V.int) ∧ ∀ i : Int, Q (.int i) H
theorem ok_cell (hd : ∃ f fd, Dn K mg "_law_cell" "_law_cell" s__law_cell ["_law_script", "_law_k"] f fd) (T : Txt K mg) : OkD P w K mg base "_law_cell" s__law_cell ["_law_script", "_law_k"] 1 (spCell K) := by
  obtain ⟨f, fd, D⟩ := hd
  refine ⟨f, fd, D, D.fn.ok sc__law_cell (fun vs H Q E h => ?_) (fun cdv A outer s H vs Q E hr h => ?_)⟩
  · obtain ⟨_, _, _, rfl, _⟩ := h
    rfl
  · obtain ⟨a, j, ns, rfl, hS, k⟩ := h
    have sc := sc__law_cell
    refine ⟨_, (pss_cons (ps_if (pt_cmpR op_lt (pv 1) (pe_callB call_len_seq rfl T.n_len bt_len (pa_c (pv 0) pa_nil)) (nomark _))
      (pss_one (ps_ret (pe_ix ix_list (pv 0) (pv 1) (fun _ _ => rfl))))
      pss_nil)
    (pss_one (ps_ret (pe_op op_add (pe_op op_mul pe_int (pv 1)) pe_int)))), ?_⟩
    refine ⟨_, rfl, _, rfl, _, _, rfl, .inl hS, _, _, rfl, rfl, _, rfl, ?_⟩
    refine ite2 (fun h0 => ?_) (fun h0 => ?_)
    · have h1 : (j : Int) < ((ns.map V.int).length : Nat) := of_decide_eq_true h0
      obtain ⟨z, _, e⟩ := atI_ints (ns := ns) (r := (j : Int)) (by omega) (by simpa using h1)
      exact ⟨_, rfl, _, rfl, _, _, _, _, rfl, rfl, hS, e, k z⟩
    · exact ⟨_, rfl, _, _, rfl, rfl, .inl ⟨by decide, by decide⟩, _, _, rfl, rfl, k _⟩
abbrev s__law_box : Stmt := top 33
theorem sc__law_box : FnScope ["_law_cell_here"] ["_law_cell_here"] (defScope s__law_box) := ⟨rfl, rfl, rfl, by decide +kernel, rfl, by decide +kernel, by decide +kernel⟩
def spBox : Sp := fun vs H Q _ => ∃ (c : Int), vs = [.int c] ∧ ∀ (p : Addr) (H' : Hp), H p = none → Box H' p 0 → Same H H' → Q (.ref p) H'
theorem ok_box (hd : ∃ f fd, Dn K mg "_law_box" "_law_box" s__law_box ["_law_cell_here"] f fd) (T : Txt K mg) : OkD P w K mg base "_law_box" s__law_box ["_law_cell_here"] 1 spBox := by
  obtain ⟨f, fd, D⟩ := hd
  refine ⟨f, fd, D, D.fn.ok sc__law_box (fun vs H Q E h => ?_) (fun cdv A outer s H vs Q E hr h => ?_)⟩
  · obtain ⟨_, rfl, _⟩ := h
    rfl
  · obtain ⟨c, rfl, k⟩ := h
    have sc := sc__law_box
    refine ⟨_, (pss_one (ps_ret (pe_lst (pa_c (pe_callB (call_max2 rfl) rfl T.n_max bt_max (pa_c pe_int (pa_c (pe_op op_sub (pv 0) (pe_op op_pow pe_int pe_int)) pa_nil))) (pa_c (pe_op op_mod (pv 0) pe_int) (pa_c pe_int pa_nil)))))), ?_⟩
    refine ⟨_, rfl, _, _, rfl, rfl, cp (by decide) (by decide), _, _, rfl, rfl, _, _, rfl, _, rfl, _, _, rfl, rfl, (by show (0 : Int) < 2147483629; decide), (by show 3 ≤ sizeLine; decide), fun p hp => ?_⟩
    refine k p _ hp ⟨_, _, _, upd_same, ?_, Int.emod_nonneg _ (by decide), Int.emod_lt_of_pos _ (by decide), Int.le_refl _, Int.le_refl _⟩ (Same.upd hp)
    generalize c - 10 ^ (18 : Int).toNat = z
    by_cases hz : z > 0
    · rw [if_pos hz]; omega
    · rw [if_neg hz]; omega
end
end K02

set_option Elab.async false
set_option linter.all false
set_option maxRecDepth 100000
set_option maxHeartbeats 2000000
namespace K02
open PySem L2
/-! the classes of refusals, in the order of the ways -/
def cn (i : Nat) : Str := (["NoKey", "NoGood", "NoPage", "NoPlace", "NoMost", "NoLevel", "NoDoer", "NoTree", "NoCall", "NoText", "NoLine", "NoNumber", "Twice", "NoWeaving", "NoShape", "Lacks", "Has", "NoJoin", "TooMany", "TooFew", "Gone", "Ended", "Going", "BadLine", "NoSpan", "NoEdge", "Held", "NotHeld", "Waits"] : List Str).getD i ""
def cf (i : Nat) : List Str := ([["found"], ["found"], ["found"], ["found"], ["found"], ["found"], ["found"], ["found"], ["found"], ["found"], ["found"], ["found"], ["found"], ["found"], ["found"], ["key"], ["key"], ["key"], ["count"], ["count"], ["place"], ["doer"], ["doer"], ["row"], ["low", "high"], ["high", "right"], ["place", "holder"], ["place", "doer"], ["doer", "place"]] : List (List Str)).getD i []
/-- what the making of an error promises: its args, its fields -/
def spInit (C : Addr) (ps : List Str) : Sp := fun vs H Q _ => ∃ (e : Addr) (ws : List V), vs = .ref e :: ws ∧ ws.length = ps.length ∧ H e = some (ExO C e none none) ∧
  ∀ (dx t : Addr) (txt : Str) (H' : Hp), H dx = none → H t = none → dx ≠ e → t ≠ e → dx ≠ t → (PySem.reprText txt).length ≤ 1000 → H' e = some (ExO C e (some dx) (some t)) → H' dx = some (XdO dx (ps.zip ws)) → H' t = some (.tup [.str txt]) →
    (∀ b, b ≠ e → b ≠ dx → b ≠ t → H' b = H b) → Q .non H'
structure ExI (K : PySem.W.Frag) (mg : Str → Option Value) (C T fI : Addr) (fd : FuncData) (x q : Str) (st : Stmt) (ps : List Str) : Prop where
  f : ExF K C T fI
  g : ExG K C
  b : BaseInit K T
  fn : Fun K "__init__" q st fI fd
  bi : Binds K fd ("self" :: ps) []
  mC : mg x = some (.ref C)
  mT : mg "TreeError" = some (.ref T)
  no : ∀ f ∈ ps, NoAttr K C f
section
variable {P : Program} {w : World} {K : PySem.W.Frag} {mg : Str → Option Value} {base : Heap}
theorem sc_NoKey : FnScope ["self", "found"] ["self", "found"] (defScope (inClass (top 2) 0)) := ⟨rfl, rfl, rfl, by decide +kernel, rfl, by decide +kernel, by decide +kernel⟩
theorem len_NoKey : (PySem.reprText "this is no key").length ≤ 1000 := by decide +kernel
theorem ok_NoKey {C TT fI : Addr} {fd : FuncData} (x : ExI K mg C TT fI fd "NoKey" "NoKey.__init__" (inClass (top 2) 0) ["found"]) : FnOk P w K mg base CX0 1 fI fd ["self", "found"] (spInit C ["found"]) := by
  refine x.fn.ok sc_NoKey (fun vs H Q E h => ?_) (fun cdv A outer s H vs Q E hr h => ?_)
  · obtain ⟨_, ws, rfl, hl, _⟩ := h
    show ws.length + 1 = _
    rw [hl]
    rfl
  · obtain ⟨e, ws, rfl, hl, he, k⟩ := h
    match ws, hl with
    | [v], _ =>
    refine ⟨_, (pss_cons (ps_expr (pe_baseInit x.f x.b rfl x.mT (pa_cons (pv 0) (pa_cons pe_str pa_nil)))) (pss_one (ps_exf x.f (pv 0) (pv 1) rfl))), ?_⟩
    refine ⟨_, rfl, e, none, none, _, rfl, (by show 1 ≤ sizeLine; decide), he, fun t f1 f2 => ?_⟩
    refine ⟨_, rfl, _, rfl, e, _, rfl, upd_same, x.no _ (by simp), fun dx h1 h2 => ?_⟩
    rw [upd_ne h2] at h1
    have h3 : dx ≠ t := (ne_of_none upd_same h1).symm
    rw [upd_ne h3] at h1
    refine k dx t _ _ h1 f1 h2 f2 h3 len_NoKey upd_same (by rw [upd_ne h2, upd_same]; rfl) (by rw [upd_ne f2, upd_ne (Ne.symm h3), upd_ne f2, upd_same]) fun b hb1 hb2 hb3 => ?_
    rw [upd_ne hb1, upd_ne hb2, upd_ne hb1, upd_ne hb3]
theorem sc_NoGood : FnScope ["self", "found"] ["self", "found"] (defScope (inClass (top 3) 0)) := ⟨rfl, rfl, rfl, by decide +kernel, rfl, by decide +kernel, by decide +kernel⟩
theorem len_NoGood : (PySem.reprText "this is no good").length ≤ 1000 := by decide +kernel
theorem ok_NoGood {C TT fI : Addr} {fd : FuncData} (x : ExI K mg C TT fI fd "NoGood" "NoGood.__init__" (inClass (top 3) 0) ["found"]) : FnOk P w K mg base CX0 1 fI fd ["self", "found"] (spInit C ["found"]) := by
  refine x.fn.ok sc_NoGood (fun vs H Q E h => ?_) (fun cdv A outer s H vs Q E hr h => ?_)
  · obtain ⟨_, ws, rfl, hl, _⟩ := h
    show ws.length + 1 = _
    rw [hl]
    rfl
  · obtain ⟨e, ws, rfl, hl, he, k⟩ := h
    match ws, hl with
    | [v], _ =>
    refine ⟨_, (pss_cons (ps_expr (pe_baseInit x.f x.b rfl x.mT (pa_cons (pv 0) (pa_cons pe_str pa_nil)))) (pss_one (ps_exf x.f (pv 0) (pv 1) rfl))), ?_⟩
    refine ⟨_, rfl, e, none, none, _, rfl, (by show 1 ≤ sizeLine; decide), he, fun t f1 f2 => ?_⟩
    refine ⟨_, rfl, _, rfl, e, _, rfl, upd_same, x.no _ (by simp), fun dx h1 h2 => ?_⟩
    rw [upd_ne h2] at h1
    have h3 : dx ≠ t := (ne_of_none upd_same h1).symm
    rw [upd_ne h3] at h1
    refine k dx t _ _ h1 f1 h2 f2 h3 len_NoGood upd_same (by rw [upd_ne h2, upd_same]; rfl) (by rw [upd_ne f2, upd_ne (Ne.symm h3), upd_ne f2, upd_same]) fun b hb1 hb2 hb3 => ?_
    rw [upd_ne hb1, upd_ne hb2, upd_ne hb1, upd_ne hb3]
theorem sc_NoPage : FnScope ["self", "found"] ["self", "found"] (defScope (inClass (top 4) 0)) := ⟨rfl, rfl, rfl, by decide +kernel, rfl, by decide +kernel, by decide +kernel⟩
theorem len_NoPage : (PySem.reprText "this is no page, or makes none").length ≤ 1000 := by decide +kernel
theorem ok_NoPage {C TT fI : Addr} {fd : FuncData} (x : ExI K mg C TT fI fd "NoPage" "NoPage.__init__" (inClass (top 4) 0) ["found"]) : FnOk P w K mg base CX0 1 fI fd ["self", "found"] (spInit C ["found"]) := by
  refine x.fn.ok sc_NoPage (fun vs H Q E h => ?_) (fun cdv A outer s H vs Q E hr h => ?_)
  · obtain ⟨_, ws, rfl, hl, _⟩ := h
    show ws.length + 1 = _
    rw [hl]
    rfl
  · obtain ⟨e, ws, rfl, hl, he, k⟩ := h
    match ws, hl with
    | [v], _ =>
    refine ⟨_, (pss_cons (ps_expr (pe_baseInit x.f x.b rfl x.mT (pa_cons (pv 0) (pa_cons pe_str pa_nil)))) (pss_one (ps_exf x.f (pv 0) (pv 1) rfl))), ?_⟩
    refine ⟨_, rfl, e, none, none, _, rfl, (by show 1 ≤ sizeLine; decide), he, fun t f1 f2 => ?_⟩
    refine ⟨_, rfl, _, rfl, e, _, rfl, upd_same, x.no _ (by simp), fun dx h1 h2 => ?_⟩
    rw [upd_ne h2] at h1
    have h3 : dx ≠ t := (ne_of_none upd_same h1).symm
    rw [upd_ne h3] at h1
    refine k dx t _ _ h1 f1 h2 f2 h3 len_NoPage upd_same (by rw [upd_ne h2, upd_same]; rfl) (by rw [upd_ne f2, upd_ne (Ne.symm h3), upd_ne f2, upd_same]) fun b hb1 hb2 hb3 => ?_
    rw [upd_ne hb1, upd_ne hb2, upd_ne hb1, upd_ne hb3]
theorem sc_NoPlace : FnScope ["self", "found"] ["self", "found"] (defScope (inClass (top 5) 0)) := ⟨rfl, rfl, rfl, by decide +kernel, rfl, by decide +kernel, by decide +kernel⟩
theorem len_NoPlace : (PySem.reprText "this is no place that may be used here").length ≤ 1000 := by decide +kernel
theorem ok_NoPlace {C TT fI : Addr} {fd : FuncData} (x : ExI K mg C TT fI fd "NoPlace" "NoPlace.__init__" (inClass (top 5) 0) ["found"]) : FnOk P w K mg base CX0 1 fI fd ["self", "found"] (spInit C ["found"]) := by
  refine x.fn.ok sc_NoPlace (fun vs H Q E h => ?_) (fun cdv A outer s H vs Q E hr h => ?_)
  · obtain ⟨_, ws, rfl, hl, _⟩ := h
    show ws.length + 1 = _
    rw [hl]
    rfl
  · obtain ⟨e, ws, rfl, hl, he, k⟩ := h
    match ws, hl with
    | [v], _ =>
    refine ⟨_, (pss_cons (ps_expr (pe_baseInit x.f x.b rfl x.mT (pa_cons (pv 0) (pa_cons pe_str pa_nil)))) (pss_one (ps_exf x.f (pv 0) (pv 1) rfl))), ?_⟩
    refine ⟨_, rfl, e, none, none, _, rfl, (by show 1 ≤ sizeLine; decide), he, fun t f1 f2 => ?_⟩
    refine ⟨_, rfl, _, rfl, e, _, rfl, upd_same, x.no _ (by simp), fun dx h1 h2 => ?_⟩
    rw [upd_ne h2] at h1
    have h3 : dx ≠ t := (ne_of_none upd_same h1).symm
    rw [upd_ne h3] at h1
    refine k dx t _ _ h1 f1 h2 f2 h3 len_NoPlace upd_same (by rw [upd_ne h2, upd_same]; rfl) (by rw [upd_ne f2, upd_ne (Ne.symm h3), upd_ne f2, upd_same]) fun b hb1 hb2 hb3 => ?_
    rw [upd_ne hb1, upd_ne hb2, upd_ne hb1, upd_ne hb3]
theorem sc_NoMost : FnScope ["self", "found"] ["self", "found"] (defScope (inClass (top 6) 0)) := ⟨rfl, rfl, rfl, by decide +kernel, rfl, by decide +kernel, by decide +kernel⟩
theorem len_NoMost : (PySem.reprText "this is no most").length ≤ 1000 := by decide +kernel
theorem ok_NoMost {C TT fI : Addr} {fd : FuncData} (x : ExI K mg C TT fI fd "NoMost" "NoMost.__init__" (inClass (top 6) 0) ["found"]) : FnOk P w K mg base CX0 1 fI fd ["self", "found"] (spInit C ["found"]) := by
  refine x.fn.ok sc_NoMost (fun vs H Q E h => ?_) (fun cdv A outer s H vs Q E hr h => ?_)
  · obtain ⟨_, ws, rfl, hl, _⟩ := h
    show ws.length + 1 = _
    rw [hl]
    rfl
  · obtain ⟨e, ws, rfl, hl, he, k⟩ := h
    match ws, hl with
    | [v], _ =>
    refine ⟨_, (pss_cons (ps_expr (pe_baseInit x.f x.b rfl x.mT (pa_cons (pv 0) (pa_cons pe_str pa_nil)))) (pss_one (ps_exf x.f (pv 0) (pv 1) rfl))), ?_⟩
    refine ⟨_, rfl, e, none, none, _, rfl, (by show 1 ≤ sizeLine; decide), he, fun t f1 f2 => ?_⟩
    refine ⟨_, rfl, _, rfl, e, _, rfl, upd_same, x.no _ (by simp), fun dx h1 h2 => ?_⟩
    rw [upd_ne h2] at h1
    have h3 : dx ≠ t := (ne_of_none upd_same h1).symm
    rw [upd_ne h3] at h1
    refine k dx t _ _ h1 f1 h2 f2 h3 len_NoMost upd_same (by rw [upd_ne h2, upd_same]; rfl) (by rw [upd_ne f2, upd_ne (Ne.symm h3), upd_ne f2, upd_same]) fun b hb1 hb2 hb3 => ?_
    rw [upd_ne hb1, upd_ne hb2, upd_ne hb1, upd_ne hb3]
theorem sc_NoLevel : FnScope ["self", "found"] ["self", "found"] (defScope (inClass (top 7) 0)) := ⟨rfl, rfl, rfl, by decide +kernel, rfl, by decide +kernel, by decide +kernel⟩
theorem len_NoLevel : (PySem.reprText "this is no level").length ≤ 1000 := by decide +kernel
theorem ok_NoLevel {C TT fI : Addr} {fd : FuncData} (x : ExI K mg C TT fI fd "NoLevel" "NoLevel.__init__" (inClass (top 7) 0) ["found"]) : FnOk P w K mg base CX0 1 fI fd ["self", "found"] (spInit C ["found"]) := by
  refine x.fn.ok sc_NoLevel (fun vs H Q E h => ?_) (fun cdv A outer s H vs Q E hr h => ?_)
  · obtain ⟨_, ws, rfl, hl, _⟩ := h
    show ws.length + 1 = _
    rw [hl]
    rfl
  · obtain ⟨e, ws, rfl, hl, he, k⟩ := h
    match ws, hl with
    | [v], _ =>
    refine ⟨_, (pss_cons (ps_expr (pe_baseInit x.f x.b rfl x.mT (pa_cons (pv 0) (pa_cons pe_str pa_nil)))) (pss_one (ps_exf x.f (pv 0) (pv 1) rfl))), ?_⟩
    refine ⟨_, rfl, e, none, none, _, rfl, (by show 1 ≤ sizeLine; decide), he, fun t f1 f2 => ?_⟩
    refine ⟨_, rfl, _, rfl, e, _, rfl, upd_same, x.no _ (by simp), fun dx h1 h2 => ?_⟩
    rw [upd_ne h2] at h1
    have h3 : dx ≠ t := (ne_of_none upd_same h1).symm
    rw [upd_ne h3] at h1
    refine k dx t _ _ h1 f1 h2 f2 h3 len_NoLevel upd_same (by rw [upd_ne h2, upd_same]; rfl) (by rw [upd_ne f2, upd_ne (Ne.symm h3), upd_ne f2, upd_same]) fun b hb1 hb2 hb3 => ?_
    rw [upd_ne hb1, upd_ne hb2, upd_ne hb1, upd_ne hb3]
theorem sc_NoDoer : FnScope ["self", "found"] ["self", "found"] (defScope (inClass (top 8) 0)) := ⟨rfl, rfl, rfl, by decide +kernel, rfl, by decide +kernel, by decide +kernel⟩
theorem len_NoDoer : (PySem.reprText "this is no number of such a doer").length ≤ 1000 := by decide +kernel
theorem ok_NoDoer {C TT fI : Addr} {fd : FuncData} (x : ExI K mg C TT fI fd "NoDoer" "NoDoer.__init__" (inClass (top 8) 0) ["found"]) : FnOk P w K mg base CX0 1 fI fd ["self", "found"] (spInit C ["found"]) := by
  refine x.fn.ok sc_NoDoer (fun vs H Q E h => ?_) (fun cdv A outer s H vs Q E hr h => ?_)
  · obtain ⟨_, ws, rfl, hl, _⟩ := h
    show ws.length + 1 = _
    rw [hl]
    rfl
  · obtain ⟨e, ws, rfl, hl, he, k⟩ := h
    match ws, hl with
    | [v], _ =>
    refine ⟨_, (pss_cons (ps_expr (pe_baseInit x.f x.b rfl x.mT (pa_cons (pv 0) (pa_cons pe_str pa_nil)))) (pss_one (ps_exf x.f (pv 0) (pv 1) rfl))), ?_⟩
    refine ⟨_, rfl, e, none, none, _, rfl, (by show 1 ≤ sizeLine; decide), he, fun t f1 f2 => ?_⟩
    refine ⟨_, rfl, _, rfl, e, _, rfl, upd_same, x.no _ (by simp), fun dx h1 h2 => ?_⟩
    rw [upd_ne h2] at h1
    have h3 : dx ≠ t := (ne_of_none upd_same h1).symm
    rw [upd_ne h3] at h1
    refine k dx t _ _ h1 f1 h2 f2 h3 len_NoDoer upd_same (by rw [upd_ne h2, upd_same]; rfl) (by rw [upd_ne f2, upd_ne (Ne.symm h3), upd_ne f2, upd_same]) fun b hb1 hb2 hb3 => ?_
    rw [upd_ne hb1, upd_ne hb2, upd_ne hb1, upd_ne hb3]
theorem sc_NoTree : FnScope ["self", "found"] ["self", "found"] (defScope (inClass (top 9) 0)) := ⟨rfl, rfl, rfl, by decide +kernel, rfl, by decide +kernel, by decide +kernel⟩
theorem len_NoTree : (PySem.reprText "this is no tree").length ≤ 1000 := by decide +kernel
theorem ok_NoTree {C TT fI : Addr} {fd : FuncData} (x : ExI K mg C TT fI fd "NoTree" "NoTree.__init__" (inClass (top 9) 0) ["found"]) : FnOk P w K mg base CX0 1 fI fd ["self", "found"] (spInit C ["found"]) := by
  refine x.fn.ok sc_NoTree (fun vs H Q E h => ?_) (fun cdv A outer s H vs Q E hr h => ?_)
  · obtain ⟨_, ws, rfl, hl, _⟩ := h
    show ws.length + 1 = _
    rw [hl]
    rfl
  · obtain ⟨e, ws, rfl, hl, he, k⟩ := h
    match ws, hl with
    | [v], _ =>
    refine ⟨_, (pss_cons (ps_expr (pe_baseInit x.f x.b rfl x.mT (pa_cons (pv 0) (pa_cons pe_str pa_nil)))) (pss_one (ps_exf x.f (pv 0) (pv 1) rfl))), ?_⟩
    refine ⟨_, rfl, e, none, none, _, rfl, (by show 1 ≤ sizeLine; decide), he, fun t f1 f2 => ?_⟩
    refine ⟨_, rfl, _, rfl, e, _, rfl, upd_same, x.no _ (by simp), fun dx h1 h2 => ?_⟩
    rw [upd_ne h2] at h1
    have h3 : dx ≠ t := (ne_of_none upd_same h1).symm
    rw [upd_ne h3] at h1
    refine k dx t _ _ h1 f1 h2 f2 h3 len_NoTree upd_same (by rw [upd_ne h2, upd_same]; rfl) (by rw [upd_ne f2, upd_ne (Ne.symm h3), upd_ne f2, upd_same]) fun b hb1 hb2 hb3 => ?_
    rw [upd_ne hb1, upd_ne hb2, upd_ne hb1, upd_ne hb3]
theorem sc_NoCall : FnScope ["self", "found"] ["self", "found"] (defScope (inClass (top 10) 0)) := ⟨rfl, rfl, rfl, by decide +kernel, rfl, by decide +kernel, by decide +kernel⟩
theorem len_NoCall : (PySem.reprText "this is no call, or no history of calls").length ≤ 1000 := by decide +kernel
theorem ok_NoCall {C TT fI : Addr} {fd : FuncData} (x : ExI K mg C TT fI fd "NoCall" "NoCall.__init__" (inClass (top 10) 0) ["found"]) : FnOk P w K mg base CX0 1 fI fd ["self", "found"] (spInit C ["found"]) := by
  refine x.fn.ok sc_NoCall (fun vs H Q E h => ?_) (fun cdv A outer s H vs Q E hr h => ?_)
  · obtain ⟨_, ws, rfl, hl, _⟩ := h
    show ws.length + 1 = _
    rw [hl]
    rfl
  · obtain ⟨e, ws, rfl, hl, he, k⟩ := h
    match ws, hl with
    | [v], _ =>
    refine ⟨_, (pss_cons (ps_expr (pe_baseInit x.f x.b rfl x.mT (pa_cons (pv 0) (pa_cons pe_str pa_nil)))) (pss_one (ps_exf x.f (pv 0) (pv 1) rfl))), ?_⟩
    refine ⟨_, rfl, e, none, none, _, rfl, (by show 1 ≤ sizeLine; decide), he, fun t f1 f2 => ?_⟩
    refine ⟨_, rfl, _, rfl, e, _, rfl, upd_same, x.no _ (by simp), fun dx h1 h2 => ?_⟩
    rw [upd_ne h2] at h1
    have h3 : dx ≠ t := (ne_of_none upd_same h1).symm
    rw [upd_ne h3] at h1
    refine k dx t _ _ h1 f1 h2 f2 h3 len_NoCall upd_same (by rw [upd_ne h2, upd_same]; rfl) (by rw [upd_ne f2, upd_ne (Ne.symm h3), upd_ne f2, upd_same]) fun b hb1 hb2 hb3 => ?_
    rw [upd_ne hb1, upd_ne hb2, upd_ne hb1, upd_ne hb3]
theorem sc_NoText : FnScope ["self", "found"] ["self", "found"] (defScope (inClass (top 11) 0)) := ⟨rfl, rfl, rfl, by decide +kernel, rfl, by decide +kernel, by decide +kernel⟩
theorem len_NoText : (PySem.reprText "this is no text that can be read").length ≤ 1000 := by decide +kernel
theorem ok_NoText {C TT fI : Addr} {fd : FuncData} (x : ExI K mg C TT fI fd "NoText" "NoText.__init__" (inClass (top 11) 0) ["found"]) : FnOk P w K mg base CX0 1 fI fd ["self", "found"] (spInit C ["found"]) := by
  refine x.fn.ok sc_NoText (fun vs H Q E h => ?_) (fun cdv A outer s H vs Q E hr h => ?_)
  · obtain ⟨_, ws, rfl, hl, _⟩ := h
    show ws.length + 1 = _
    rw [hl]
    rfl
  · obtain ⟨e, ws, rfl, hl, he, k⟩ := h
    match ws, hl with
    | [v], _ =>
    refine ⟨_, (pss_cons (ps_expr (pe_baseInit x.f x.b rfl x.mT (pa_cons (pv 0) (pa_cons pe_str pa_nil)))) (pss_one (ps_exf x.f (pv 0) (pv 1) rfl))), ?_⟩
    refine ⟨_, rfl, e, none, none, _, rfl, (by show 1 ≤ sizeLine; decide), he, fun t f1 f2 => ?_⟩
    refine ⟨_, rfl, _, rfl, e, _, rfl, upd_same, x.no _ (by simp), fun dx h1 h2 => ?_⟩
    rw [upd_ne h2] at h1
    have h3 : dx ≠ t := (ne_of_none upd_same h1).symm
    rw [upd_ne h3] at h1
    refine k dx t _ _ h1 f1 h2 f2 h3 len_NoText upd_same (by rw [upd_ne h2, upd_same]; rfl) (by rw [upd_ne f2, upd_ne (Ne.symm h3), upd_ne f2, upd_same]) fun b hb1 hb2 hb3 => ?_
    rw [upd_ne hb1, upd_ne hb2, upd_ne hb1, upd_ne hb3]
theorem sc_NoLine : FnScope ["self", "found"] ["self", "found"] (defScope (inClass (top 12) 0)) := ⟨rfl, rfl, rfl, by decide +kernel, rfl, by decide +kernel, by decide +kernel⟩
theorem len_NoLine : (PySem.reprText "this is no line that a desk knows").length ≤ 1000 := by decide +kernel
theorem ok_NoLine {C TT fI : Addr} {fd : FuncData} (x : ExI K mg C TT fI fd "NoLine" "NoLine.__init__" (inClass (top 12) 0) ["found"]) : FnOk P w K mg base CX0 1 fI fd ["self", "found"] (spInit C ["found"]) := by
  refine x.fn.ok sc_NoLine (fun vs H Q E h => ?_) (fun cdv A outer s H vs Q E hr h => ?_)
  · obtain ⟨_, ws, rfl, hl, _⟩ := h
    show ws.length + 1 = _
    rw [hl]
    rfl
  · obtain ⟨e, ws, rfl, hl, he, k⟩ := h
    match ws, hl with
    | [v], _ =>
    refine ⟨_, (pss_cons (ps_expr (pe_baseInit x.f x.b rfl x.mT (pa_cons (pv 0) (pa_cons pe_str pa_nil)))) (pss_one (ps_exf x.f (pv 0) (pv 1) rfl))), ?_⟩
    refine ⟨_, rfl, e, none, none, _, rfl, (by show 1 ≤ sizeLine; decide), he, fun t f1 f2 => ?_⟩
    refine ⟨_, rfl, _, rfl, e, _, rfl, upd_same, x.no _ (by simp), fun dx h1 h2 => ?_⟩
    rw [upd_ne h2] at h1
    have h3 : dx ≠ t := (ne_of_none upd_same h1).symm
    rw [upd_ne h3] at h1
    refine k dx t _ _ h1 f1 h2 f2 h3 len_NoLine upd_same (by rw [upd_ne h2, upd_same]; rfl) (by rw [upd_ne f2, upd_ne (Ne.symm h3), upd_ne f2, upd_same]) fun b hb1 hb2 hb3 => ?_
    rw [upd_ne hb1, upd_ne hb2, upd_ne hb1, upd_ne hb3]
theorem sc_NoNumber : FnScope ["self", "found"] ["self", "found"] (defScope (inClass (top 13) 0)) := ⟨rfl, rfl, rfl, by decide +kernel, rfl, by decide +kernel, by decide +kernel⟩
theorem len_NoNumber : (PySem.reprText "this is no number within its bounds").length ≤ 1000 := by decide +kernel
theorem ok_NoNumber {C TT fI : Addr} {fd : FuncData} (x : ExI K mg C TT fI fd "NoNumber" "NoNumber.__init__" (inClass (top 13) 0) ["found"]) : FnOk P w K mg base CX0 1 fI fd ["self", "found"] (spInit C ["found"]) := by
  refine x.fn.ok sc_NoNumber (fun vs H Q E h => ?_) (fun cdv A outer s H vs Q E hr h => ?_)
  · obtain ⟨_, ws, rfl, hl, _⟩ := h
    show ws.length + 1 = _
    rw [hl]
    rfl
  · obtain ⟨e, ws, rfl, hl, he, k⟩ := h
    match ws, hl with
    | [v], _ =>
    refine ⟨_, (pss_cons (ps_expr (pe_baseInit x.f x.b rfl x.mT (pa_cons (pv 0) (pa_cons pe_str pa_nil)))) (pss_one (ps_exf x.f (pv 0) (pv 1) rfl))), ?_⟩
    refine ⟨_, rfl, e, none, none, _, rfl, (by show 1 ≤ sizeLine; decide), he, fun t f1 f2 => ?_⟩
    refine ⟨_, rfl, _, rfl, e, _, rfl, upd_same, x.no _ (by simp), fun dx h1 h2 => ?_⟩
    rw [upd_ne h2] at h1
    have h3 : dx ≠ t := (ne_of_none upd_same h1).symm
    rw [upd_ne h3] at h1
    refine k dx t _ _ h1 f1 h2 f2 h3 len_NoNumber upd_same (by rw [upd_ne h2, upd_same]; rfl) (by rw [upd_ne f2, upd_ne (Ne.symm h3), upd_ne f2, upd_same]) fun b hb1 hb2 hb3 => ?_
    rw [upd_ne hb1, upd_ne hb2, upd_ne hb1, upd_ne hb3]
theorem sc_Twice : FnScope ["self", "found"] ["self", "found"] (defScope (inClass (top 24) 0)) := ⟨rfl, rfl, rfl, by decide +kernel, rfl, by decide +kernel, by decide +kernel⟩
theorem len_Twice : (PySem.reprText "this may be there but once").length ≤ 1000 := by decide +kernel
theorem ok_Twice {C TT fI : Addr} {fd : FuncData} (x : ExI K mg C TT fI fd "Twice" "Twice.__init__" (inClass (top 24) 0) ["found"]) : FnOk P w K mg base CX0 1 fI fd ["self", "found"] (spInit C ["found"]) := by
  refine x.fn.ok sc_Twice (fun vs H Q E h => ?_) (fun cdv A outer s H vs Q E hr h => ?_)
  · obtain ⟨_, ws, rfl, hl, _⟩ := h
    show ws.length + 1 = _
    rw [hl]
    rfl
  · obtain ⟨e, ws, rfl, hl, he, k⟩ := h
    match ws, hl with
    | [v], _ =>
    refine ⟨_, (pss_cons (ps_expr (pe_baseInit x.f x.b rfl x.mT (pa_cons (pv 0) (pa_cons pe_str pa_nil)))) (pss_one (ps_exf x.f (pv 0) (pv 1) rfl))), ?_⟩
    refine ⟨_, rfl, e, none, none, _, rfl, (by show 1 ≤ sizeLine; decide), he, fun t f1 f2 => ?_⟩
    refine ⟨_, rfl, _, rfl, e, _, rfl, upd_same, x.no _ (by simp), fun dx h1 h2 => ?_⟩
    rw [upd_ne h2] at h1
    have h3 : dx ≠ t := (ne_of_none upd_same h1).symm
    rw [upd_ne h3] at h1
    refine k dx t _ _ h1 f1 h2 f2 h3 len_Twice upd_same (by rw [upd_ne h2, upd_same]; rfl) (by rw [upd_ne f2, upd_ne (Ne.symm h3), upd_ne f2, upd_same]) fun b hb1 hb2 hb3 => ?_
    rw [upd_ne hb1, upd_ne hb2, upd_ne hb1, upd_ne hb3]
theorem sc_NoWeaving : FnScope ["self", "found"] ["self", "found"] (defScope (inClass (top 28) 0)) := ⟨rfl, rfl, rfl, by decide +kernel, rfl, by decide +kernel, by decide +kernel⟩
theorem len_NoWeaving : (PySem.reprText "this is no weaving, or a turn of it fails").length ≤ 1000 := by decide +kernel
theorem ok_NoWeaving {C TT fI : Addr} {fd : FuncData} (x : ExI K mg C TT fI fd "NoWeaving" "NoWeaving.__init__" (inClass (top 28) 0) ["found"]) : FnOk P w K mg base CX0 1 fI fd ["self", "found"] (spInit C ["found"]) := by
  refine x.fn.ok sc_NoWeaving (fun vs H Q E h => ?_) (fun cdv A outer s H vs Q E hr h => ?_)
  · obtain ⟨_, ws, rfl, hl, _⟩ := h
    show ws.length + 1 = _
    rw [hl]
    rfl
  · obtain ⟨e, ws, rfl, hl, he, k⟩ := h
    match ws, hl with
    | [v], _ =>
    refine ⟨_, (pss_cons (ps_expr (pe_baseInit x.f x.b rfl x.mT (pa_cons (pv 0) (pa_cons pe_str pa_nil)))) (pss_one (ps_exf x.f (pv 0) (pv 1) rfl))), ?_⟩
    refine ⟨_, rfl, e, none, none, _, rfl, (by show 1 ≤ sizeLine; decide), he, fun t f1 f2 => ?_⟩
    refine ⟨_, rfl, _, rfl, e, _, rfl, upd_same, x.no _ (by simp), fun dx h1 h2 => ?_⟩
    rw [upd_ne h2] at h1
    have h3 : dx ≠ t := (ne_of_none upd_same h1).symm
    rw [upd_ne h3] at h1
    refine k dx t _ _ h1 f1 h2 f2 h3 len_NoWeaving upd_same (by rw [upd_ne h2, upd_same]; rfl) (by rw [upd_ne f2, upd_ne (Ne.symm h3), upd_ne f2, upd_same]) fun b hb1 hb2 hb3 => ?_
    rw [upd_ne hb1, upd_ne hb2, upd_ne hb1, upd_ne hb3]
theorem sc_NoShape : FnScope ["self", "found"] ["self", "found"] (defScope (inClass (top 30) 0)) := ⟨rfl, rfl, rfl, by decide +kernel, rfl, by decide +kernel, by decide +kernel⟩
theorem len_NoShape : (PySem.reprText "this has not the shape of a tree").length ≤ 1000 := by decide +kernel
theorem ok_NoShape {C TT fI : Addr} {fd : FuncData} (x : ExI K mg C TT fI fd "NoShape" "NoShape.__init__" (inClass (top 30) 0) ["found"]) : FnOk P w K mg base CX0 1 fI fd ["self", "found"] (spInit C ["found"]) := by
  refine x.fn.ok sc_NoShape (fun vs H Q E h => ?_) (fun cdv A outer s H vs Q E hr h => ?_)
  · obtain ⟨_, ws, rfl, hl, _⟩ := h
    show ws.length + 1 = _
    rw [hl]
    rfl
  · obtain ⟨e, ws, rfl, hl, he, k⟩ := h
    match ws, hl with
    | [v], _ =>
    refine ⟨_, (pss_cons (ps_expr (pe_baseInit x.f x.b rfl x.mT (pa_cons (pv 0) (pa_cons pe_str pa_nil)))) (pss_one (ps_exf x.f (pv 0) (pv 1) rfl))), ?_⟩
    refine ⟨_, rfl, e, none, none, _, rfl, (by show 1 ≤ sizeLine; decide), he, fun t f1 f2 => ?_⟩
    refine ⟨_, rfl, _, rfl, e, _, rfl, upd_same, x.no _ (by simp), fun dx h1 h2 => ?_⟩
    rw [upd_ne h2] at h1
    have h3 : dx ≠ t := (ne_of_none upd_same h1).symm
    rw [upd_ne h3] at h1
    refine k dx t _ _ h1 f1 h2 f2 h3 len_NoShape upd_same (by rw [upd_ne h2, upd_same]; rfl) (by rw [upd_ne f2, upd_ne (Ne.symm h3), upd_ne f2, upd_same]) fun b hb1 hb2 hb3 => ?_
    rw [upd_ne hb1, upd_ne hb2, upd_ne hb1, upd_ne hb3]
theorem sc_Lacks : FnScope ["self", "key"] ["self", "key"] (defScope (inClass (top 14) 0)) := ⟨rfl, rfl, rfl, by decide +kernel, rfl, by decide +kernel, by decide +kernel⟩
theorem len_Lacks : (PySem.reprText "the key is not there").length ≤ 1000 := by decide +kernel
theorem ok_Lacks {C TT fI : Addr} {fd : FuncData} (x : ExI K mg C TT fI fd "Lacks" "Lacks.__init__" (inClass (top 14) 0) ["key"]) : FnOk P w K mg base CX0 1 fI fd ["self", "key"] (spInit C ["key"]) := by
  refine x.fn.ok sc_Lacks (fun vs H Q E h => ?_) (fun cdv A outer s H vs Q E hr h => ?_)
  · obtain ⟨_, ws, rfl, hl, _⟩ := h
    show ws.length + 1 = _
    rw [hl]
    rfl
  · obtain ⟨e, ws, rfl, hl, he, k⟩ := h
    match ws, hl with
    | [v], _ =>
    refine ⟨_, (pss_cons (ps_expr (pe_baseInit x.f x.b rfl x.mT (pa_cons (pv 0) (pa_cons pe_str pa_nil)))) (pss_one (ps_exf x.f (pv 0) (pv 1) rfl))), ?_⟩
    refine ⟨_, rfl, e, none, none, _, rfl, (by show 1 ≤ sizeLine; decide), he, fun t f1 f2 => ?_⟩
    refine ⟨_, rfl, _, rfl, e, _, rfl, upd_same, x.no _ (by simp), fun dx h1 h2 => ?_⟩
    rw [upd_ne h2] at h1
    have h3 : dx ≠ t := (ne_of_none upd_same h1).symm
    rw [upd_ne h3] at h1
    refine k dx t _ _ h1 f1 h2 f2 h3 len_Lacks upd_same (by rw [upd_ne h2, upd_same]; rfl) (by rw [upd_ne f2, upd_ne (Ne.symm h3), upd_ne f2, upd_same]) fun b hb1 hb2 hb3 => ?_
    rw [upd_ne hb1, upd_ne hb2, upd_ne hb1, upd_ne hb3]
theorem sc_Has : FnScope ["self", "key"] ["self", "key"] (defScope (inClass (top 15) 0)) := ⟨rfl, rfl, rfl, by decide +kernel, rfl, by decide +kernel, by decide +kernel⟩
theorem len_Has : (PySem.reprText "the key is there already").length ≤ 1000 := by decide +kernel
theorem ok_Has {C TT fI : Addr} {fd : FuncData} (x : ExI K mg C TT fI fd "Has" "Has.__init__" (inClass (top 15) 0) ["key"]) : FnOk P w K mg base CX0 1 fI fd ["self", "key"] (spInit C ["key"]) := by
  refine x.fn.ok sc_Has (fun vs H Q E h => ?_) (fun cdv A outer s H vs Q E hr h => ?_)
  · obtain ⟨_, ws, rfl, hl, _⟩ := h
    show ws.length + 1 = _
    rw [hl]
    rfl
  · obtain ⟨e, ws, rfl, hl, he, k⟩ := h
    match ws, hl with
    | [v], _ =>
    refine ⟨_, (pss_cons (ps_expr (pe_baseInit x.f x.b rfl x.mT (pa_cons (pv 0) (pa_cons pe_str pa_nil)))) (pss_one (ps_exf x.f (pv 0) (pv 1) rfl))), ?_⟩
    refine ⟨_, rfl, e, none, none, _, rfl, (by show 1 ≤ sizeLine; decide), he, fun t f1 f2 => ?_⟩
    refine ⟨_, rfl, _, rfl, e, _, rfl, upd_same, x.no _ (by simp), fun dx h1 h2 => ?_⟩
    rw [upd_ne h2] at h1
    have h3 : dx ≠ t := (ne_of_none upd_same h1).symm
    rw [upd_ne h3] at h1
    refine k dx t _ _ h1 f1 h2 f2 h3 len_Has upd_same (by rw [upd_ne h2, upd_same]; rfl) (by rw [upd_ne f2, upd_ne (Ne.symm h3), upd_ne f2, upd_same]) fun b hb1 hb2 hb3 => ?_
    rw [upd_ne hb1, upd_ne hb2, upd_ne hb1, upd_ne hb3]
theorem sc_NoJoin : FnScope ["self", "key"] ["self", "key"] (defScope (inClass (top 16) 0)) := ⟨rfl, rfl, rfl, by decide +kernel, rfl, by decide +kernel, by decide +kernel⟩
theorem len_NoJoin : (PySem.reprText "the key does not stand between the pages").length ≤ 1000 := by decide +kernel
theorem ok_NoJoin {C TT fI : Addr} {fd : FuncData} (x : ExI K mg C TT fI fd "NoJoin" "NoJoin.__init__" (inClass (top 16) 0) ["key"]) : FnOk P w K mg base CX0 1 fI fd ["self", "key"] (spInit C ["key"]) := by
  refine x.fn.ok sc_NoJoin (fun vs H Q E h => ?_) (fun cdv A outer s H vs Q E hr h => ?_)
  · obtain ⟨_, ws, rfl, hl, _⟩ := h
    show ws.length + 1 = _
    rw [hl]
    rfl
  · obtain ⟨e, ws, rfl, hl, he, k⟩ := h
    match ws, hl with
    | [v], _ =>
    refine ⟨_, (pss_cons (ps_expr (pe_baseInit x.f x.b rfl x.mT (pa_cons (pv 0) (pa_cons pe_str pa_nil)))) (pss_one (ps_exf x.f (pv 0) (pv 1) rfl))), ?_⟩
    refine ⟨_, rfl, e, none, none, _, rfl, (by show 1 ≤ sizeLine; decide), he, fun t f1 f2 => ?_⟩
    refine ⟨_, rfl, _, rfl, e, _, rfl, upd_same, x.no _ (by simp), fun dx h1 h2 => ?_⟩
    rw [upd_ne h2] at h1
    have h3 : dx ≠ t := (ne_of_none upd_same h1).symm
    rw [upd_ne h3] at h1
    refine k dx t _ _ h1 f1 h2 f2 h3 len_NoJoin upd_same (by rw [upd_ne h2, upd_same]; rfl) (by rw [upd_ne f2, upd_ne (Ne.symm h3), upd_ne f2, upd_same]) fun b hb1 hb2 hb3 => ?_
    rw [upd_ne hb1, upd_ne hb2, upd_ne hb1, upd_ne hb3]
theorem sc_TooMany : FnScope ["self", "count"] ["self", "count"] (defScope (inClass (top 17) 0)) := ⟨rfl, rfl, rfl, by decide +kernel, rfl, by decide +kernel, by decide +kernel⟩
theorem len_TooMany : (PySem.reprText "there are too many").length ≤ 1000 := by decide +kernel
theorem ok_TooMany {C TT fI : Addr} {fd : FuncData} (x : ExI K mg C TT fI fd "TooMany" "TooMany.__init__" (inClass (top 17) 0) ["count"]) : FnOk P w K mg base CX0 1 fI fd ["self", "count"] (spInit C ["count"]) := by
  refine x.fn.ok sc_TooMany (fun vs H Q E h => ?_) (fun cdv A outer s H vs Q E hr h => ?_)
  · obtain ⟨_, ws, rfl, hl, _⟩ := h
    show ws.length + 1 = _
    rw [hl]
    rfl
  · obtain ⟨e, ws, rfl, hl, he, k⟩ := h
    match ws, hl with
    | [v], _ =>
    refine ⟨_, (pss_cons (ps_expr (pe_baseInit x.f x.b rfl x.mT (pa_cons (pv 0) (pa_cons pe_str pa_nil)))) (pss_one (ps_exf x.f (pv 0) (pv 1) rfl))), ?_⟩
    refine ⟨_, rfl, e, none, none, _, rfl, (by show 1 ≤ sizeLine; decide), he, fun t f1 f2 => ?_⟩
    refine ⟨_, rfl, _, rfl, e, _, rfl, upd_same, x.no _ (by simp), fun dx h1 h2 => ?_⟩
    rw [upd_ne h2] at h1
    have h3 : dx ≠ t := (ne_of_none upd_same h1).symm
    rw [upd_ne h3] at h1
    refine k dx t _ _ h1 f1 h2 f2 h3 len_TooMany upd_same (by rw [upd_ne h2, upd_same]; rfl) (by rw [upd_ne f2, upd_ne (Ne.symm h3), upd_ne f2, upd_same]) fun b hb1 hb2 hb3 => ?_
    rw [upd_ne hb1, upd_ne hb2, upd_ne hb1, upd_ne hb3]
theorem sc_TooFew : FnScope ["self", "count"] ["self", "count"] (defScope (inClass (top 18) 0)) := ⟨rfl, rfl, rfl, by decide +kernel, rfl, by decide +kernel, by decide +kernel⟩
theorem len_TooFew : (PySem.reprText "there are too few").length ≤ 1000 := by decide +kernel
theorem ok_TooFew {C TT fI : Addr} {fd : FuncData} (x : ExI K mg C TT fI fd "TooFew" "TooFew.__init__" (inClass (top 18) 0) ["count"]) : FnOk P w K mg base CX0 1 fI fd ["self", "count"] (spInit C ["count"]) := by
  refine x.fn.ok sc_TooFew (fun vs H Q E h => ?_) (fun cdv A outer s H vs Q E hr h => ?_)
  · obtain ⟨_, ws, rfl, hl, _⟩ := h
    show ws.length + 1 = _
    rw [hl]
    rfl
  · obtain ⟨e, ws, rfl, hl, he, k⟩ := h
    match ws, hl with
    | [v], _ =>
    refine ⟨_, (pss_cons (ps_expr (pe_baseInit x.f x.b rfl x.mT (pa_cons (pv 0) (pa_cons pe_str pa_nil)))) (pss_one (ps_exf x.f (pv 0) (pv 1) rfl))), ?_⟩
    refine ⟨_, rfl, e, none, none, _, rfl, (by show 1 ≤ sizeLine; decide), he, fun t f1 f2 => ?_⟩
    refine ⟨_, rfl, _, rfl, e, _, rfl, upd_same, x.no _ (by simp), fun dx h1 h2 => ?_⟩
    rw [upd_ne h2] at h1
    have h3 : dx ≠ t := (ne_of_none upd_same h1).symm
    rw [upd_ne h3] at h1
    refine k dx t _ _ h1 f1 h2 f2 h3 len_TooFew upd_same (by rw [upd_ne h2, upd_same]; rfl) (by rw [upd_ne f2, upd_ne (Ne.symm h3), upd_ne f2, upd_same]) fun b hb1 hb2 hb3 => ?_
    rw [upd_ne hb1, upd_ne hb2, upd_ne hb1, upd_ne hb3]
theorem sc_Gone : FnScope ["self", "place"] ["self", "place"] (defScope (inClass (top 23) 0)) := ⟨rfl, rfl, rfl, by decide +kernel, rfl, by decide +kernel, by decide +kernel⟩
theorem len_Gone : (PySem.reprText "the node is gone").length ≤ 1000 := by decide +kernel
theorem ok_Gone {C TT fI : Addr} {fd : FuncData} (x : ExI K mg C TT fI fd "Gone" "Gone.__init__" (inClass (top 23) 0) ["place"]) : FnOk P w K mg base CX0 1 fI fd ["self", "place"] (spInit C ["place"]) := by
  refine x.fn.ok sc_Gone (fun vs H Q E h => ?_) (fun cdv A outer s H vs Q E hr h => ?_)
  · obtain ⟨_, ws, rfl, hl, _⟩ := h
    show ws.length + 1 = _
    rw [hl]
    rfl
  · obtain ⟨e, ws, rfl, hl, he, k⟩ := h
    match ws, hl with
    | [v], _ =>
    refine ⟨_, (pss_cons (ps_expr (pe_baseInit x.f x.b rfl x.mT (pa_cons (pv 0) (pa_cons pe_str pa_nil)))) (pss_one (ps_exf x.f (pv 0) (pv 1) rfl))), ?_⟩
    refine ⟨_, rfl, e, none, none, _, rfl, (by show 1 ≤ sizeLine; decide), he, fun t f1 f2 => ?_⟩
    refine ⟨_, rfl, _, rfl, e, _, rfl, upd_same, x.no _ (by simp), fun dx h1 h2 => ?_⟩
    rw [upd_ne h2] at h1
    have h3 : dx ≠ t := (ne_of_none upd_same h1).symm
    rw [upd_ne h3] at h1
    refine k dx t _ _ h1 f1 h2 f2 h3 len_Gone upd_same (by rw [upd_ne h2, upd_same]; rfl) (by rw [upd_ne f2, upd_ne (Ne.symm h3), upd_ne f2, upd_same]) fun b hb1 hb2 hb3 => ?_
    rw [upd_ne hb1, upd_ne hb2, upd_ne hb1, upd_ne hb3]
theorem sc_Ended : FnScope ["self", "doer"] ["self", "doer"] (defScope (inClass (top 25) 0)) := ⟨rfl, rfl, rfl, by decide +kernel, rfl, by decide +kernel, by decide +kernel⟩
theorem len_Ended : (PySem.reprText "the call has ended").length ≤ 1000 := by decide +kernel
theorem ok_Ended {C TT fI : Addr} {fd : FuncData} (x : ExI K mg C TT fI fd "Ended" "Ended.__init__" (inClass (top 25) 0) ["doer"]) : FnOk P w K mg base CX0 1 fI fd ["self", "doer"] (spInit C ["doer"]) := by
  refine x.fn.ok sc_Ended (fun vs H Q E h => ?_) (fun cdv A outer s H vs Q E hr h => ?_)
  · obtain ⟨_, ws, rfl, hl, _⟩ := h
    show ws.length + 1 = _
    rw [hl]
    rfl
  · obtain ⟨e, ws, rfl, hl, he, k⟩ := h
    match ws, hl with
    | [v], _ =>
    refine ⟨_, (pss_cons (ps_expr (pe_baseInit x.f x.b rfl x.mT (pa_cons (pv 0) (pa_cons pe_str pa_nil)))) (pss_one (ps_exf x.f (pv 0) (pv 1) rfl))), ?_⟩
    refine ⟨_, rfl, e, none, none, _, rfl, (by show 1 ≤ sizeLine; decide), he, fun t f1 f2 => ?_⟩
    refine ⟨_, rfl, _, rfl, e, _, rfl, upd_same, x.no _ (by simp), fun dx h1 h2 => ?_⟩
    rw [upd_ne h2] at h1
    have h3 : dx ≠ t := (ne_of_none upd_same h1).symm
    rw [upd_ne h3] at h1
    refine k dx t _ _ h1 f1 h2 f2 h3 len_Ended upd_same (by rw [upd_ne h2, upd_same]; rfl) (by rw [upd_ne f2, upd_ne (Ne.symm h3), upd_ne f2, upd_same]) fun b hb1 hb2 hb3 => ?_
    rw [upd_ne hb1, upd_ne hb2, upd_ne hb1, upd_ne hb3]
theorem sc_Going : FnScope ["self", "doer"] ["self", "doer"] (defScope (inClass (top 26) 0)) := ⟨rfl, rfl, rfl, by decide +kernel, rfl, by decide +kernel, by decide +kernel⟩
theorem len_Going : (PySem.reprText "the call has not ended").length ≤ 1000 := by decide +kernel
theorem ok_Going {C TT fI : Addr} {fd : FuncData} (x : ExI K mg C TT fI fd "Going" "Going.__init__" (inClass (top 26) 0) ["doer"]) : FnOk P w K mg base CX0 1 fI fd ["self", "doer"] (spInit C ["doer"]) := by
  refine x.fn.ok sc_Going (fun vs H Q E h => ?_) (fun cdv A outer s H vs Q E hr h => ?_)
  · obtain ⟨_, ws, rfl, hl, _⟩ := h
    show ws.length + 1 = _
    rw [hl]
    rfl
  · obtain ⟨e, ws, rfl, hl, he, k⟩ := h
    match ws, hl with
    | [v], _ =>
    refine ⟨_, (pss_cons (ps_expr (pe_baseInit x.f x.b rfl x.mT (pa_cons (pv 0) (pa_cons pe_str pa_nil)))) (pss_one (ps_exf x.f (pv 0) (pv 1) rfl))), ?_⟩
    refine ⟨_, rfl, e, none, none, _, rfl, (by show 1 ≤ sizeLine; decide), he, fun t f1 f2 => ?_⟩
    refine ⟨_, rfl, _, rfl, e, _, rfl, upd_same, x.no _ (by simp), fun dx h1 h2 => ?_⟩
    rw [upd_ne h2] at h1
    have h3 : dx ≠ t := (ne_of_none upd_same h1).symm
    rw [upd_ne h3] at h1
    refine k dx t _ _ h1 f1 h2 f2 h3 len_Going upd_same (by rw [upd_ne h2, upd_same]; rfl) (by rw [upd_ne f2, upd_ne (Ne.symm h3), upd_ne f2, upd_same]) fun b hb1 hb2 hb3 => ?_
    rw [upd_ne hb1, upd_ne hb2, upd_ne hb1, upd_ne hb3]
theorem sc_BadLine : FnScope ["self", "row"] ["self", "row"] (defScope (inClass (top 29) 0)) := ⟨rfl, rfl, rfl, by decide +kernel, rfl, by decide +kernel, by decide +kernel⟩
theorem len_BadLine : (PySem.reprText "a row is not as it should be").length ≤ 1000 := by decide +kernel
theorem ok_BadLine {C TT fI : Addr} {fd : FuncData} (x : ExI K mg C TT fI fd "BadLine" "BadLine.__init__" (inClass (top 29) 0) ["row"]) : FnOk P w K mg base CX0 1 fI fd ["self", "row"] (spInit C ["row"]) := by
  refine x.fn.ok sc_BadLine (fun vs H Q E h => ?_) (fun cdv A outer s H vs Q E hr h => ?_)
  · obtain ⟨_, ws, rfl, hl, _⟩ := h
    show ws.length + 1 = _
    rw [hl]
    rfl
  · obtain ⟨e, ws, rfl, hl, he, k⟩ := h
    match ws, hl with
    | [v], _ =>
    refine ⟨_, (pss_cons (ps_expr (pe_baseInit x.f x.b rfl x.mT (pa_cons (pv 0) (pa_cons pe_str pa_nil)))) (pss_one (ps_exf x.f (pv 0) (pv 1) rfl))), ?_⟩
    refine ⟨_, rfl, e, none, none, _, rfl, (by show 1 ≤ sizeLine; decide), he, fun t f1 f2 => ?_⟩
    refine ⟨_, rfl, _, rfl, e, _, rfl, upd_same, x.no _ (by simp), fun dx h1 h2 => ?_⟩
    rw [upd_ne h2] at h1
    have h3 : dx ≠ t := (ne_of_none upd_same h1).symm
    rw [upd_ne h3] at h1
    refine k dx t _ _ h1 f1 h2 f2 h3 len_BadLine upd_same (by rw [upd_ne h2, upd_same]; rfl) (by rw [upd_ne f2, upd_ne (Ne.symm h3), upd_ne f2, upd_same]) fun b hb1 hb2 hb3 => ?_
    rw [upd_ne hb1, upd_ne hb2, upd_ne hb1, upd_ne hb3]
theorem sc_NoSpan : FnScope ["self", "low", "high"] ["self", "low", "high"] (defScope (inClass (top 19) 0)) := ⟨rfl, rfl, rfl, by decide +kernel, rfl, by decide +kernel, by decide +kernel⟩
theorem len_NoSpan : (PySem.reprText "the high key is not above the low one").length ≤ 1000 := by decide +kernel
theorem ok_NoSpan {C TT fI : Addr} {fd : FuncData} (x : ExI K mg C TT fI fd "NoSpan" "NoSpan.__init__" (inClass (top 19) 0) ["low", "high"]) : FnOk P w K mg base CX0 1 fI fd ["self", "low", "high"] (spInit C ["low", "high"]) := by
  refine x.fn.ok sc_NoSpan (fun vs H Q E h => ?_) (fun cdv A outer s H vs Q E hr h => ?_)
  · obtain ⟨_, ws, rfl, hl, _⟩ := h
    show ws.length + 1 = _
    rw [hl]
    rfl
  · obtain ⟨e, ws, rfl, hl, he, k⟩ := h
    match ws, hl with
    | [v, v'], _ =>
    refine ⟨_, (pss_cons (ps_expr (pe_baseInit x.f x.b rfl x.mT (pa_cons (pv 0) (pa_cons pe_str pa_nil)))) (pss_cons (ps_exf x.f (pv 0) (pv 1) rfl) (pss_one (ps_exf2 x.f (pv 0) (pv 2) rfl)))), ?_⟩
    refine ⟨_, rfl, e, none, none, _, rfl, (by show 1 ≤ sizeLine; decide), he, fun t f1 f2 => ?_⟩
    refine ⟨_, rfl, _, rfl, e, _, rfl, upd_same, x.no _ (by simp), fun dx h1 h2 => ?_⟩
    rw [upd_ne h2] at h1
    have h3 : dx ≠ t := (ne_of_none upd_same h1).symm
    rw [upd_ne h3] at h1
    refine ⟨_, rfl, _, rfl, e, dx, _, _, rfl, upd_same, (by rw [upd_ne h2]; exact upd_same), (by show 1 < 1000; decide), x.no _ (by simp), ?_⟩
    refine k dx t _ _ h1 f1 h2 f2 h3 len_NoSpan (by rw [upd_ne (Ne.symm h2), upd_same]) upd_same (by rw [upd_ne (Ne.symm h3), upd_ne f2, upd_ne (Ne.symm h3), upd_ne f2, upd_same]) fun b hb1 hb2 hb3 => ?_
    rw [upd_ne hb2, upd_ne hb1, upd_ne hb2, upd_ne hb1, upd_ne hb3]
theorem sc_NoEdge : FnScope ["self", "high", "right"] ["self", "high", "right"] (defScope (inClass (top 20) 0)) := ⟨rfl, rfl, rfl, by decide +kernel, rfl, by decide +kernel, by decide +kernel⟩
theorem len_NoEdge : (PySem.reprText "these are no high and right of a node").length ≤ 1000 := by decide +kernel
theorem ok_NoEdge {C TT fI : Addr} {fd : FuncData} (x : ExI K mg C TT fI fd "NoEdge" "NoEdge.__init__" (inClass (top 20) 0) ["high", "right"]) : FnOk P w K mg base CX0 1 fI fd ["self", "high", "right"] (spInit C ["high", "right"]) := by
  refine x.fn.ok sc_NoEdge (fun vs H Q E h => ?_) (fun cdv A outer s H vs Q E hr h => ?_)
  · obtain ⟨_, ws, rfl, hl, _⟩ := h
    show ws.length + 1 = _
    rw [hl]
    rfl
  · obtain ⟨e, ws, rfl, hl, he, k⟩ := h
    match ws, hl with
    | [v, v'], _ =>
    refine ⟨_, (pss_cons (ps_expr (pe_baseInit x.f x.b rfl x.mT (pa_cons (pv 0) (pa_cons pe_str pa_nil)))) (pss_cons (ps_exf x.f (pv 0) (pv 1) rfl) (pss_one (ps_exf2 x.f (pv 0) (pv 2) rfl)))), ?_⟩
    refine ⟨_, rfl, e, none, none, _, rfl, (by show 1 ≤ sizeLine; decide), he, fun t f1 f2 => ?_⟩
    refine ⟨_, rfl, _, rfl, e, _, rfl, upd_same, x.no _ (by simp), fun dx h1 h2 => ?_⟩
    rw [upd_ne h2] at h1
    have h3 : dx ≠ t := (ne_of_none upd_same h1).symm
    rw [upd_ne h3] at h1
    refine ⟨_, rfl, _, rfl, e, dx, _, _, rfl, upd_same, (by rw [upd_ne h2]; exact upd_same), (by show 1 < 1000; decide), x.no _ (by simp), ?_⟩
    refine k dx t _ _ h1 f1 h2 f2 h3 len_NoEdge (by rw [upd_ne (Ne.symm h2), upd_same]) upd_same (by rw [upd_ne (Ne.symm h3), upd_ne f2, upd_ne (Ne.symm h3), upd_ne f2, upd_same]) fun b hb1 hb2 hb3 => ?_
    rw [upd_ne hb2, upd_ne hb1, upd_ne hb2, upd_ne hb1, upd_ne hb3]
theorem sc_Held : FnScope ["self", "place", "holder"] ["self", "place", "holder"] (defScope (inClass (top 21) 0)) := ⟨rfl, rfl, rfl, by decide +kernel, rfl, by decide +kernel, by decide +kernel⟩
theorem len_Held : (PySem.reprText "the node is held").length ≤ 1000 := by decide +kernel
theorem ok_Held {C TT fI : Addr} {fd : FuncData} (x : ExI K mg C TT fI fd "Held" "Held.__init__" (inClass (top 21) 0) ["place", "holder"]) : FnOk P w K mg base CX0 1 fI fd ["self", "place", "holder"] (spInit C ["place", "holder"]) := by
  refine x.fn.ok sc_Held (fun vs H Q E h => ?_) (fun cdv A outer s H vs Q E hr h => ?_)
  · obtain ⟨_, ws, rfl, hl, _⟩ := h
    show ws.length + 1 = _
    rw [hl]
    rfl
  · obtain ⟨e, ws, rfl, hl, he, k⟩ := h
    match ws, hl with
    | [v, v'], _ =>
    refine ⟨_, (pss_cons (ps_expr (pe_baseInit x.f x.b rfl x.mT (pa_cons (pv 0) (pa_cons pe_str pa_nil)))) (pss_cons (ps_exf x.f (pv 0) (pv 1) rfl) (pss_one (ps_exf2 x.f (pv 0) (pv 2) rfl)))), ?_⟩
    refine ⟨_, rfl, e, none, none, _, rfl, (by show 1 ≤ sizeLine; decide), he, fun t f1 f2 => ?_⟩
    refine ⟨_, rfl, _, rfl, e, _, rfl, upd_same, x.no _ (by simp), fun dx h1 h2 => ?_⟩
    rw [upd_ne h2] at h1
    have h3 : dx ≠ t := (ne_of_none upd_same h1).symm
    rw [upd_ne h3] at h1
    refine ⟨_, rfl, _, rfl, e, dx, _, _, rfl, upd_same, (by rw [upd_ne h2]; exact upd_same), (by show 1 < 1000; decide), x.no _ (by simp), ?_⟩
    refine k dx t _ _ h1 f1 h2 f2 h3 len_Held (by rw [upd_ne (Ne.symm h2), upd_same]) upd_same (by rw [upd_ne (Ne.symm h3), upd_ne f2, upd_ne (Ne.symm h3), upd_ne f2, upd_same]) fun b hb1 hb2 hb3 => ?_
    rw [upd_ne hb2, upd_ne hb1, upd_ne hb2, upd_ne hb1, upd_ne hb3]
theorem sc_NotHeld : FnScope ["self", "place", "doer"] ["self", "place", "doer"] (defScope (inClass (top 22) 0)) := ⟨rfl, rfl, rfl, by decide +kernel, rfl, by decide +kernel, by decide +kernel⟩
theorem len_NotHeld : (PySem.reprText "the node is not held by this doer").length ≤ 1000 := by decide +kernel
theorem ok_NotHeld {C TT fI : Addr} {fd : FuncData} (x : ExI K mg C TT fI fd "NotHeld" "NotHeld.__init__" (inClass (top 22) 0) ["place", "doer"]) : FnOk P w K mg base CX0 1 fI fd ["self", "place", "doer"] (spInit C ["place", "doer"]) := by
  refine x.fn.ok sc_NotHeld (fun vs H Q E h => ?_) (fun cdv A outer s H vs Q E hr h => ?_)
  · obtain ⟨_, ws, rfl, hl, _⟩ := h
    show ws.length + 1 = _
    rw [hl]
    rfl
  · obtain ⟨e, ws, rfl, hl, he, k⟩ := h
    match ws, hl with
    | [v, v'], _ =>
    refine ⟨_, (pss_cons (ps_expr (pe_baseInit x.f x.b rfl x.mT (pa_cons (pv 0) (pa_cons pe_str pa_nil)))) (pss_cons (ps_exf x.f (pv 0) (pv 1) rfl) (pss_one (ps_exf2 x.f (pv 0) (pv 2) rfl)))), ?_⟩
    refine ⟨_, rfl, e, none, none, _, rfl, (by show 1 ≤ sizeLine; decide), he, fun t f1 f2 => ?_⟩
    refine ⟨_, rfl, _, rfl, e, _, rfl, upd_same, x.no _ (by simp), fun dx h1 h2 => ?_⟩
    rw [upd_ne h2] at h1
    have h3 : dx ≠ t := (ne_of_none upd_same h1).symm
    rw [upd_ne h3] at h1
    refine ⟨_, rfl, _, rfl, e, dx, _, _, rfl, upd_same, (by rw [upd_ne h2]; exact upd_same), (by show 1 < 1000; decide), x.no _ (by simp), ?_⟩
    refine k dx t _ _ h1 f1 h2 f2 h3 len_NotHeld (by rw [upd_ne (Ne.symm h2), upd_same]) upd_same (by rw [upd_ne (Ne.symm h3), upd_ne f2, upd_ne (Ne.symm h3), upd_ne f2, upd_same]) fun b hb1 hb2 hb3 => ?_
    rw [upd_ne hb2, upd_ne hb1, upd_ne hb2, upd_ne hb1, upd_ne hb3]
theorem sc_Waits : FnScope ["self", "doer", "place"] ["self", "doer", "place"] (defScope (inClass (top 27) 0)) := ⟨rfl, rfl, rfl, by decide +kernel, rfl, by decide +kernel, by decide +kernel⟩
theorem len_Waits : (PySem.reprText "the doer waits").length ≤ 1000 := by decide +kernel
theorem ok_Waits {C TT fI : Addr} {fd : FuncData} (x : ExI K mg C TT fI fd "Waits" "Waits.__init__" (inClass (top 27) 0) ["doer", "place"]) : FnOk P w K mg base CX0 1 fI fd ["self", "doer", "place"] (spInit C ["doer", "place"]) := by
  refine x.fn.ok sc_Waits (fun vs H Q E h => ?_) (fun cdv A outer s H vs Q E hr h => ?_)
  · obtain ⟨_, ws, rfl, hl, _⟩ := h
    show ws.length + 1 = _
    rw [hl]
    rfl
  · obtain ⟨e, ws, rfl, hl, he, k⟩ := h
    match ws, hl with
    | [v, v'], _ =>
    refine ⟨_, (pss_cons (ps_expr (pe_baseInit x.f x.b rfl x.mT (pa_cons (pv 0) (pa_cons pe_str pa_nil)))) (pss_cons (ps_exf x.f (pv 0) (pv 1) rfl) (pss_one (ps_exf2 x.f (pv 0) (pv 2) rfl)))), ?_⟩
    refine ⟨_, rfl, e, none, none, _, rfl, (by show 1 ≤ sizeLine; decide), he, fun t f1 f2 => ?_⟩
    refine ⟨_, rfl, _, rfl, e, _, rfl, upd_same, x.no _ (by simp), fun dx h1 h2 => ?_⟩
    rw [upd_ne h2] at h1
    have h3 : dx ≠ t := (ne_of_none upd_same h1).symm
    rw [upd_ne h3] at h1
    refine ⟨_, rfl, _, rfl, e, dx, _, _, rfl, upd_same, (by rw [upd_ne h2]; exact upd_same), (by show 1 < 1000; decide), x.no _ (by simp), ?_⟩
    refine k dx t _ _ h1 f1 h2 f2 h3 len_Waits (by rw [upd_ne (Ne.symm h2), upd_same]) upd_same (by rw [upd_ne (Ne.symm h3), upd_ne f2, upd_ne (Ne.symm h3), upd_ne f2, upd_same]) fun b hb1 hb2 hb3 => ?_
    rw [upd_ne hb2, upd_ne hb1, upd_ne hb2, upd_ne hb1, upd_ne hb3]
end
end K02

set_option Elab.async false
set_option linter.all false
set_option maxRecDepth 100000
set_option maxHeartbeats 4000000
namespace K02
open PySem L2
structure Kd (P : Program) (w : World) (K : PySem.W.Frag) (mg : Str → Option Value) (base : Heap) (c : Nat → Addr) (TT : Addr) (i : Nat) : Prop where
  ex : ∃ fI fd, ExF K (c i) TT fI ∧ FnOk P w K mg base CX0 1 fI fd ("self" :: cf i) (spInit (c i) (cf i)) ∧ Binds K fd ("self" :: cf i) []
  g : ExG K (c i)
  m : mg (cn i) = some (.ref (c i))
  no : ∀ f ∈ cf i, NoAttr K (c i) f
structure All (P : Program) (w : World) (K : PySem.W.Frag) (mg : Str → Option Value) (base : Heap) (c : Nat → Addr) (TT : Addr) : Prop where
  k : ∀ i, i < 29 → Kd P w K mg base c TT i
  one : ∀ i j, i < 29 → j < 29 → PySem.W.kitOne K (.ref (c i)) (.ref (c j)) = some (decide (i = j))
  top : ∀ i, i < 29 → PySem.W.kitOne K (.ref (c i)) (.ref TT) = some true
  val : ∀ i, i < 29 → PySem.W.kitOne K (.ref (c i)) (.type "ValueError") = some true
  xt : ExT K TT
  gt : ExG K TT
  mt : mg "TreeError" = some (.ref TT)
  tone : ∀ j, j < 29 → PySem.W.kitOne K (.ref TT) (.ref (c j)) = some false
  tval : PySem.W.kitOne K (.ref TT) (.type "ValueError") = some true
  told : ExS K (c 0) "NoKey"
/-- an error of the i-th kind stands at e, its fields hold ws -/
def Err (c : Nat → Addr) (H : Hp) (i : Nat) (e : Addr) (ws : List V) : Prop := ∃ (dx t : Addr) (txt : Str), H e = some (ExO (c i) e (some dx) (some t)) ∧ H dx = some (XdO dx ((cf i).zip ws)) ∧ H t = some (.tup [.str txt]) ∧ (PySem.reprText txt).length ≤ 1000 ∧ ws.length = (cf i).length
theorem Err.same {c : Nat → Addr} {H H' : Hp} {i : Nat} {e : Addr} {ws : List V} (x : Err c H i e ws) (s : Same H H') : Err c H' i e ws :=
  let ⟨dx, t, txt, a, b, d, r⟩ := x; ⟨dx, t, txt, s _ _ a, s _ _ b, s _ _ d, r⟩
theorem err_mk {c : Nat → Addr} {H H' : Hp} {i : Nat} {e : Addr} {ws : List V} {o : HO} {dx t : Addr} {txt : Str} (he : H e = none) (h1 : upd H e o dx = none) (h2 : upd H e o t = none) (n1 : dx ≠ e) (n2 : t ≠ e) (n3 : dx ≠ t) (hz : (PySem.reprText txt).length ≤ 1000)
    (a : H' e = some (ExO (c i) e (some dx) (some t))) (b : H' dx = some (XdO dx ((cf i).zip ws))) (d : H' t = some (.tup [.str txt])) (r : ∀ b, b ≠ e → b ≠ dx → b ≠ t → H' b = upd H e o b) (hw : ws.length = (cf i).length) : Err c H' i e ws ∧ Same H H' := by
  refine ⟨⟨dx, t, txt, a, b, d, hz, hw⟩, fun y u q => ?_⟩
  rw [upd_ne n1] at h1
  rw [upd_ne n2] at h2
  have y1 : y ≠ e := ne_of_none q he
  rw [r y y1 (ne_of_none q h1) (ne_of_none q h2), upd_ne y1]
  exact q
def spOne (c : Nat → Addr) : Sp := fun vs H Q _ => ∃ (way : Nat) (v : V), vs = [.int way, v] ∧ way < 15 ∧ ∀ (e : Addr) (H' : Hp), H e = none → Err c H' way e [v] → Same H H' → Q (.ref e) H'
def spMore (c : Nat → Addr) : Sp := fun vs H Q _ => ∃ (z : Int) (way : Nat) (v w : V), vs = [.int z, v, w] ∧ z = way ∧ way < 14 ∧ ∀ (e : Addr) (H' : Hp), H e = none → Err c H' (15 + way) e (if way < 9 then [v] else [v, w]) → Same H H' → Q (.ref e) H'
def spMade (c : Nat → Addr) : Sp := fun vs H Q _ => ∃ (z : Int) (way : Nat) (v w : V), vs = [.int z, v, w] ∧ z = way ∧ way < 29 ∧ ∀ (e : Addr) (H' : Hp), H e = none → Err c H' way e (if way < 24 then [v] else [v, w]) → Same H H' → Q (.ref e) H'
theorem ne_way {z : Int} {way : Nat} {j : Int} (e : z = way) (h : ¬ decide (V.int z = V.int j) = true) : (way : Int) ≠ j := fun q => h (decide_eq_true (by rw [e, q]))
theorem eq_way {z : Int} {way : Nat} {j : Int} (e : z = way) (h : decide (V.int z = V.int j) = true) : (way : Int) = j := by rw [← e]; exact V.int.inj (of_decide_eq_true h)
section
variable {P : Program} {w : World} {K : PySem.W.Frag} {mg : Str → Option Value} {base : Heap} {c : Nat → Addr} {TT : Addr}
abbrev s__law_one : Stmt := top 36
theorem sc__law_one : FnScope ["_law_way", "_law_thing_here"] ["_law_way", "_law_thing_here"] (defScope s__law_one) := ⟨rfl, rfl, rfl, by decide +kernel, rfl, by decide +kernel, by decide +kernel⟩
theorem ok_one (hd : ∃ f fd, Dn K mg "_law_one" "_law_one" s__law_one ["_law_way", "_law_thing_here"] f fd) (T : Txt K mg) (Z : All P w K mg base c TT) : OkD P w K mg base "_law_one" s__law_one ["_law_way", "_law_thing_here"] 3 (spOne c) := by
  obtain ⟨f, fd, D⟩ := hd
  refine ⟨f, fd, D, D.fn.ok sc__law_one (fun vs H Q E h => ?_) (fun cdv A outer s H vs Q E hr h => ?_)⟩
  · obtain ⟨_, _, rfl, _⟩ := h
    rfl
  · obtain ⟨way, v, rfl, hway, k⟩ := h
    have ez : (way : Int) = way := rfl
    obtain ⟨fI_NoKey, fd_NoKey, XNoKey, GNoKey, BNoKey⟩ := (Z.k 0 (by decide)).ex
    have MNoKey : mg "NoKey" = some (.ref (c 0)) := (Z.k 0 (by decide)).m
    replace GNoKey : FnOk P w K mg base CX0 1 fI_NoKey fd_NoKey ["self", "found"] (spInit (c 0) ["found"]) := GNoKey
    replace BNoKey : Binds K fd_NoKey ["self", "found"] [] := BNoKey
    obtain ⟨fI_NoGood, fd_NoGood, XNoGood, GNoGood, BNoGood⟩ := (Z.k 1 (by decide)).ex
    have MNoGood : mg "NoGood" = some (.ref (c 1)) := (Z.k 1 (by decide)).m
    replace GNoGood : FnOk P w K mg base CX0 1 fI_NoGood fd_NoGood ["self", "found"] (spInit (c 1) ["found"]) := GNoGood
    replace BNoGood : Binds K fd_NoGood ["self", "found"] [] := BNoGood
    obtain ⟨fI_NoPage, fd_NoPage, XNoPage, GNoPage, BNoPage⟩ := (Z.k 2 (by decide)).ex
    have MNoPage : mg "NoPage" = some (.ref (c 2)) := (Z.k 2 (by decide)).m
    replace GNoPage : FnOk P w K mg base CX0 1 fI_NoPage fd_NoPage ["self", "found"] (spInit (c 2) ["found"]) := GNoPage
    replace BNoPage : Binds K fd_NoPage ["self", "found"] [] := BNoPage
    obtain ⟨fI_NoPlace, fd_NoPlace, XNoPlace, GNoPlace, BNoPlace⟩ := (Z.k 3 (by decide)).ex
    have MNoPlace : mg "NoPlace" = some (.ref (c 3)) := (Z.k 3 (by decide)).m
    replace GNoPlace : FnOk P w K mg base CX0 1 fI_NoPlace fd_NoPlace ["self", "found"] (spInit (c 3) ["found"]) := GNoPlace
    replace BNoPlace : Binds K fd_NoPlace ["self", "found"] [] := BNoPlace
    obtain ⟨fI_NoMost, fd_NoMost, XNoMost, GNoMost, BNoMost⟩ := (Z.k 4 (by decide)).ex
    have MNoMost : mg "NoMost" = some (.ref (c 4)) := (Z.k 4 (by decide)).m
    replace GNoMost : FnOk P w K mg base CX0 1 fI_NoMost fd_NoMost ["self", "found"] (spInit (c 4) ["found"]) := GNoMost
    replace BNoMost : Binds K fd_NoMost ["self", "found"] [] := BNoMost
    obtain ⟨fI_NoLevel, fd_NoLevel, XNoLevel, GNoLevel, BNoLevel⟩ := (Z.k 5 (by decide)).ex
    have MNoLevel : mg "NoLevel" = some (.ref (c 5)) := (Z.k 5 (by decide)).m
    replace GNoLevel : FnOk P w K mg base CX0 1 fI_NoLevel fd_NoLevel ["self", "found"] (spInit (c 5) ["found"]) := GNoLevel
    replace BNoLevel : Binds K fd_NoLevel ["self", "found"] [] := BNoLevel
    obtain ⟨fI_NoDoer, fd_NoDoer, XNoDoer, GNoDoer, BNoDoer⟩ := (Z.k 6 (by decide)).ex
    have MNoDoer : mg "NoDoer" = some (.ref (c 6)) := (Z.k 6 (by decide)).m
    replace GNoDoer : FnOk P w K mg base CX0 1 fI_NoDoer fd_NoDoer ["self", "found"] (spInit (c 6) ["found"]) := GNoDoer
    replace BNoDoer : Binds K fd_NoDoer ["self", "found"] [] := BNoDoer
    obtain ⟨fI_NoTree, fd_NoTree, XNoTree, GNoTree, BNoTree⟩ := (Z.k 7 (by decide)).ex
    have MNoTree : mg "NoTree" = some (.ref (c 7)) := (Z.k 7 (by decide)).m
    replace GNoTree : FnOk P w K mg base CX0 1 fI_NoTree fd_NoTree ["self", "found"] (spInit (c 7) ["found"]) := GNoTree
    replace BNoTree : Binds K fd_NoTree ["self", "found"] [] := BNoTree
    obtain ⟨fI_NoCall, fd_NoCall, XNoCall, GNoCall, BNoCall⟩ := (Z.k 8 (by decide)).ex
    have MNoCall : mg "NoCall" = some (.ref (c 8)) := (Z.k 8 (by decide)).m
    replace GNoCall : FnOk P w K mg base CX0 1 fI_NoCall fd_NoCall ["self", "found"] (spInit (c 8) ["found"]) := GNoCall
    replace BNoCall : Binds K fd_NoCall ["self", "found"] [] := BNoCall
    obtain ⟨fI_NoText, fd_NoText, XNoText, GNoText, BNoText⟩ := (Z.k 9 (by decide)).ex
    have MNoText : mg "NoText" = some (.ref (c 9)) := (Z.k 9 (by decide)).m
    replace GNoText : FnOk P w K mg base CX0 1 fI_NoText fd_NoText ["self", "found"] (spInit (c 9) ["found"]) := GNoText
    replace BNoText : Binds K fd_NoText ["self", "found"] [] := BNoText
    obtain ⟨fI_NoLine, fd_NoLine, XNoLine, GNoLine, BNoLine⟩ := (Z.k 10 (by decide)).ex
    have MNoLine : mg "NoLine" = some (.ref (c 10)) := (Z.k 10 (by decide)).m
    replace GNoLine : FnOk P w K mg base CX0 1 fI_NoLine fd_NoLine ["self", "found"] (spInit (c 10) ["found"]) := GNoLine
    replace BNoLine : Binds K fd_NoLine ["self", "found"] [] := BNoLine
    obtain ⟨fI_NoNumber, fd_NoNumber, XNoNumber, GNoNumber, BNoNumber⟩ := (Z.k 11 (by decide)).ex
    have MNoNumber : mg "NoNumber" = some (.ref (c 11)) := (Z.k 11 (by decide)).m
    replace GNoNumber : FnOk P w K mg base CX0 1 fI_NoNumber fd_NoNumber ["self", "found"] (spInit (c 11) ["found"]) := GNoNumber
    replace BNoNumber : Binds K fd_NoNumber ["self", "found"] [] := BNoNumber
    obtain ⟨fI_Twice, fd_Twice, XTwice, GTwice, BTwice⟩ := (Z.k 12 (by decide)).ex
    have MTwice : mg "Twice" = some (.ref (c 12)) := (Z.k 12 (by decide)).m
    replace GTwice : FnOk P w K mg base CX0 1 fI_Twice fd_Twice ["self", "found"] (spInit (c 12) ["found"]) := GTwice
    replace BTwice : Binds K fd_Twice ["self", "found"] [] := BTwice
    obtain ⟨fI_NoWeaving, fd_NoWeaving, XNoWeaving, GNoWeaving, BNoWeaving⟩ := (Z.k 13 (by decide)).ex
    have MNoWeaving : mg "NoWeaving" = some (.ref (c 13)) := (Z.k 13 (by decide)).m
    replace GNoWeaving : FnOk P w K mg base CX0 1 fI_NoWeaving fd_NoWeaving ["self", "found"] (spInit (c 13) ["found"]) := GNoWeaving
    replace BNoWeaving : Binds K fd_NoWeaving ["self", "found"] [] := BNoWeaving
    obtain ⟨fI_NoShape, fd_NoShape, XNoShape, GNoShape, BNoShape⟩ := (Z.k 14 (by decide)).ex
    have MNoShape : mg "NoShape" = some (.ref (c 14)) := (Z.k 14 (by decide)).m
    replace GNoShape : FnOk P w K mg base CX0 1 fI_NoShape fd_NoShape ["self", "found"] (spInit (c 14) ["found"]) := GNoShape
    replace BNoShape : Binds K fd_NoShape ["self", "found"] [] := BNoShape
    refine ⟨_, (pss_cons (ps_if (pt_cmpR op_eq (pv 0) pe_int (nomark _))
      (pss_one (ps_ret (pe_exc XNoKey GNoKey (hr.mono (by decide)) rfl MNoKey BNoKey (pa_c (pv 1) pa_nil))))
      pss_nil)
    (pss_cons (ps_if (pt_cmpR op_eq (pv 0) pe_int (nomark _))
      (pss_one (ps_ret (pe_exc XNoGood GNoGood (hr.mono (by decide)) rfl MNoGood BNoGood (pa_c (pv 1) pa_nil))))
      pss_nil)
    (pss_cons (ps_if (pt_cmpR op_eq (pv 0) pe_int (nomark _))
      (pss_one (ps_ret (pe_exc XNoPage GNoPage (hr.mono (by decide)) rfl MNoPage BNoPage (pa_c (pv 1) pa_nil))))
      pss_nil)
    (pss_cons (ps_if (pt_cmpR op_eq (pv 0) pe_int (nomark _))
      (pss_one (ps_ret (pe_exc XNoPlace GNoPlace (hr.mono (by decide)) rfl MNoPlace BNoPlace (pa_c (pv 1) pa_nil))))
      pss_nil)
    (pss_cons (ps_if (pt_cmpR op_eq (pv 0) pe_int (nomark _))
      (pss_one (ps_ret (pe_exc XNoMost GNoMost (hr.mono (by decide)) rfl MNoMost BNoMost (pa_c (pv 1) pa_nil))))
      pss_nil)
    (pss_cons (ps_if (pt_cmpR op_eq (pv 0) pe_int (nomark _))
      (pss_one (ps_ret (pe_exc XNoLevel GNoLevel (hr.mono (by decide)) rfl MNoLevel BNoLevel (pa_c (pv 1) pa_nil))))
      pss_nil)
    (pss_cons (ps_if (pt_cmpR op_eq (pv 0) pe_int (nomark _))
      (pss_one (ps_ret (pe_exc XNoDoer GNoDoer (hr.mono (by decide)) rfl MNoDoer BNoDoer (pa_c (pv 1) pa_nil))))
      pss_nil)
    (pss_cons (ps_if (pt_cmpR op_eq (pv 0) pe_int (nomark _))
      (pss_one (ps_ret (pe_exc XNoTree GNoTree (hr.mono (by decide)) rfl MNoTree BNoTree (pa_c (pv 1) pa_nil))))
      pss_nil)
    (pss_cons (ps_if (pt_cmpR op_eq (pv 0) pe_int (nomark _))
      (pss_one (ps_ret (pe_exc XNoCall GNoCall (hr.mono (by decide)) rfl MNoCall BNoCall (pa_c (pv 1) pa_nil))))
      pss_nil)
    (pss_cons (ps_if (pt_cmpR op_eq (pv 0) pe_int (nomark _))
      (pss_one (ps_ret (pe_exc XNoText GNoText (hr.mono (by decide)) rfl MNoText BNoText (pa_c (pv 1) pa_nil))))
      pss_nil)
    (pss_cons (ps_if (pt_cmpR op_eq (pv 0) pe_int (nomark _))
      (pss_one (ps_ret (pe_exc XNoLine GNoLine (hr.mono (by decide)) rfl MNoLine BNoLine (pa_c (pv 1) pa_nil))))
      pss_nil)
    (pss_cons (ps_if (pt_cmpR op_eq (pv 0) pe_int (nomark _))
      (pss_one (ps_ret (pe_exc XNoNumber GNoNumber (hr.mono (by decide)) rfl MNoNumber BNoNumber (pa_c (pv 1) pa_nil))))
      pss_nil)
    (pss_cons (ps_if (pt_cmpR op_eq (pv 0) pe_int (nomark _))
      (pss_one (ps_ret (pe_exc XTwice GTwice (hr.mono (by decide)) rfl MTwice BTwice (pa_c (pv 1) pa_nil))))
      pss_nil)
    (pss_cons (ps_if (pt_cmpR op_eq (pv 0) pe_int (nomark _))
      (pss_one (ps_ret (pe_exc XNoWeaving GNoWeaving (hr.mono (by decide)) rfl MNoWeaving BNoWeaving (pa_c (pv 1) pa_nil))))
      pss_nil)
    (pss_one (ps_ret (pe_exc XNoShape GNoShape (hr.mono (by decide)) rfl MNoShape BNoShape (pa_c (pv 1) pa_nil)))))))))))))))))), ?_⟩
    refine ⟨_, rfl, rfl, _, rfl, ite2 (fun q0 => ?_) (fun q0 => ?_)⟩
    · have ew : way = 0 := by have := eq_way ez q0; omega
      subst ew
      refine ⟨_, rfl, (by show 1 ≤ sizeLine; decide), fun e he => ⟨e, [v], rfl, rfl, upd_same, fun dx t txt H' h1 h2 n1 n2 n3 hl a b d r => ⟨rfl, ?_⟩⟩⟩
      have := err_mk (c := c) (i := 0) (ws := [v]) he h1 h2 n1 n2 n3 hl a b d r rfl
      exact k e H' he this.1 this.2
    refine ⟨_, rfl, rfl, _, rfl, ite2 (fun q1 => ?_) (fun q1 => ?_)⟩
    · have ew : way = 1 := by have := eq_way ez q1; omega
      subst ew
      refine ⟨_, rfl, (by show 1 ≤ sizeLine; decide), fun e he => ⟨e, [v], rfl, rfl, upd_same, fun dx t txt H' h1 h2 n1 n2 n3 hl a b d r => ⟨rfl, ?_⟩⟩⟩
      have := err_mk (c := c) (i := 1) (ws := [v]) he h1 h2 n1 n2 n3 hl a b d r rfl
      exact k e H' he this.1 this.2
    refine ⟨_, rfl, rfl, _, rfl, ite2 (fun q2 => ?_) (fun q2 => ?_)⟩
    · have ew : way = 2 := by have := eq_way ez q2; omega
      subst ew
      refine ⟨_, rfl, (by show 1 ≤ sizeLine; decide), fun e he => ⟨e, [v], rfl, rfl, upd_same, fun dx t txt H' h1 h2 n1 n2 n3 hl a b d r => ⟨rfl, ?_⟩⟩⟩
      have := err_mk (c := c) (i := 2) (ws := [v]) he h1 h2 n1 n2 n3 hl a b d r rfl
      exact k e H' he this.1 this.2
    refine ⟨_, rfl, rfl, _, rfl, ite2 (fun q3 => ?_) (fun q3 => ?_)⟩
    · have ew : way = 3 := by have := eq_way ez q3; omega
      subst ew
      refine ⟨_, rfl, (by show 1 ≤ sizeLine; decide), fun e he => ⟨e, [v], rfl, rfl, upd_same, fun dx t txt H' h1 h2 n1 n2 n3 hl a b d r => ⟨rfl, ?_⟩⟩⟩
      have := err_mk (c := c) (i := 3) (ws := [v]) he h1 h2 n1 n2 n3 hl a b d r rfl
      exact k e H' he this.1 this.2
    refine ⟨_, rfl, rfl, _, rfl, ite2 (fun q4 => ?_) (fun q4 => ?_)⟩
    · have ew : way = 4 := by have := eq_way ez q4; omega
      subst ew
      refine ⟨_, rfl, (by show 1 ≤ sizeLine; decide), fun e he => ⟨e, [v], rfl, rfl, upd_same, fun dx t txt H' h1 h2 n1 n2 n3 hl a b d r => ⟨rfl, ?_⟩⟩⟩
      have := err_mk (c := c) (i := 4) (ws := [v]) he h1 h2 n1 n2 n3 hl a b d r rfl
      exact k e H' he this.1 this.2
    refine ⟨_, rfl, rfl, _, rfl, ite2 (fun q5 => ?_) (fun q5 => ?_)⟩
    · have ew : way = 5 := by have := eq_way ez q5; omega
      subst ew
      refine ⟨_, rfl, (by show 1 ≤ sizeLine; decide), fun e he => ⟨e, [v], rfl, rfl, upd_same, fun dx t txt H' h1 h2 n1 n2 n3 hl a b d r => ⟨rfl, ?_⟩⟩⟩
      have := err_mk (c := c) (i := 5) (ws := [v]) he h1 h2 n1 n2 n3 hl a b d r rfl
      exact k e H' he this.1 this.2
    refine ⟨_, rfl, rfl, _, rfl, ite2 (fun q6 => ?_) (fun q6 => ?_)⟩
    · have ew : way = 6 := by have := eq_way ez q6; omega
      subst ew
      refine ⟨_, rfl, (by show 1 ≤ sizeLine; decide), fun e he => ⟨e, [v], rfl, rfl, upd_same, fun dx t txt H' h1 h2 n1 n2 n3 hl a b d r => ⟨rfl, ?_⟩⟩⟩
      have := err_mk (c := c) (i := 6) (ws := [v]) he h1 h2 n1 n2 n3 hl a b d r rfl
      exact k e H' he this.1 this.2
    refine ⟨_, rfl, rfl, _, rfl, ite2 (fun q7 => ?_) (fun q7 => ?_)⟩
    · have ew : way = 7 := by have := eq_way ez q7; omega
      subst ew
      refine ⟨_, rfl, (by show 1 ≤ sizeLine; decide), fun e he => ⟨e, [v], rfl, rfl, upd_same, fun dx t txt H' h1 h2 n1 n2 n3 hl a b d r => ⟨rfl, ?_⟩⟩⟩
      have := err_mk (c := c) (i := 7) (ws := [v]) he h1 h2 n1 n2 n3 hl a b d r rfl
      exact k e H' he this.1 this.2
    refine ⟨_, rfl, rfl, _, rfl, ite2 (fun q8 => ?_) (fun q8 => ?_)⟩
    · have ew : way = 8 := by have := eq_way ez q8; omega
      subst ew
      refine ⟨_, rfl, (by show 1 ≤ sizeLine; decide), fun e he => ⟨e, [v], rfl, rfl, upd_same, fun dx t txt H' h1 h2 n1 n2 n3 hl a b d r => ⟨rfl, ?_⟩⟩⟩
      have := err_mk (c := c) (i := 8) (ws := [v]) he h1 h2 n1 n2 n3 hl a b d r rfl
      exact k e H' he this.1 this.2
    refine ⟨_, rfl, rfl, _, rfl, ite2 (fun q9 => ?_) (fun q9 => ?_)⟩
    · have ew : way = 9 := by have := eq_way ez q9; omega
      subst ew
      refine ⟨_, rfl, (by show 1 ≤ sizeLine; decide), fun e he => ⟨e, [v], rfl, rfl, upd_same, fun dx t txt H' h1 h2 n1 n2 n3 hl a b d r => ⟨rfl, ?_⟩⟩⟩
      have := err_mk (c := c) (i := 9) (ws := [v]) he h1 h2 n1 n2 n3 hl a b d r rfl
      exact k e H' he this.1 this.2
    refine ⟨_, rfl, rfl, _, rfl, ite2 (fun q10 => ?_) (fun q10 => ?_)⟩
    · have ew : way = 10 := by have := eq_way ez q10; omega
      subst ew
      refine ⟨_, rfl, (by show 1 ≤ sizeLine; decide), fun e he => ⟨e, [v], rfl, rfl, upd_same, fun dx t txt H' h1 h2 n1 n2 n3 hl a b d r => ⟨rfl, ?_⟩⟩⟩
      have := err_mk (c := c) (i := 10) (ws := [v]) he h1 h2 n1 n2 n3 hl a b d r rfl
      exact k e H' he this.1 this.2
    refine ⟨_, rfl, rfl, _, rfl, ite2 (fun q11 => ?_) (fun q11 => ?_)⟩
    · have ew : way = 11 := by have := eq_way ez q11; omega
      subst ew
      refine ⟨_, rfl, (by show 1 ≤ sizeLine; decide), fun e he => ⟨e, [v], rfl, rfl, upd_same, fun dx t txt H' h1 h2 n1 n2 n3 hl a b d r => ⟨rfl, ?_⟩⟩⟩
      have := err_mk (c := c) (i := 11) (ws := [v]) he h1 h2 n1 n2 n3 hl a b d r rfl
      exact k e H' he this.1 this.2
    refine ⟨_, rfl, rfl, _, rfl, ite2 (fun q12 => ?_) (fun q12 => ?_)⟩
    · have ew : way = 12 := by have := eq_way ez q12; omega
      subst ew
      refine ⟨_, rfl, (by show 1 ≤ sizeLine; decide), fun e he => ⟨e, [v], rfl, rfl, upd_same, fun dx t txt H' h1 h2 n1 n2 n3 hl a b d r => ⟨rfl, ?_⟩⟩⟩
      have := err_mk (c := c) (i := 12) (ws := [v]) he h1 h2 n1 n2 n3 hl a b d r rfl
      exact k e H' he this.1 this.2
    refine ⟨_, rfl, rfl, _, rfl, ite2 (fun q13 => ?_) (fun q13 => ?_)⟩
    · have ew : way = 13 := by have := eq_way ez q13; omega
      subst ew
      refine ⟨_, rfl, (by show 1 ≤ sizeLine; decide), fun e he => ⟨e, [v], rfl, rfl, upd_same, fun dx t txt H' h1 h2 n1 n2 n3 hl a b d r => ⟨rfl, ?_⟩⟩⟩
      have := err_mk (c := c) (i := 13) (ws := [v]) he h1 h2 n1 n2 n3 hl a b d r rfl
      exact k e H' he this.1 this.2
    · have ew : way = 14 := by
        have := ne_way ez q0
        have := ne_way ez q1
        have := ne_way ez q2
        have := ne_way ez q3
        have := ne_way ez q4
        have := ne_way ez q5
        have := ne_way ez q6
        have := ne_way ez q7
        have := ne_way ez q8
        have := ne_way ez q9
        have := ne_way ez q10
        have := ne_way ez q11
        have := ne_way ez q12
        have := ne_way ez q13
        omega
      subst ew
      refine ⟨_, rfl, (by show 1 ≤ sizeLine; decide), fun e he => ⟨e, [v], rfl, rfl, upd_same, fun dx t txt H' h1 h2 n1 n2 n3 hl a b d r => ⟨rfl, ?_⟩⟩⟩
      have := err_mk (c := c) (i := 14) (ws := [v]) he h1 h2 n1 n2 n3 hl a b d r rfl
      exact k e H' he this.1 this.2
abbrev s__law_more : Stmt := top 37
theorem sc__law_more : FnScope ["_law_way", "_law_one_here", "_law_other"] ["_law_way", "_law_one_here", "_law_other"] (defScope s__law_more) := ⟨rfl, rfl, rfl, by decide +kernel, rfl, by decide +kernel, by decide +kernel⟩
theorem ok_more (hd : ∃ f fd, Dn K mg "_law_more" "_law_more" s__law_more ["_law_way", "_law_one_here", "_law_other"] f fd) (T : Txt K mg) (Z : All P w K mg base c TT) : OkD P w K mg base "_law_more" s__law_more ["_law_way", "_law_one_here", "_law_other"] 3 (spMore c) := by
  obtain ⟨f, fd, D⟩ := hd
  refine ⟨f, fd, D, D.fn.ok sc__law_more (fun vs H Q E h => ?_) (fun cdv A outer s H vs Q E hr h => ?_)⟩
  · obtain ⟨_, _, _, _, rfl, _⟩ := h
    rfl
  · obtain ⟨z, way, v, v', rfl, ez, hway, k⟩ := h
    obtain ⟨fI_Lacks, fd_Lacks, XLacks, GLacks, BLacks⟩ := (Z.k 15 (by decide)).ex
    have MLacks : mg "Lacks" = some (.ref (c 15)) := (Z.k 15 (by decide)).m
    replace GLacks : FnOk P w K mg base CX0 1 fI_Lacks fd_Lacks ["self", "key"] (spInit (c 15) ["key"]) := GLacks
    replace BLacks : Binds K fd_Lacks ["self", "key"] [] := BLacks
    obtain ⟨fI_Has, fd_Has, XHas, GHas, BHas⟩ := (Z.k 16 (by decide)).ex
    have MHas : mg "Has" = some (.ref (c 16)) := (Z.k 16 (by decide)).m
    replace GHas : FnOk P w K mg base CX0 1 fI_Has fd_Has ["self", "key"] (spInit (c 16) ["key"]) := GHas
    replace BHas : Binds K fd_Has ["self", "key"] [] := BHas
    obtain ⟨fI_NoJoin, fd_NoJoin, XNoJoin, GNoJoin, BNoJoin⟩ := (Z.k 17 (by decide)).ex
    have MNoJoin : mg "NoJoin" = some (.ref (c 17)) := (Z.k 17 (by decide)).m
    replace GNoJoin : FnOk P w K mg base CX0 1 fI_NoJoin fd_NoJoin ["self", "key"] (spInit (c 17) ["key"]) := GNoJoin
    replace BNoJoin : Binds K fd_NoJoin ["self", "key"] [] := BNoJoin
    obtain ⟨fI_TooMany, fd_TooMany, XTooMany, GTooMany, BTooMany⟩ := (Z.k 18 (by decide)).ex
    have MTooMany : mg "TooMany" = some (.ref (c 18)) := (Z.k 18 (by decide)).m
    replace GTooMany : FnOk P w K mg base CX0 1 fI_TooMany fd_TooMany ["self", "count"] (spInit (c 18) ["count"]) := GTooMany
    replace BTooMany : Binds K fd_TooMany ["self", "count"] [] := BTooMany
    obtain ⟨fI_TooFew, fd_TooFew, XTooFew, GTooFew, BTooFew⟩ := (Z.k 19 (by decide)).ex
    have MTooFew : mg "TooFew" = some (.ref (c 19)) := (Z.k 19 (by decide)).m
    replace GTooFew : FnOk P w K mg base CX0 1 fI_TooFew fd_TooFew ["self", "count"] (spInit (c 19) ["count"]) := GTooFew
    replace BTooFew : Binds K fd_TooFew ["self", "count"] [] := BTooFew
    obtain ⟨fI_Gone, fd_Gone, XGone, GGone, BGone⟩ := (Z.k 20 (by decide)).ex
    have MGone : mg "Gone" = some (.ref (c 20)) := (Z.k 20 (by decide)).m
    replace GGone : FnOk P w K mg base CX0 1 fI_Gone fd_Gone ["self", "place"] (spInit (c 20) ["place"]) := GGone
    replace BGone : Binds K fd_Gone ["self", "place"] [] := BGone
    obtain ⟨fI_Ended, fd_Ended, XEnded, GEnded, BEnded⟩ := (Z.k 21 (by decide)).ex
    have MEnded : mg "Ended" = some (.ref (c 21)) := (Z.k 21 (by decide)).m
    replace GEnded : FnOk P w K mg base CX0 1 fI_Ended fd_Ended ["self", "doer"] (spInit (c 21) ["doer"]) := GEnded
    replace BEnded : Binds K fd_Ended ["self", "doer"] [] := BEnded
    obtain ⟨fI_Going, fd_Going, XGoing, GGoing, BGoing⟩ := (Z.k 22 (by decide)).ex
    have MGoing : mg "Going" = some (.ref (c 22)) := (Z.k 22 (by decide)).m
    replace GGoing : FnOk P w K mg base CX0 1 fI_Going fd_Going ["self", "doer"] (spInit (c 22) ["doer"]) := GGoing
    replace BGoing : Binds K fd_Going ["self", "doer"] [] := BGoing
    obtain ⟨fI_BadLine, fd_BadLine, XBadLine, GBadLine, BBadLine⟩ := (Z.k 23 (by decide)).ex
    have MBadLine : mg "BadLine" = some (.ref (c 23)) := (Z.k 23 (by decide)).m
    replace GBadLine : FnOk P w K mg base CX0 1 fI_BadLine fd_BadLine ["self", "row"] (spInit (c 23) ["row"]) := GBadLine
    replace BBadLine : Binds K fd_BadLine ["self", "row"] [] := BBadLine
    obtain ⟨fI_NoSpan, fd_NoSpan, XNoSpan, GNoSpan, BNoSpan⟩ := (Z.k 24 (by decide)).ex
    have MNoSpan : mg "NoSpan" = some (.ref (c 24)) := (Z.k 24 (by decide)).m
    replace GNoSpan : FnOk P w K mg base CX0 1 fI_NoSpan fd_NoSpan ["self", "low", "high"] (spInit (c 24) ["low", "high"]) := GNoSpan
    replace BNoSpan : Binds K fd_NoSpan ["self", "low", "high"] [] := BNoSpan
    obtain ⟨fI_NoEdge, fd_NoEdge, XNoEdge, GNoEdge, BNoEdge⟩ := (Z.k 25 (by decide)).ex
    have MNoEdge : mg "NoEdge" = some (.ref (c 25)) := (Z.k 25 (by decide)).m
    replace GNoEdge : FnOk P w K mg base CX0 1 fI_NoEdge fd_NoEdge ["self", "high", "right"] (spInit (c 25) ["high", "right"]) := GNoEdge
    replace BNoEdge : Binds K fd_NoEdge ["self", "high", "right"] [] := BNoEdge
    obtain ⟨fI_Held, fd_Held, XHeld, GHeld, BHeld⟩ := (Z.k 26 (by decide)).ex
    have MHeld : mg "Held" = some (.ref (c 26)) := (Z.k 26 (by decide)).m
    replace GHeld : FnOk P w K mg base CX0 1 fI_Held fd_Held ["self", "place", "holder"] (spInit (c 26) ["place", "holder"]) := GHeld
    replace BHeld : Binds K fd_Held ["self", "place", "holder"] [] := BHeld
    obtain ⟨fI_NotHeld, fd_NotHeld, XNotHeld, GNotHeld, BNotHeld⟩ := (Z.k 27 (by decide)).ex
    have MNotHeld : mg "NotHeld" = some (.ref (c 27)) := (Z.k 27 (by decide)).m
    replace GNotHeld : FnOk P w K mg base CX0 1 fI_NotHeld fd_NotHeld ["self", "place", "doer"] (spInit (c 27) ["place", "doer"]) := GNotHeld
    replace BNotHeld : Binds K fd_NotHeld ["self", "place", "doer"] [] := BNotHeld
    obtain ⟨fI_Waits, fd_Waits, XWaits, GWaits, BWaits⟩ := (Z.k 28 (by decide)).ex
    have MWaits : mg "Waits" = some (.ref (c 28)) := (Z.k 28 (by decide)).m
    replace GWaits : FnOk P w K mg base CX0 1 fI_Waits fd_Waits ["self", "doer", "place"] (spInit (c 28) ["doer", "place"]) := GWaits
    replace BWaits : Binds K fd_Waits ["self", "doer", "place"] [] := BWaits
    refine ⟨_, (pss_cons (ps_if (pt_cmpR op_eq (pv 0) pe_int (nomark _))
      (pss_one (ps_ret (pe_exc XLacks GLacks (hr.mono (by decide)) rfl MLacks BLacks (pa_c (pv 1) pa_nil))))
      pss_nil)
    (pss_cons (ps_if (pt_cmpR op_eq (pv 0) pe_int (nomark _))
      (pss_one (ps_ret (pe_exc XHas GHas (hr.mono (by decide)) rfl MHas BHas (pa_c (pv 1) pa_nil))))
      pss_nil)
    (pss_cons (ps_if (pt_cmpR op_eq (pv 0) pe_int (nomark _))
      (pss_one (ps_ret (pe_exc XNoJoin GNoJoin (hr.mono (by decide)) rfl MNoJoin BNoJoin (pa_c (pv 1) pa_nil))))
      pss_nil)
    (pss_cons (ps_if (pt_cmpR op_eq (pv 0) pe_int (nomark _))
      (pss_one (ps_ret (pe_exc XTooMany GTooMany (hr.mono (by decide)) rfl MTooMany BTooMany (pa_c (pv 1) pa_nil))))
      pss_nil)
    (pss_cons (ps_if (pt_cmpR op_eq (pv 0) pe_int (nomark _))
      (pss_one (ps_ret (pe_exc XTooFew GTooFew (hr.mono (by decide)) rfl MTooFew BTooFew (pa_c (pv 1) pa_nil))))
      pss_nil)
    (pss_cons (ps_if (pt_cmpR op_eq (pv 0) pe_int (nomark _))
      (pss_one (ps_ret (pe_exc XGone GGone (hr.mono (by decide)) rfl MGone BGone (pa_c (pv 1) pa_nil))))
      pss_nil)
    (pss_cons (ps_if (pt_cmpR op_eq (pv 0) pe_int (nomark _))
      (pss_one (ps_ret (pe_exc XEnded GEnded (hr.mono (by decide)) rfl MEnded BEnded (pa_c (pv 1) pa_nil))))
      pss_nil)
    (pss_cons (ps_if (pt_cmpR op_eq (pv 0) pe_int (nomark _))
      (pss_one (ps_ret (pe_exc XGoing GGoing (hr.mono (by decide)) rfl MGoing BGoing (pa_c (pv 1) pa_nil))))
      pss_nil)
    (pss_cons (ps_if (pt_cmpR op_eq (pv 0) pe_int (nomark _))
      (pss_one (ps_ret (pe_exc XBadLine GBadLine (hr.mono (by decide)) rfl MBadLine BBadLine (pa_c (pv 1) pa_nil))))
      pss_nil)
    (pss_cons (ps_if (pt_cmpR op_eq (pv 0) pe_int (nomark _))
      (pss_one (ps_ret (pe_exc XNoSpan GNoSpan (hr.mono (by decide)) rfl MNoSpan BNoSpan (pa_c (pv 1) (pa_c (pv 2) pa_nil)))))
      pss_nil)
    (pss_cons (ps_if (pt_cmpR op_eq (pv 0) pe_int (nomark _))
      (pss_one (ps_ret (pe_exc XNoEdge GNoEdge (hr.mono (by decide)) rfl MNoEdge BNoEdge (pa_c (pv 1) (pa_c (pv 2) pa_nil)))))
      pss_nil)
    (pss_cons (ps_if (pt_cmpR op_eq (pv 0) pe_int (nomark _))
      (pss_one (ps_ret (pe_exc XHeld GHeld (hr.mono (by decide)) rfl MHeld BHeld (pa_c (pv 1) (pa_c (pv 2) pa_nil)))))
      pss_nil)
    (pss_cons (ps_if (pt_cmpR op_eq (pv 0) pe_int (nomark _))
      (pss_one (ps_ret (pe_exc XNotHeld GNotHeld (hr.mono (by decide)) rfl MNotHeld BNotHeld (pa_c (pv 1) (pa_c (pv 2) pa_nil)))))
      pss_nil)
    (pss_one (ps_ret (pe_exc XWaits GWaits (hr.mono (by decide)) rfl MWaits BWaits (pa_c (pv 1) (pa_c (pv 2) pa_nil)))))))))))))))))), ?_⟩
    refine ⟨_, rfl, rfl, _, rfl, ite2 (fun q0 => ?_) (fun q0 => ?_)⟩
    · have ew : way = 0 := by have := eq_way ez q0; omega
      subst ew
      refine ⟨_, rfl, (by show 1 ≤ sizeLine; decide), fun e he => ⟨e, [v], rfl, rfl, upd_same, fun dx t txt H' h1 h2 n1 n2 n3 hl a b d r => ⟨rfl, ?_⟩⟩⟩
      have := err_mk (c := c) (i := 15) (ws := [v]) he h1 h2 n1 n2 n3 hl a b d r rfl
      exact k e H' he this.1 this.2
    refine ⟨_, rfl, rfl, _, rfl, ite2 (fun q1 => ?_) (fun q1 => ?_)⟩
    · have ew : way = 1 := by have := eq_way ez q1; omega
      subst ew
      refine ⟨_, rfl, (by show 1 ≤ sizeLine; decide), fun e he => ⟨e, [v], rfl, rfl, upd_same, fun dx t txt H' h1 h2 n1 n2 n3 hl a b d r => ⟨rfl, ?_⟩⟩⟩
      have := err_mk (c := c) (i := 16) (ws := [v]) he h1 h2 n1 n2 n3 hl a b d r rfl
      exact k e H' he this.1 this.2
    refine ⟨_, rfl, rfl, _, rfl, ite2 (fun q2 => ?_) (fun q2 => ?_)⟩
    · have ew : way = 2 := by have := eq_way ez q2; omega
      subst ew
      refine ⟨_, rfl, (by show 1 ≤ sizeLine; decide), fun e he => ⟨e, [v], rfl, rfl, upd_same, fun dx t txt H' h1 h2 n1 n2 n3 hl a b d r => ⟨rfl, ?_⟩⟩⟩
      have := err_mk (c := c) (i := 17) (ws := [v]) he h1 h2 n1 n2 n3 hl a b d r rfl
      exact k e H' he this.1 this.2
    refine ⟨_, rfl, rfl, _, rfl, ite2 (fun q3 => ?_) (fun q3 => ?_)⟩
    · have ew : way = 3 := by have := eq_way ez q3; omega
      subst ew
      refine ⟨_, rfl, (by show 1 ≤ sizeLine; decide), fun e he => ⟨e, [v], rfl, rfl, upd_same, fun dx t txt H' h1 h2 n1 n2 n3 hl a b d r => ⟨rfl, ?_⟩⟩⟩
      have := err_mk (c := c) (i := 18) (ws := [v]) he h1 h2 n1 n2 n3 hl a b d r rfl
      exact k e H' he this.1 this.2
    refine ⟨_, rfl, rfl, _, rfl, ite2 (fun q4 => ?_) (fun q4 => ?_)⟩
    · have ew : way = 4 := by have := eq_way ez q4; omega
      subst ew
      refine ⟨_, rfl, (by show 1 ≤ sizeLine; decide), fun e he => ⟨e, [v], rfl, rfl, upd_same, fun dx t txt H' h1 h2 n1 n2 n3 hl a b d r => ⟨rfl, ?_⟩⟩⟩
      have := err_mk (c := c) (i := 19) (ws := [v]) he h1 h2 n1 n2 n3 hl a b d r rfl
      exact k e H' he this.1 this.2
    refine ⟨_, rfl, rfl, _, rfl, ite2 (fun q5 => ?_) (fun q5 => ?_)⟩
    · have ew : way = 5 := by have := eq_way ez q5; omega
      subst ew
      refine ⟨_, rfl, (by show 1 ≤ sizeLine; decide), fun e he => ⟨e, [v], rfl, rfl, upd_same, fun dx t txt H' h1 h2 n1 n2 n3 hl a b d r => ⟨rfl, ?_⟩⟩⟩
      have := err_mk (c := c) (i := 20) (ws := [v]) he h1 h2 n1 n2 n3 hl a b d r rfl
      exact k e H' he this.1 this.2
    refine ⟨_, rfl, rfl, _, rfl, ite2 (fun q6 => ?_) (fun q6 => ?_)⟩
    · have ew : way = 6 := by have := eq_way ez q6; omega
      subst ew
      refine ⟨_, rfl, (by show 1 ≤ sizeLine; decide), fun e he => ⟨e, [v], rfl, rfl, upd_same, fun dx t txt H' h1 h2 n1 n2 n3 hl a b d r => ⟨rfl, ?_⟩⟩⟩
      have := err_mk (c := c) (i := 21) (ws := [v]) he h1 h2 n1 n2 n3 hl a b d r rfl
      exact k e H' he this.1 this.2
    refine ⟨_, rfl, rfl, _, rfl, ite2 (fun q7 => ?_) (fun q7 => ?_)⟩
    · have ew : way = 7 := by have := eq_way ez q7; omega
      subst ew
      refine ⟨_, rfl, (by show 1 ≤ sizeLine; decide), fun e he => ⟨e, [v], rfl, rfl, upd_same, fun dx t txt H' h1 h2 n1 n2 n3 hl a b d r => ⟨rfl, ?_⟩⟩⟩
      have := err_mk (c := c) (i := 22) (ws := [v]) he h1 h2 n1 n2 n3 hl a b d r rfl
      exact k e H' he this.1 this.2
    refine ⟨_, rfl, rfl, _, rfl, ite2 (fun q8 => ?_) (fun q8 => ?_)⟩
    · have ew : way = 8 := by have := eq_way ez q8; omega
      subst ew
      refine ⟨_, rfl, (by show 1 ≤ sizeLine; decide), fun e he => ⟨e, [v], rfl, rfl, upd_same, fun dx t txt H' h1 h2 n1 n2 n3 hl a b d r => ⟨rfl, ?_⟩⟩⟩
      have := err_mk (c := c) (i := 23) (ws := [v]) he h1 h2 n1 n2 n3 hl a b d r rfl
      exact k e H' he this.1 this.2
    refine ⟨_, rfl, rfl, _, rfl, ite2 (fun q9 => ?_) (fun q9 => ?_)⟩
    · have ew : way = 9 := by have := eq_way ez q9; omega
      subst ew
      refine ⟨_, rfl, _, rfl, (by show 2 ≤ sizeLine; decide), fun e he => ⟨e, [v, v'], rfl, rfl, upd_same, fun dx t txt H' h1 h2 n1 n2 n3 hl a b d r => ⟨rfl, ?_⟩⟩⟩
      have := err_mk (c := c) (i := 24) (ws := [v, v']) he h1 h2 n1 n2 n3 hl a b d r rfl
      exact k e H' he this.1 this.2
    refine ⟨_, rfl, rfl, _, rfl, ite2 (fun q10 => ?_) (fun q10 => ?_)⟩
    · have ew : way = 10 := by have := eq_way ez q10; omega
      subst ew
      refine ⟨_, rfl, _, rfl, (by show 2 ≤ sizeLine; decide), fun e he => ⟨e, [v, v'], rfl, rfl, upd_same, fun dx t txt H' h1 h2 n1 n2 n3 hl a b d r => ⟨rfl, ?_⟩⟩⟩
      have := err_mk (c := c) (i := 25) (ws := [v, v']) he h1 h2 n1 n2 n3 hl a b d r rfl
      exact k e H' he this.1 this.2
    refine ⟨_, rfl, rfl, _, rfl, ite2 (fun q11 => ?_) (fun q11 => ?_)⟩
    · have ew : way = 11 := by have := eq_way ez q11; omega
      subst ew
      refine ⟨_, rfl, _, rfl, (by show 2 ≤ sizeLine; decide), fun e he => ⟨e, [v, v'], rfl, rfl, upd_same, fun dx t txt H' h1 h2 n1 n2 n3 hl a b d r => ⟨rfl, ?_⟩⟩⟩
      have := err_mk (c := c) (i := 26) (ws := [v, v']) he h1 h2 n1 n2 n3 hl a b d r rfl
      exact k e H' he this.1 this.2
    refine ⟨_, rfl, rfl, _, rfl, ite2 (fun q12 => ?_) (fun q12 => ?_)⟩
    · have ew : way = 12 := by have := eq_way ez q12; omega
      subst ew
      refine ⟨_, rfl, _, rfl, (by show 2 ≤ sizeLine; decide), fun e he => ⟨e, [v, v'], rfl, rfl, upd_same, fun dx t txt H' h1 h2 n1 n2 n3 hl a b d r => ⟨rfl, ?_⟩⟩⟩
      have := err_mk (c := c) (i := 27) (ws := [v, v']) he h1 h2 n1 n2 n3 hl a b d r rfl
      exact k e H' he this.1 this.2
    · have ew : way = 13 := by
        have := ne_way ez q0
        have := ne_way ez q1
        have := ne_way ez q2
        have := ne_way ez q3
        have := ne_way ez q4
        have := ne_way ez q5
        have := ne_way ez q6
        have := ne_way ez q7
        have := ne_way ez q8
        have := ne_way ez q9
        have := ne_way ez q10
        have := ne_way ez q11
        have := ne_way ez q12
        omega
      subst ew
      refine ⟨_, rfl, _, rfl, (by show 2 ≤ sizeLine; decide), fun e he => ⟨e, [v, v'], rfl, rfl, upd_same, fun dx t txt H' h1 h2 n1 n2 n3 hl a b d r => ⟨rfl, ?_⟩⟩⟩
      have := err_mk (c := c) (i := 28) (ws := [v, v']) he h1 h2 n1 n2 n3 hl a b d r rfl
      exact k e H' he this.1 this.2
abbrev s__law_made : Stmt := top 38
theorem sc__law_made : FnScope ["_law_way", "_law_one_here", "_law_other"] ["_law_way", "_law_one_here", "_law_other"] (defScope s__law_made) := ⟨rfl, rfl, rfl, by decide +kernel, rfl, by decide +kernel, by decide +kernel⟩
theorem ok_made (hd : ∃ f fd, Dn K mg "_law_made" "_law_made" s__law_made ["_law_way", "_law_one_here", "_law_other"] f fd) (T : Txt K mg) (h1 : OkD P w K mg base "_law_one" s__law_one ["_law_way", "_law_thing_here"] 3 (spOne c)) (h2 : OkD P w K mg base "_law_more" s__law_more ["_law_way", "_law_one_here", "_law_other"] 3 (spMore c)) :
    OkD P w K mg base "_law_made" s__law_made ["_law_way", "_law_one_here", "_law_other"] 4 (spMade c) := by
  obtain ⟨f, fd, D⟩ := hd
  obtain ⟨f1, fd1, D_law_one, G_law_one⟩ := h1
  obtain ⟨f2, fd2, D_law_more, G_law_more⟩ := h2
  refine ⟨f, fd, D, D.fn.ok sc__law_made (fun vs H Q E h => ?_) (fun cdv A outer s H vs Q E hr h => ?_)⟩
  · obtain ⟨_, _, _, _, rfl, _⟩ := h
    rfl
  · obtain ⟨z, way, v, v', rfl, rfl, hway, k⟩ := h
    refine ⟨_, (pss_cons (ps_if (pt_cmpR op_lt (pv 0) pe_int (nomark _))
      (pss_one (ps_ret (pe_call G_law_one (hr.mono (by decide)) rfl D_law_one.m D_law_one.fn.kp D_law_one.b .nil pass0 (pa_c (pv 0) (pa_c (pv 1) pa_nil)))))
      pss_nil)
    (pss_one (ps_ret (pe_call G_law_more (hr.mono (by decide)) rfl D_law_more.m D_law_more.fn.kp D_law_more.b .nil pass0 (pa_c (pe_op op_sub (pv 0) pe_int) (pa_c (pv 1) (pa_c (pv 2) pa_nil))))))), ?_⟩
    refine ⟨_, rfl, _, _, rfl, rfl, _, rfl, ite2 (fun q => ?_) (fun q => ?_)⟩
    · have q' : (way : Int) < 15 := of_decide_eq_true q
      refine ⟨_, rfl, _, rfl, way, v, rfl, by omega, fun e H' he x s => k e H' he ?_ s⟩
      rw [if_pos (by omega)]
      exact x
    · have q' : ¬ (way : Int) < 15 := fun z => q (decide_eq_true z)
      refine ⟨_, rfl, _, _, rfl, rfl, _, rfl, _, rfl, _, way - 15, v, v', rfl, by omega, by omega, fun e H' he x s => k e H' he ?_ s⟩
      rw [show 15 + (way - 15) = way by omega] at x
      by_cases h24 : way < 24
      · rw [if_pos h24]
        rw [if_pos (by omega)] at x
        exact x
      · rw [if_neg h24]
        rw [if_neg (by omega)] at x
        exact x
end
end K02

set_option Elab.async false
set_option linter.all false
set_option maxRecDepth 100000
set_option maxHeartbeats 4000000
namespace K02
open PySem L2
def marks (i : Nat) : List V := (List.range 29).map fun j => .bl (decide (i = j))
def spKinds (K : PySem.W.Frag) (c : Nat → Addr) : Sp := fun vs H Q _ => ∃ (e D : Addr) (i : Nat), vs = [.ref e] ∧ Thg K H (.ref e) (.ref D) ∧ (∀ j, j < 29 → PySem.W.kitOne K (.ref D) (.ref (c j)) = some (decide (i = j))) ∧
  ∀ (l : Addr) (H' : Hp), H l = none → H' l = some (.lst (marks i)) → Same H H' → Q (.ref l) H'
theorem Err.thg {K : PySem.W.Frag} {c : Nat → Addr} {H : Hp} {i : Nat} {e : Addr} {ws : List V} (x : Err c H i e ws) (g : ExG K (c i)) : Thg K H (.ref e) (.ref (c i)) := let ⟨dx, t, txt, a, b, d, _⟩ := x; .exc a b g
theorem refs_ok {c : Nat → Addr} {L : List Nat} : ∀ x ∈ (L.map fun j => V.ref (c j)), (∃ n, x = .ty n) ∨ ∃ a, x = .ref a := fun x hx => by
  obtain ⟨j, _, rfl⟩ := List.mem_map.mp hx
  exact .inr ⟨_, rfl⟩
theorem kit_any {K : PySem.W.Frag} {c : Nat → Addr} {D : Addr} {i : Nat} (hk : ∀ j, j < 29 → PySem.W.kitOne K (.ref D) (.ref (c j)) = some (decide (i = j))) : ∀ {L : List Nat}, (∀ j ∈ L, j < 29) → PySem.W.kitAny K (.ref D) ((L.map fun j => V.ref (c j)).map vOf) = some (L.any fun j => decide (i = j))
  | [], _ => rfl
  | j :: L, h => by
    rw [List.map_cons, List.map_cons]
    unfold PySem.W.kitAny
    rw [show PySem.W.kitOne K (.ref D) (vOf (.ref (c j))) = some (decide (i = j)) from hk j (h j List.mem_cons_self), List.any_cons]
    cases hb : decide (i = j) with
    | true => rfl
    | false =>
      rw [Bool.false_or]
      exact kit_any hk fun j' hj => h j' (List.mem_cons_of_mem _ hj)
theorem any_mem {i : Nat} {L : List Nat} (h : (L.any fun j => decide (i = j)) = true) : i ∈ L := by
  obtain ⟨j, hj, e⟩ := List.any_eq_true.mp h
  rw [of_decide_eq_true e]
  exact hj
theorem not_any {i : Nat} {L : List Nat} (h : ¬ (L.any fun j => decide (i = j)) = true) : i ∉ L := fun q => h (List.any_eq_true.mpr ⟨i, q, decide_eq_true rfl⟩)
theorem cf_found : ∀ i, i < 15 → cf i = [("found" : Str)] := by decide +kernel
theorem cf_key : ∀ i, i < 18 → 15 ≤ i → cf i = [("key" : Str)] := by decide +kernel
theorem cf_count : ∀ i, i < 20 → 18 ≤ i → cf i = [("count" : Str)] := by decide +kernel
theorem cf_doer : ∀ i, i < 23 → 21 ≤ i → cf i = [("doer" : Str)] := by decide +kernel
section
variable {P : Program} {w : World} {K : PySem.W.Frag} {mg : Str → Option Value} {base : Heap} {c : Nat → Addr} {TT : Addr}
abbrev s__law_kinds : Stmt := top 39
theorem sc__law_kinds : FnScope ["_law_e", "_law_found_here"] ["_law_e"] (defScope s__law_kinds) := ⟨rfl, rfl, rfl, by decide +kernel, rfl, by decide +kernel, by decide +kernel⟩
theorem ok_kinds (hd : ∃ f fd, Dn K mg "_law_kinds" "_law_kinds" s__law_kinds ["_law_e"] f fd) (T : Txt K mg) (Z : All P w K mg base c TT) : OkD P w K mg base "_law_kinds" s__law_kinds ["_law_e"] 1 (spKinds K c) := by
  obtain ⟨f, fd, D⟩ := hd
  refine ⟨f, fd, D, D.fn.ok sc__law_kinds (fun vs H Q E h => ?_) (fun cdv A outer s H vs Q E hr h => ?_)⟩
  · obtain ⟨_, _, _, rfl, _⟩ := h
    rfl
  · obtain ⟨e, DD, i, rfl, x, hk, k⟩ := h
    have sc := sc__law_kinds
    have MNoKey : mg "NoKey" = some (.ref (c 0)) := (Z.k 0 (by decide)).m
    have MNoGood : mg "NoGood" = some (.ref (c 1)) := (Z.k 1 (by decide)).m
    have MNoPage : mg "NoPage" = some (.ref (c 2)) := (Z.k 2 (by decide)).m
    have MNoPlace : mg "NoPlace" = some (.ref (c 3)) := (Z.k 3 (by decide)).m
    have MNoMost : mg "NoMost" = some (.ref (c 4)) := (Z.k 4 (by decide)).m
    have MNoLevel : mg "NoLevel" = some (.ref (c 5)) := (Z.k 5 (by decide)).m
    have MNoDoer : mg "NoDoer" = some (.ref (c 6)) := (Z.k 6 (by decide)).m
    have MNoTree : mg "NoTree" = some (.ref (c 7)) := (Z.k 7 (by decide)).m
    have MNoCall : mg "NoCall" = some (.ref (c 8)) := (Z.k 8 (by decide)).m
    have MNoText : mg "NoText" = some (.ref (c 9)) := (Z.k 9 (by decide)).m
    have MNoLine : mg "NoLine" = some (.ref (c 10)) := (Z.k 10 (by decide)).m
    have MNoNumber : mg "NoNumber" = some (.ref (c 11)) := (Z.k 11 (by decide)).m
    have MTwice : mg "Twice" = some (.ref (c 12)) := (Z.k 12 (by decide)).m
    have MNoWeaving : mg "NoWeaving" = some (.ref (c 13)) := (Z.k 13 (by decide)).m
    have MNoShape : mg "NoShape" = some (.ref (c 14)) := (Z.k 14 (by decide)).m
    have MLacks : mg "Lacks" = some (.ref (c 15)) := (Z.k 15 (by decide)).m
    have MHas : mg "Has" = some (.ref (c 16)) := (Z.k 16 (by decide)).m
    have MNoJoin : mg "NoJoin" = some (.ref (c 17)) := (Z.k 17 (by decide)).m
    have MTooMany : mg "TooMany" = some (.ref (c 18)) := (Z.k 18 (by decide)).m
    have MTooFew : mg "TooFew" = some (.ref (c 19)) := (Z.k 19 (by decide)).m
    have MGone : mg "Gone" = some (.ref (c 20)) := (Z.k 20 (by decide)).m
    have MEnded : mg "Ended" = some (.ref (c 21)) := (Z.k 21 (by decide)).m
    have MGoing : mg "Going" = some (.ref (c 22)) := (Z.k 22 (by decide)).m
    have MBadLine : mg "BadLine" = some (.ref (c 23)) := (Z.k 23 (by decide)).m
    have MNoSpan : mg "NoSpan" = some (.ref (c 24)) := (Z.k 24 (by decide)).m
    have MNoEdge : mg "NoEdge" = some (.ref (c 25)) := (Z.k 25 (by decide)).m
    have MHeld : mg "Held" = some (.ref (c 26)) := (Z.k 26 (by decide)).m
    have MNotHeld : mg "NotHeld" = some (.ref (c 27)) := (Z.k 27 (by decide)).m
    have MWaits : mg "Waits" = some (.ref (c 28)) := (Z.k 28 (by decide)).m
    refine ⟨_, (pss_cons (ps_set (i := 1) sc.nd rfl (Or.inl rfl) (pe_lst pa_nil))
    (pss_cons (ps_set (i := 1) sc.nd rfl (Or.inl rfl) (pe_op op_cat (pv 1) (pe_lst (pa_c (pe_callB call_inst rfl T.n_isinstance bt_isinstance (pa_c (pv 0) (pa_c (pe_glob (v := .ref (c 0)) rfl MNoKey rfl) pa_nil))) (pa_c (pe_callB call_inst rfl T.n_isinstance bt_isinstance (pa_c (pv 0) (pa_c (pe_glob (v := .ref (c 1)) rfl MNoGood rfl) pa_nil))) (pa_c (pe_callB call_inst rfl T.n_isinstance bt_isinstance (pa_c (pv 0) (pa_c (pe_glob (v := .ref (c 2)) rfl MNoPage rfl) pa_nil))) (pa_c (pe_callB call_inst rfl T.n_isinstance bt_isinstance (pa_c (pv 0) (pa_c (pe_glob (v := .ref (c 3)) rfl MNoPlace rfl) pa_nil))) pa_nil)))))))
    (pss_cons (ps_set (i := 1) sc.nd rfl (Or.inl rfl) (pe_op op_cat (pv 1) (pe_lst (pa_c (pe_callB call_inst rfl T.n_isinstance bt_isinstance (pa_c (pv 0) (pa_c (pe_glob (v := .ref (c 4)) rfl MNoMost rfl) pa_nil))) (pa_c (pe_callB call_inst rfl T.n_isinstance bt_isinstance (pa_c (pv 0) (pa_c (pe_glob (v := .ref (c 5)) rfl MNoLevel rfl) pa_nil))) (pa_c (pe_callB call_inst rfl T.n_isinstance bt_isinstance (pa_c (pv 0) (pa_c (pe_glob (v := .ref (c 6)) rfl MNoDoer rfl) pa_nil))) (pa_c (pe_callB call_inst rfl T.n_isinstance bt_isinstance (pa_c (pv 0) (pa_c (pe_glob (v := .ref (c 7)) rfl MNoTree rfl) pa_nil))) pa_nil)))))))
    (pss_cons (ps_set (i := 1) sc.nd rfl (Or.inl rfl) (pe_op op_cat (pv 1) (pe_lst (pa_c (pe_callB call_inst rfl T.n_isinstance bt_isinstance (pa_c (pv 0) (pa_c (pe_glob (v := .ref (c 8)) rfl MNoCall rfl) pa_nil))) (pa_c (pe_callB call_inst rfl T.n_isinstance bt_isinstance (pa_c (pv 0) (pa_c (pe_glob (v := .ref (c 9)) rfl MNoText rfl) pa_nil))) (pa_c (pe_callB call_inst rfl T.n_isinstance bt_isinstance (pa_c (pv 0) (pa_c (pe_glob (v := .ref (c 10)) rfl MNoLine rfl) pa_nil))) (pa_c (pe_callB call_inst rfl T.n_isinstance bt_isinstance (pa_c (pv 0) (pa_c (pe_glob (v := .ref (c 11)) rfl MNoNumber rfl) pa_nil))) pa_nil)))))))
    (pss_cons (ps_set (i := 1) sc.nd rfl (Or.inl rfl) (pe_op op_cat (pv 1) (pe_lst (pa_c (pe_callB call_inst rfl T.n_isinstance bt_isinstance (pa_c (pv 0) (pa_c (pe_glob (v := .ref (c 12)) rfl MTwice rfl) pa_nil))) (pa_c (pe_callB call_inst rfl T.n_isinstance bt_isinstance (pa_c (pv 0) (pa_c (pe_glob (v := .ref (c 13)) rfl MNoWeaving rfl) pa_nil))) (pa_c (pe_callB call_inst rfl T.n_isinstance bt_isinstance (pa_c (pv 0) (pa_c (pe_glob (v := .ref (c 14)) rfl MNoShape rfl) pa_nil))) (pa_c (pe_callB call_inst rfl T.n_isinstance bt_isinstance (pa_c (pv 0) (pa_c (pe_glob (v := .ref (c 15)) rfl MLacks rfl) pa_nil))) pa_nil)))))))
    (pss_cons (ps_set (i := 1) sc.nd rfl (Or.inl rfl) (pe_op op_cat (pv 1) (pe_lst (pa_c (pe_callB call_inst rfl T.n_isinstance bt_isinstance (pa_c (pv 0) (pa_c (pe_glob (v := .ref (c 16)) rfl MHas rfl) pa_nil))) (pa_c (pe_callB call_inst rfl T.n_isinstance bt_isinstance (pa_c (pv 0) (pa_c (pe_glob (v := .ref (c 17)) rfl MNoJoin rfl) pa_nil))) (pa_c (pe_callB call_inst rfl T.n_isinstance bt_isinstance (pa_c (pv 0) (pa_c (pe_glob (v := .ref (c 18)) rfl MTooMany rfl) pa_nil))) (pa_c (pe_callB call_inst rfl T.n_isinstance bt_isinstance (pa_c (pv 0) (pa_c (pe_glob (v := .ref (c 19)) rfl MTooFew rfl) pa_nil))) pa_nil)))))))
    (pss_cons (ps_set (i := 1) sc.nd rfl (Or.inl rfl) (pe_op op_cat (pv 1) (pe_lst (pa_c (pe_callB call_inst rfl T.n_isinstance bt_isinstance (pa_c (pv 0) (pa_c (pe_glob (v := .ref (c 20)) rfl MGone rfl) pa_nil))) (pa_c (pe_callB call_inst rfl T.n_isinstance bt_isinstance (pa_c (pv 0) (pa_c (pe_glob (v := .ref (c 21)) rfl MEnded rfl) pa_nil))) (pa_c (pe_callB call_inst rfl T.n_isinstance bt_isinstance (pa_c (pv 0) (pa_c (pe_glob (v := .ref (c 22)) rfl MGoing rfl) pa_nil))) (pa_c (pe_callB call_inst rfl T.n_isinstance bt_isinstance (pa_c (pv 0) (pa_c (pe_glob (v := .ref (c 23)) rfl MBadLine rfl) pa_nil))) pa_nil)))))))
    (pss_cons (ps_set (i := 1) sc.nd rfl (Or.inl rfl) (pe_op op_cat (pv 1) (pe_lst (pa_c (pe_callB call_inst rfl T.n_isinstance bt_isinstance (pa_c (pv 0) (pa_c (pe_glob (v := .ref (c 24)) rfl MNoSpan rfl) pa_nil))) (pa_c (pe_callB call_inst rfl T.n_isinstance bt_isinstance (pa_c (pv 0) (pa_c (pe_glob (v := .ref (c 25)) rfl MNoEdge rfl) pa_nil))) (pa_c (pe_callB call_inst rfl T.n_isinstance bt_isinstance (pa_c (pv 0) (pa_c (pe_glob (v := .ref (c 26)) rfl MHeld rfl) pa_nil))) (pa_c (pe_callB call_inst rfl T.n_isinstance bt_isinstance (pa_c (pv 0) (pa_c (pe_glob (v := .ref (c 27)) rfl MNotHeld rfl) pa_nil))) pa_nil)))))))
    (pss_cons (ps_set (i := 1) sc.nd rfl (Or.inl rfl) (pe_op op_cat (pv 1) (pe_lst (pa_c (pe_callB call_inst rfl T.n_isinstance bt_isinstance (pa_c (pv 0) (pa_c (pe_glob (v := .ref (c 28)) rfl MWaits rfl) pa_nil))) pa_nil))))
    (pss_one (ps_ret (pv 1)))))))))))), ?_⟩
    refine ⟨(by show 0 ≤ sizeLine; decide), fun q0 f0 => ?_⟩
    generalize hG : upd H q0 _ = J0
    have S0 : Same H J0 := (by rw [← hG]; exact Same.upd f0)
    have e0 : J0 q0 = some (.lst []) := (by rw [← hG]; exact upd_same)
    clear hG
    have R0 : Same H J0 := S0
    have x0 := x.keep R0
    refine ⟨_, rfl, _, rfl, _, _, _, _, rfl, x0, .inr (.inl ⟨_, rfl, hk 0 (by decide)⟩), _, rfl, _, _, _, _, rfl, x0, .inr (.inl ⟨_, rfl, hk 1 (by decide)⟩), _, rfl, _, _, _, _, rfl, x0, .inr (.inl ⟨_, rfl, hk 2 (by decide)⟩), _, rfl, _, _, _, _, rfl, x0, .inr (.inl ⟨_, rfl, hk 3 (by decide)⟩), (by show 4 ≤ sizeLine; decide), fun l0 g0 => ?_⟩
    generalize hG : upd J0 l0 _ = I0
    have U0 : Same J0 I0 := (by rw [← hG]; exact Same.upd g0)
    have d0 : I0 l0 = some (.lst [.bl (decide (i = 0)), .bl (decide (i = 1)), .bl (decide (i = 2)), .bl (decide (i = 3))]) := (by rw [← hG]; exact upd_same)
    clear hG
    refine ⟨q0, l0, _, _, rfl, rfl, U0 _ _ e0, d0, (by show 0 + 4 ≤ sizeLine; decide), fun q1 f1 => ?_⟩
    generalize hG : upd I0 q1 _ = J1
    have S1 : Same I0 J1 := (by rw [← hG]; exact Same.upd f1)
    have e1 : J1 q1 = some (.lst ([] ++ [.bl (decide (i = 0)), .bl (decide (i = 1)), .bl (decide (i = 2)), .bl (decide (i = 3))])) := (by rw [← hG]; exact upd_same)
    clear hG
    have R1 : Same H J1 := (R0.trans U0).trans S1
    have x1 := x.keep R1
    refine ⟨_, rfl, _, rfl, _, _, _, _, rfl, x1, .inr (.inl ⟨_, rfl, hk 4 (by decide)⟩), _, rfl, _, _, _, _, rfl, x1, .inr (.inl ⟨_, rfl, hk 5 (by decide)⟩), _, rfl, _, _, _, _, rfl, x1, .inr (.inl ⟨_, rfl, hk 6 (by decide)⟩), _, rfl, _, _, _, _, rfl, x1, .inr (.inl ⟨_, rfl, hk 7 (by decide)⟩), (by show 4 ≤ sizeLine; decide), fun l1 g1 => ?_⟩
    generalize hG : upd J1 l1 _ = I1
    have U1 : Same J1 I1 := (by rw [← hG]; exact Same.upd g1)
    have d1 : I1 l1 = some (.lst [.bl (decide (i = 4)), .bl (decide (i = 5)), .bl (decide (i = 6)), .bl (decide (i = 7))]) := (by rw [← hG]; exact upd_same)
    clear hG
    refine ⟨q1, l1, _, _, rfl, rfl, U1 _ _ e1, d1, (by show 4 + 4 ≤ sizeLine; decide), fun q2 f2 => ?_⟩
    generalize hG : upd I1 q2 _ = J2
    have S2 : Same I1 J2 := (by rw [← hG]; exact Same.upd f2)
    have e2 : J2 q2 = some (.lst (([] ++ [.bl (decide (i = 0)), .bl (decide (i = 1)), .bl (decide (i = 2)), .bl (decide (i = 3))]) ++ [.bl (decide (i = 4)), .bl (decide (i = 5)), .bl (decide (i = 6)), .bl (decide (i = 7))])) := (by rw [← hG]; exact upd_same)
    clear hG
    have R2 : Same H J2 := (R1.trans U1).trans S2
    have x2 := x.keep R2
    refine ⟨_, rfl, _, rfl, _, _, _, _, rfl, x2, .inr (.inl ⟨_, rfl, hk 8 (by decide)⟩), _, rfl, _, _, _, _, rfl, x2, .inr (.inl ⟨_, rfl, hk 9 (by decide)⟩), _, rfl, _, _, _, _, rfl, x2, .inr (.inl ⟨_, rfl, hk 10 (by decide)⟩), _, rfl, _, _, _, _, rfl, x2, .inr (.inl ⟨_, rfl, hk 11 (by decide)⟩), (by show 4 ≤ sizeLine; decide), fun l2 g2 => ?_⟩
    generalize hG : upd J2 l2 _ = I2
    have U2 : Same J2 I2 := (by rw [← hG]; exact Same.upd g2)
    have d2 : I2 l2 = some (.lst [.bl (decide (i = 8)), .bl (decide (i = 9)), .bl (decide (i = 10)), .bl (decide (i = 11))]) := (by rw [← hG]; exact upd_same)
    clear hG
    refine ⟨q2, l2, _, _, rfl, rfl, U2 _ _ e2, d2, (by show 8 + 4 ≤ sizeLine; decide), fun q3 f3 => ?_⟩
    generalize hG : upd I2 q3 _ = J3
    have S3 : Same I2 J3 := (by rw [← hG]; exact Same.upd f3)
    have e3 : J3 q3 = some (.lst ((([] ++ [.bl (decide (i = 0)), .bl (decide (i = 1)), .bl (decide (i = 2)), .bl (decide (i = 3))]) ++ [.bl (decide (i = 4)), .bl (decide (i = 5)), .bl (decide (i = 6)), .bl (decide (i = 7))]) ++ [.bl (decide (i = 8)), .bl (decide (i = 9)), .bl (decide (i = 10)), .bl (decide (i = 11))])) := (by rw [← hG]; exact upd_same)
    clear hG
    have R3 : Same H J3 := (R2.trans U2).trans S3
    have x3 := x.keep R3
    refine ⟨_, rfl, _, rfl, _, _, _, _, rfl, x3, .inr (.inl ⟨_, rfl, hk 12 (by decide)⟩), _, rfl, _, _, _, _, rfl, x3, .inr (.inl ⟨_, rfl, hk 13 (by decide)⟩), _, rfl, _, _, _, _, rfl, x3, .inr (.inl ⟨_, rfl, hk 14 (by decide)⟩), _, rfl, _, _, _, _, rfl, x3, .inr (.inl ⟨_, rfl, hk 15 (by decide)⟩), (by show 4 ≤ sizeLine; decide), fun l3 g3 => ?_⟩
    generalize hG : upd J3 l3 _ = I3
    have U3 : Same J3 I3 := (by rw [← hG]; exact Same.upd g3)
    have d3 : I3 l3 = some (.lst [.bl (decide (i = 12)), .bl (decide (i = 13)), .bl (decide (i = 14)), .bl (decide (i = 15))]) := (by rw [← hG]; exact upd_same)
    clear hG
    refine ⟨q3, l3, _, _, rfl, rfl, U3 _ _ e3, d3, (by show 12 + 4 ≤ sizeLine; decide), fun q4 f4 => ?_⟩
    generalize hG : upd I3 q4 _ = J4
    have S4 : Same I3 J4 := (by rw [← hG]; exact Same.upd f4)
    have e4 : J4 q4 = some (.lst (((([] ++ [.bl (decide (i = 0)), .bl (decide (i = 1)), .bl (decide (i = 2)), .bl (decide (i = 3))]) ++ [.bl (decide (i = 4)), .bl (decide (i = 5)), .bl (decide (i = 6)), .bl (decide (i = 7))]) ++ [.bl (decide (i = 8)), .bl (decide (i = 9)), .bl (decide (i = 10)), .bl (decide (i = 11))]) ++ [.bl (decide (i = 12)), .bl (decide (i = 13)), .bl (decide (i = 14)), .bl (decide (i = 15))])) := (by rw [← hG]; exact upd_same)
    clear hG
    have R4 : Same H J4 := (R3.trans U3).trans S4
    have x4 := x.keep R4
    refine ⟨_, rfl, _, rfl, _, _, _, _, rfl, x4, .inr (.inl ⟨_, rfl, hk 16 (by decide)⟩), _, rfl, _, _, _, _, rfl, x4, .inr (.inl ⟨_, rfl, hk 17 (by decide)⟩), _, rfl, _, _, _, _, rfl, x4, .inr (.inl ⟨_, rfl, hk 18 (by decide)⟩), _, rfl, _, _, _, _, rfl, x4, .inr (.inl ⟨_, rfl, hk 19 (by decide)⟩), (by show 4 ≤ sizeLine; decide), fun l4 g4 => ?_⟩
    generalize hG : upd J4 l4 _ = I4
    have U4 : Same J4 I4 := (by rw [← hG]; exact Same.upd g4)
    have d4 : I4 l4 = some (.lst [.bl (decide (i = 16)), .bl (decide (i = 17)), .bl (decide (i = 18)), .bl (decide (i = 19))]) := (by rw [← hG]; exact upd_same)
    clear hG
    refine ⟨q4, l4, _, _, rfl, rfl, U4 _ _ e4, d4, (by show 16 + 4 ≤ sizeLine; decide), fun q5 f5 => ?_⟩
    generalize hG : upd I4 q5 _ = J5
    have S5 : Same I4 J5 := (by rw [← hG]; exact Same.upd f5)
    have e5 : J5 q5 = some (.lst ((((([] ++ [.bl (decide (i = 0)), .bl (decide (i = 1)), .bl (decide (i = 2)), .bl (decide (i = 3))]) ++ [.bl (decide (i = 4)), .bl (decide (i = 5)), .bl (decide (i = 6)), .bl (decide (i = 7))]) ++ [.bl (decide (i = 8)), .bl (decide (i = 9)), .bl (decide (i = 10)), .bl (decide (i = 11))]) ++ [.bl (decide (i = 12)), .bl (decide (i = 13)), .bl (decide (i = 14)), .bl (decide (i = 15))]) ++ [.bl (decide (i = 16)), .bl (decide (i = 17)), .bl (decide (i = 18)), .bl (decide (i = 19))])) := (by rw [← hG]; exact upd_same)
    clear hG
    have R5 : Same H J5 := (R4.trans U4).trans S5
    have x5 := x.keep R5
    refine ⟨_, rfl, _, rfl, _, _, _, _, rfl, x5, .inr (.inl ⟨_, rfl, hk 20 (by decide)⟩), _, rfl, _, _, _, _, rfl, x5, .inr (.inl ⟨_, rfl, hk 21 (by decide)⟩), _, rfl, _, _, _, _, rfl, x5, .inr (.inl ⟨_, rfl, hk 22 (by decide)⟩), _, rfl, _, _, _, _, rfl, x5, .inr (.inl ⟨_, rfl, hk 23 (by decide)⟩), (by show 4 ≤ sizeLine; decide), fun l5 g5 => ?_⟩
    generalize hG : upd J5 l5 _ = I5
    have U5 : Same J5 I5 := (by rw [← hG]; exact Same.upd g5)
    have d5 : I5 l5 = some (.lst [.bl (decide (i = 20)), .bl (decide (i = 21)), .bl (decide (i = 22)), .bl (decide (i = 23))]) := (by rw [← hG]; exact upd_same)
    clear hG
    refine ⟨q5, l5, _, _, rfl, rfl, U5 _ _ e5, d5, (by show 20 + 4 ≤ sizeLine; decide), fun q6 f6 => ?_⟩
    generalize hG : upd I5 q6 _ = J6
    have S6 : Same I5 J6 := (by rw [← hG]; exact Same.upd f6)
    have e6 : J6 q6 = some (.lst (((((([] ++ [.bl (decide (i = 0)), .bl (decide (i = 1)), .bl (decide (i = 2)), .bl (decide (i = 3))]) ++ [.bl (decide (i = 4)), .bl (decide (i = 5)), .bl (decide (i = 6)), .bl (decide (i = 7))]) ++ [.bl (decide (i = 8)), .bl (decide (i = 9)), .bl (decide (i = 10)), .bl (decide (i = 11))]) ++ [.bl (decide (i = 12)), .bl (decide (i = 13)), .bl (decide (i = 14)), .bl (decide (i = 15))]) ++ [.bl (decide (i = 16)), .bl (decide (i = 17)), .bl (decide (i = 18)), .bl (decide (i = 19))]) ++ [.bl (decide (i = 20)), .bl (decide (i = 21)), .bl (decide (i = 22)), .bl (decide (i = 23))])) := (by rw [← hG]; exact upd_same)
    clear hG
    have R6 : Same H J6 := (R5.trans U5).trans S6
    have x6 := x.keep R6
    refine ⟨_, rfl, _, rfl, _, _, _, _, rfl, x6, .inr (.inl ⟨_, rfl, hk 24 (by decide)⟩), _, rfl, _, _, _, _, rfl, x6, .inr (.inl ⟨_, rfl, hk 25 (by decide)⟩), _, rfl, _, _, _, _, rfl, x6, .inr (.inl ⟨_, rfl, hk 26 (by decide)⟩), _, rfl, _, _, _, _, rfl, x6, .inr (.inl ⟨_, rfl, hk 27 (by decide)⟩), (by show 4 ≤ sizeLine; decide), fun l6 g6 => ?_⟩
    generalize hG : upd J6 l6 _ = I6
    have U6 : Same J6 I6 := (by rw [← hG]; exact Same.upd g6)
    have d6 : I6 l6 = some (.lst [.bl (decide (i = 24)), .bl (decide (i = 25)), .bl (decide (i = 26)), .bl (decide (i = 27))]) := (by rw [← hG]; exact upd_same)
    clear hG
    refine ⟨q6, l6, _, _, rfl, rfl, U6 _ _ e6, d6, (by show 24 + 4 ≤ sizeLine; decide), fun q7 f7 => ?_⟩
    generalize hG : upd I6 q7 _ = J7
    have S7 : Same I6 J7 := (by rw [← hG]; exact Same.upd f7)
    have e7 : J7 q7 = some (.lst ((((((([] ++ [.bl (decide (i = 0)), .bl (decide (i = 1)), .bl (decide (i = 2)), .bl (decide (i = 3))]) ++ [.bl (decide (i = 4)), .bl (decide (i = 5)), .bl (decide (i = 6)), .bl (decide (i = 7))]) ++ [.bl (decide (i = 8)), .bl (decide (i = 9)), .bl (decide (i = 10)), .bl (decide (i = 11))]) ++ [.bl (decide (i = 12)), .bl (decide (i = 13)), .bl (decide (i = 14)), .bl (decide (i = 15))]) ++ [.bl (decide (i = 16)), .bl (decide (i = 17)), .bl (decide (i = 18)), .bl (decide (i = 19))]) ++ [.bl (decide (i = 20)), .bl (decide (i = 21)), .bl (decide (i = 22)), .bl (decide (i = 23))]) ++ [.bl (decide (i = 24)), .bl (decide (i = 25)), .bl (decide (i = 26)), .bl (decide (i = 27))])) := (by rw [← hG]; exact upd_same)
    clear hG
    have R7 : Same H J7 := (R6.trans U6).trans S7
    have x7 := x.keep R7
    refine ⟨_, rfl, _, rfl, _, _, _, _, rfl, x7, .inr (.inl ⟨_, rfl, hk 28 (by decide)⟩), (by show 1 ≤ sizeLine; decide), fun l7 g7 => ?_⟩
    generalize hG : upd J7 l7 _ = I7
    have U7 : Same J7 I7 := (by rw [← hG]; exact Same.upd g7)
    have d7 : I7 l7 = some (.lst [.bl (decide (i = 28))]) := (by rw [← hG]; exact upd_same)
    clear hG
    refine ⟨q7, l7, _, _, rfl, rfl, U7 _ _ e7, d7, (by show 28 + 1 ≤ sizeLine; decide), fun q8 f8 => ?_⟩
    generalize hG : upd I7 q8 _ = J8
    have S8 : Same I7 J8 := (by rw [← hG]; exact Same.upd f8)
    have e8 : J8 q8 = some (.lst (((((((([] ++ [.bl (decide (i = 0)), .bl (decide (i = 1)), .bl (decide (i = 2)), .bl (decide (i = 3))]) ++ [.bl (decide (i = 4)), .bl (decide (i = 5)), .bl (decide (i = 6)), .bl (decide (i = 7))]) ++ [.bl (decide (i = 8)), .bl (decide (i = 9)), .bl (decide (i = 10)), .bl (decide (i = 11))]) ++ [.bl (decide (i = 12)), .bl (decide (i = 13)), .bl (decide (i = 14)), .bl (decide (i = 15))]) ++ [.bl (decide (i = 16)), .bl (decide (i = 17)), .bl (decide (i = 18)), .bl (decide (i = 19))]) ++ [.bl (decide (i = 20)), .bl (decide (i = 21)), .bl (decide (i = 22)), .bl (decide (i = 23))]) ++ [.bl (decide (i = 24)), .bl (decide (i = 25)), .bl (decide (i = 26)), .bl (decide (i = 27))]) ++ [.bl (decide (i = 28))])) := (by rw [← hG]; exact upd_same)
    clear hG
    have z : H q8 = none := (R7.trans U7).free f8
    have R8 : Same H J8 := (R7.trans U7).trans S8
    exact ⟨_, rfl, k q8 J8 z e8 R8⟩
end
end K02

set_option Elab.async false
set_option linter.all false
set_option maxRecDepth 100000
set_option maxHeartbeats 4000000
namespace K02
open PySem L2
section
variable {P : Program} {w : World} {K : PySem.W.Frag} {mg : Str → Option Value} {base : Heap} {c : Nat → Addr} {TT : Addr}
def spFound (c : Nat → Addr) : Sp := fun vs H Q _ => ∃ (e : Addr) (i : Nat) (ws : List V), vs = [.ref e] ∧ i < 29 ∧ Err c H i e ws ∧ ∀ (l : Addr) (H' : Hp), H l = none → H' l = some (.lst (if i < 20 ∨ i = 21 ∨ i = 22 then ws else [])) → Same H H' → Q (.ref l) H'
def spTwo (c : Nat → Addr) : Sp := fun vs H Q _ => ∃ (e : Addr) (i : Nat) (ws : List V), vs = [.ref e] ∧ i < 29 ∧ Err c H i e ws ∧ ∀ (l : Addr) (H' : Hp), H l = none → H' l = some (.lst (if i < 20 ∨ i = 21 ∨ i = 22 then [] else ws)) → Same H H' → Q (.ref l) H'
theorem lk1 {x : Str} {y : V} : ([x].zip [y]).lookup x = some y := by simp [List.lookup]
theorem lk2a {x x' : Str} {y y' : V} : ([x, x'].zip [y, y']).lookup x = some y := by simp [List.lookup]
theorem lk2b {x x' : Str} {y y' : V} (h : (x' == x) = false) : ([x, x'].zip [y, y']).lookup x' = some y' := by simp [List.lookup, h]
theorem one_of {ws : List V} {x : Str} (h : ws.length = [x].length) : ∃ y, ws = [y] := by
  match ws, h with
  | [y], _ => exact ⟨y, rfl⟩
theorem two_of {ws : List V} {x x' : Str} (h : ws.length = [x, x'].length) : ∃ y y', ws = [y, y'] := by
  match ws, h with
  | [y, y'], _ => exact ⟨y, y', rfl⟩
abbrev s__law_found : Stmt := top 40
theorem sc__law_found : FnScope ["_law_e"] ["_law_e"] (defScope s__law_found) := ⟨rfl, rfl, rfl, by decide +kernel, rfl, by decide +kernel, by decide +kernel⟩
theorem ok_found (hd : ∃ f fd, Dn K mg "_law_found" "_law_found" s__law_found ["_law_e"] f fd) (T : Txt K mg) (Z : All P w K mg base c TT) : OkD P w K mg base "_law_found" s__law_found ["_law_e"] 1 (spFound c) := by
  obtain ⟨f, fd, D⟩ := hd
  refine ⟨f, fd, D, D.fn.ok sc__law_found (fun vs H Q E h => ?_) (fun cdv A outer s H vs Q E hr h => ?_)⟩
  · obtain ⟨_, _, _, rfl, _⟩ := h
    rfl
  · obtain ⟨e, i, ws, rfl, hi, x, k⟩ := h
    have g := (Z.k i hi).g
    have hk := fun j hj => Z.one i j hi hj
    obtain ⟨dx, t, txt, he, hx, ht, _, hl⟩ := id x
    have MNoKey : mg "NoKey" = some (.ref (c 0)) := (Z.k 0 (by decide)).m
    have MNoGood : mg "NoGood" = some (.ref (c 1)) := (Z.k 1 (by decide)).m
    have MNoPage : mg "NoPage" = some (.ref (c 2)) := (Z.k 2 (by decide)).m
    have MNoPlace : mg "NoPlace" = some (.ref (c 3)) := (Z.k 3 (by decide)).m
    have MNoMost : mg "NoMost" = some (.ref (c 4)) := (Z.k 4 (by decide)).m
    have MNoLevel : mg "NoLevel" = some (.ref (c 5)) := (Z.k 5 (by decide)).m
    have MNoDoer : mg "NoDoer" = some (.ref (c 6)) := (Z.k 6 (by decide)).m
    have MNoTree : mg "NoTree" = some (.ref (c 7)) := (Z.k 7 (by decide)).m
    have MNoCall : mg "NoCall" = some (.ref (c 8)) := (Z.k 8 (by decide)).m
    have MNoText : mg "NoText" = some (.ref (c 9)) := (Z.k 9 (by decide)).m
    have MNoLine : mg "NoLine" = some (.ref (c 10)) := (Z.k 10 (by decide)).m
    have MNoNumber : mg "NoNumber" = some (.ref (c 11)) := (Z.k 11 (by decide)).m
    have MTwice : mg "Twice" = some (.ref (c 12)) := (Z.k 12 (by decide)).m
    have MNoWeaving : mg "NoWeaving" = some (.ref (c 13)) := (Z.k 13 (by decide)).m
    have MNoShape : mg "NoShape" = some (.ref (c 14)) := (Z.k 14 (by decide)).m
    have MLacks : mg "Lacks" = some (.ref (c 15)) := (Z.k 15 (by decide)).m
    have MHas : mg "Has" = some (.ref (c 16)) := (Z.k 16 (by decide)).m
    have MNoJoin : mg "NoJoin" = some (.ref (c 17)) := (Z.k 17 (by decide)).m
    have MTooMany : mg "TooMany" = some (.ref (c 18)) := (Z.k 18 (by decide)).m
    have MTooFew : mg "TooFew" = some (.ref (c 19)) := (Z.k 19 (by decide)).m
    have MEnded : mg "Ended" = some (.ref (c 21)) := (Z.k 21 (by decide)).m
    have MGoing : mg "Going" = some (.ref (c 22)) := (Z.k 22 (by decide)).m
    refine ⟨_, (pss_cons (ps_if (pt_val (pe_callB call_inst rfl T.n_isinstance bt_isinstance (pa_c (pv 0) (pa_c (pe_tup (pa_c (pe_glob (v := .ref (c 0)) rfl MNoKey rfl) (pa_c (pe_glob (v := .ref (c 1)) rfl MNoGood rfl) (pa_c (pe_glob (v := .ref (c 2)) rfl MNoPage rfl) (pa_c (pe_glob (v := .ref (c 3)) rfl MNoPlace rfl) (pa_c (pe_glob (v := .ref (c 4)) rfl MNoMost rfl) (pa_c (pe_glob (v := .ref (c 5)) rfl MNoLevel rfl) (pa_c (pe_glob (v := .ref (c 6)) rfl MNoDoer rfl) (pa_c (pe_glob (v := .ref (c 7)) rfl MNoTree rfl) pa_nil))))))))) pa_nil))))
      (pss_one (ps_ret (pe_lst (pa_c (pe_exfld (pv 0) rfl) pa_nil))))
      pss_nil)
    (pss_cons (ps_if (pt_val (pe_callB call_inst rfl T.n_isinstance bt_isinstance (pa_c (pv 0) (pa_c (pe_tup (pa_c (pe_glob (v := .ref (c 8)) rfl MNoCall rfl) (pa_c (pe_glob (v := .ref (c 9)) rfl MNoText rfl) (pa_c (pe_glob (v := .ref (c 10)) rfl MNoLine rfl) (pa_c (pe_glob (v := .ref (c 11)) rfl MNoNumber rfl) (pa_c (pe_glob (v := .ref (c 12)) rfl MTwice rfl) (pa_c (pe_glob (v := .ref (c 13)) rfl MNoWeaving rfl) (pa_c (pe_glob (v := .ref (c 14)) rfl MNoShape rfl) pa_nil)))))))) pa_nil))))
      (pss_one (ps_ret (pe_lst (pa_c (pe_exfld (pv 0) rfl) pa_nil))))
      pss_nil)
    (pss_cons (ps_if (pt_val (pe_callB call_inst rfl T.n_isinstance bt_isinstance (pa_c (pv 0) (pa_c (pe_tup (pa_c (pe_glob (v := .ref (c 15)) rfl MLacks rfl) (pa_c (pe_glob (v := .ref (c 16)) rfl MHas rfl) (pa_c (pe_glob (v := .ref (c 17)) rfl MNoJoin rfl) pa_nil)))) pa_nil))))
      (pss_one (ps_ret (pe_lst (pa_c (pe_exfld (pv 0) rfl) pa_nil))))
      pss_nil)
    (pss_cons (ps_if (pt_val (pe_callB call_inst rfl T.n_isinstance bt_isinstance (pa_c (pv 0) (pa_c (pe_tup (pa_c (pe_glob (v := .ref (c 18)) rfl MTooMany rfl) (pa_c (pe_glob (v := .ref (c 19)) rfl MTooFew rfl) pa_nil))) pa_nil))))
      (pss_one (ps_ret (pe_lst (pa_c (pe_exfld (pv 0) rfl) pa_nil))))
      pss_nil)
    (pss_cons (ps_if (pt_val (pe_callB call_inst rfl T.n_isinstance bt_isinstance (pa_c (pv 0) (pa_c (pe_tup (pa_c (pe_glob (v := .ref (c 21)) rfl MEnded rfl) (pa_c (pe_glob (v := .ref (c 22)) rfl MGoing rfl) pa_nil))) pa_nil))))
      (pss_one (ps_ret (pe_lst (pa_c (pe_exfld (pv 0) rfl) pa_nil))))
      pss_nil)
    (pss_one (ps_ret (pe_lst pa_nil)))))))), ?_⟩
    refine ⟨_, rfl, (by show 8 ≤ sizeLine; decide), fun tp0 ft0 => ?_⟩
    generalize hG : upd H tp0 _ = J0
    have U0 : Same H J0 := (by rw [← hG]; exact Same.upd ft0)
    have d0 : J0 tp0 = some (.tup ([0, 1, 2, 3, 4, 5, 6, 7].map fun j => V.ref (c j))) := (by rw [← hG]; exact upd_same)
    clear hG
    have R0 : Same H J0 := Same.trans (Same.refl H) U0
    refine ⟨_, _, _, _, rfl, (x.thg g).keep R0, .inr (.inr ⟨tp0, [0, 1, 2, 3, 4, 5, 6, 7].map (fun j => V.ref (c j)), rfl, d0, refs_ok, kit_any hk (by decide)⟩), _, rfl, ite2 (fun q => ?_) (fun p0 => ?_)⟩
    · have m : i ∈ [0, 1, 2, 3, 4, 5, 6, 7] := any_mem q
      simp only [List.mem_cons, List.not_mem_nil, or_false] at m
      have ec : cf i = [("found" : Str)] := cf_found i (by omega)
      rw [ec] at hl
      obtain ⟨y, rfl⟩ := one_of hl
      have no := (Z.k i hi).no "found" (by rw [ec]; simp)
      refine ⟨_, rfl, e, c i, dx, some t, _, y, rfl, R0 _ _ he, R0 _ _ hx, g, no, (by rw [ec]; exact lk1), (by show 1 ≤ sizeLine; decide), fun l fl => ?_⟩
      refine k l _ (R0.free fl) ?_ (R0.trans (Same.upd fl))
      rw [upd_same, if_pos (by omega)]
    refine ⟨_, rfl, (by show 7 ≤ sizeLine; decide), fun tp1 ft1 => ?_⟩
    generalize hG : upd J0 tp1 _ = J1
    have U1 : Same J0 J1 := (by rw [← hG]; exact Same.upd ft1)
    have d1 : J1 tp1 = some (.tup ([8, 9, 10, 11, 12, 13, 14].map fun j => V.ref (c j))) := (by rw [← hG]; exact upd_same)
    clear hG
    have R1 : Same H J1 := Same.trans R0 U1
    refine ⟨_, _, _, _, rfl, (x.thg g).keep R1, .inr (.inr ⟨tp1, [8, 9, 10, 11, 12, 13, 14].map (fun j => V.ref (c j)), rfl, d1, refs_ok, kit_any hk (by decide)⟩), _, rfl, ite2 (fun q => ?_) (fun p1 => ?_)⟩
    · have m : i ∈ [8, 9, 10, 11, 12, 13, 14] := any_mem q
      simp only [List.mem_cons, List.not_mem_nil, or_false] at m
      have ec : cf i = [("found" : Str)] := cf_found i (by omega)
      rw [ec] at hl
      obtain ⟨y, rfl⟩ := one_of hl
      have no := (Z.k i hi).no "found" (by rw [ec]; simp)
      refine ⟨_, rfl, e, c i, dx, some t, _, y, rfl, R1 _ _ he, R1 _ _ hx, g, no, (by rw [ec]; exact lk1), (by show 1 ≤ sizeLine; decide), fun l fl => ?_⟩
      refine k l _ (R1.free fl) ?_ (R1.trans (Same.upd fl))
      rw [upd_same, if_pos (by omega)]
    refine ⟨_, rfl, (by show 3 ≤ sizeLine; decide), fun tp2 ft2 => ?_⟩
    generalize hG : upd J1 tp2 _ = J2
    have U2 : Same J1 J2 := (by rw [← hG]; exact Same.upd ft2)
    have d2 : J2 tp2 = some (.tup ([15, 16, 17].map fun j => V.ref (c j))) := (by rw [← hG]; exact upd_same)
    clear hG
    have R2 : Same H J2 := Same.trans R1 U2
    refine ⟨_, _, _, _, rfl, (x.thg g).keep R2, .inr (.inr ⟨tp2, [15, 16, 17].map (fun j => V.ref (c j)), rfl, d2, refs_ok, kit_any hk (by decide)⟩), _, rfl, ite2 (fun q => ?_) (fun p2 => ?_)⟩
    · have m : i ∈ [15, 16, 17] := any_mem q
      simp only [List.mem_cons, List.not_mem_nil, or_false] at m
      have ec : cf i = [("key" : Str)] := cf_key i (by omega) (by omega)
      rw [ec] at hl
      obtain ⟨y, rfl⟩ := one_of hl
      have no := (Z.k i hi).no "key" (by rw [ec]; simp)
      refine ⟨_, rfl, e, c i, dx, some t, _, y, rfl, R2 _ _ he, R2 _ _ hx, g, no, (by rw [ec]; exact lk1), (by show 1 ≤ sizeLine; decide), fun l fl => ?_⟩
      refine k l _ (R2.free fl) ?_ (R2.trans (Same.upd fl))
      rw [upd_same, if_pos (by omega)]
    refine ⟨_, rfl, (by show 2 ≤ sizeLine; decide), fun tp3 ft3 => ?_⟩
    generalize hG : upd J2 tp3 _ = J3
    have U3 : Same J2 J3 := (by rw [← hG]; exact Same.upd ft3)
    have d3 : J3 tp3 = some (.tup ([18, 19].map fun j => V.ref (c j))) := (by rw [← hG]; exact upd_same)
    clear hG
    have R3 : Same H J3 := Same.trans R2 U3
    refine ⟨_, _, _, _, rfl, (x.thg g).keep R3, .inr (.inr ⟨tp3, [18, 19].map (fun j => V.ref (c j)), rfl, d3, refs_ok, kit_any hk (by decide)⟩), _, rfl, ite2 (fun q => ?_) (fun p3 => ?_)⟩
    · have m : i ∈ [18, 19] := any_mem q
      simp only [List.mem_cons, List.not_mem_nil, or_false] at m
      have ec : cf i = [("count" : Str)] := cf_count i (by omega) (by omega)
      rw [ec] at hl
      obtain ⟨y, rfl⟩ := one_of hl
      have no := (Z.k i hi).no "count" (by rw [ec]; simp)
      refine ⟨_, rfl, e, c i, dx, some t, _, y, rfl, R3 _ _ he, R3 _ _ hx, g, no, (by rw [ec]; exact lk1), (by show 1 ≤ sizeLine; decide), fun l fl => ?_⟩
      refine k l _ (R3.free fl) ?_ (R3.trans (Same.upd fl))
      rw [upd_same, if_pos (by omega)]
    refine ⟨_, rfl, (by show 2 ≤ sizeLine; decide), fun tp4 ft4 => ?_⟩
    generalize hG : upd J3 tp4 _ = J4
    have U4 : Same J3 J4 := (by rw [← hG]; exact Same.upd ft4)
    have d4 : J4 tp4 = some (.tup ([21, 22].map fun j => V.ref (c j))) := (by rw [← hG]; exact upd_same)
    clear hG
    have R4 : Same H J4 := Same.trans R3 U4
    refine ⟨_, _, _, _, rfl, (x.thg g).keep R4, .inr (.inr ⟨tp4, [21, 22].map (fun j => V.ref (c j)), rfl, d4, refs_ok, kit_any hk (by decide)⟩), _, rfl, ite2 (fun q => ?_) (fun p4 => ?_)⟩
    · have m : i ∈ [21, 22] := any_mem q
      simp only [List.mem_cons, List.not_mem_nil, or_false] at m
      have ec : cf i = [("doer" : Str)] := cf_doer i (by omega) (by omega)
      rw [ec] at hl
      obtain ⟨y, rfl⟩ := one_of hl
      have no := (Z.k i hi).no "doer" (by rw [ec]; simp)
      refine ⟨_, rfl, e, c i, dx, some t, _, y, rfl, R4 _ _ he, R4 _ _ hx, g, no, (by rw [ec]; exact lk1), (by show 1 ≤ sizeLine; decide), fun l fl => ?_⟩
      refine k l _ (R4.free fl) ?_ (R4.trans (Same.upd fl))
      rw [upd_same, if_pos (by omega)]
    refine ⟨(by show 0 ≤ sizeLine; decide), fun l fl => ?_⟩
    refine k l _ (R4.free fl) ?_ (R4.trans (Same.upd fl))
    rw [upd_same, if_neg]
    have m0 := not_any p0
    have m1 := not_any p1
    have m2 := not_any p2
    have m3 := not_any p3
    have m4 := not_any p4
    simp only [List.mem_cons, List.not_mem_nil, or_false] at m0 m1 m2 m3 m4
    omega
end
end K02

set_option Elab.async false
set_option linter.all false
set_option maxRecDepth 100000
set_option maxHeartbeats 4000000
namespace K02
open PySem L2
section
variable {P : Program} {w : World} {K : PySem.W.Frag} {mg : Str → Option Value} {base : Heap} {c : Nat → Addr} {TT : Addr}
abbrev s__law_two : Stmt := top 41
theorem sc__law_two : FnScope ["_law_e"] ["_law_e"] (defScope s__law_two) := ⟨rfl, rfl, rfl, by decide +kernel, rfl, by decide +kernel, by decide +kernel⟩
theorem ok_two (hd : ∃ f fd, Dn K mg "_law_two" "_law_two" s__law_two ["_law_e"] f fd) (T : Txt K mg) (Z : All P w K mg base c TT) : OkD P w K mg base "_law_two" s__law_two ["_law_e"] 1 (spTwo c) := by
  obtain ⟨f, fd, D⟩ := hd
  refine ⟨f, fd, D, D.fn.ok sc__law_two (fun vs H Q E h => ?_) (fun cdv A outer s H vs Q E hr h => ?_)⟩
  · obtain ⟨_, _, _, rfl, _⟩ := h
    rfl
  · obtain ⟨e, i, ws, rfl, hi, x, k⟩ := h
    have g := (Z.k i hi).g
    have hk := fun j hj => Z.one i j hi hj
    obtain ⟨dx, t, txt, he, hx, ht, _, hl⟩ := id x
    have MGone : mg "Gone" = some (.ref (c 20)) := (Z.k 20 (by decide)).m
    have MBadLine : mg "BadLine" = some (.ref (c 23)) := (Z.k 23 (by decide)).m
    have MNoSpan : mg "NoSpan" = some (.ref (c 24)) := (Z.k 24 (by decide)).m
    have MNoEdge : mg "NoEdge" = some (.ref (c 25)) := (Z.k 25 (by decide)).m
    have MHeld : mg "Held" = some (.ref (c 26)) := (Z.k 26 (by decide)).m
    have MNotHeld : mg "NotHeld" = some (.ref (c 27)) := (Z.k 27 (by decide)).m
    have MWaits : mg "Waits" = some (.ref (c 28)) := (Z.k 28 (by decide)).m
    refine ⟨_, (pss_cons (ps_if (pt_val (pe_callB call_inst rfl T.n_isinstance bt_isinstance (pa_c (pv 0) (pa_c (pe_glob (v := .ref (c 20)) rfl MGone rfl) pa_nil))))
      (pss_one (ps_ret (pe_lst (pa_c (pe_exfld (pv 0) rfl) pa_nil))))
      pss_nil)
    (pss_cons (ps_if (pt_val (pe_callB call_inst rfl T.n_isinstance bt_isinstance (pa_c (pv 0) (pa_c (pe_glob (v := .ref (c 23)) rfl MBadLine rfl) pa_nil))))
      (pss_one (ps_ret (pe_lst (pa_c (pe_exfld (pv 0) rfl) pa_nil))))
      pss_nil)
    (pss_cons (ps_if (pt_val (pe_callB call_inst rfl T.n_isinstance bt_isinstance (pa_c (pv 0) (pa_c (pe_glob (v := .ref (c 24)) rfl MNoSpan rfl) pa_nil))))
      (pss_one (ps_ret (pe_lst (pa_c (pe_exfld (pv 0) rfl) (pa_c (pe_exfld (pv 0) rfl) pa_nil)))))
      pss_nil)
    (pss_cons (ps_if (pt_val (pe_callB call_inst rfl T.n_isinstance bt_isinstance (pa_c (pv 0) (pa_c (pe_glob (v := .ref (c 25)) rfl MNoEdge rfl) pa_nil))))
      (pss_one (ps_ret (pe_lst (pa_c (pe_exfld (pv 0) rfl) (pa_c (pe_exfld (pv 0) rfl) pa_nil)))))
      pss_nil)
    (pss_cons (ps_if (pt_val (pe_callB call_inst rfl T.n_isinstance bt_isinstance (pa_c (pv 0) (pa_c (pe_glob (v := .ref (c 26)) rfl MHeld rfl) pa_nil))))
      (pss_one (ps_ret (pe_lst (pa_c (pe_exfld (pv 0) rfl) (pa_c (pe_exfld (pv 0) rfl) pa_nil)))))
      pss_nil)
    (pss_cons (ps_if (pt_val (pe_callB call_inst rfl T.n_isinstance bt_isinstance (pa_c (pv 0) (pa_c (pe_glob (v := .ref (c 27)) rfl MNotHeld rfl) pa_nil))))
      (pss_one (ps_ret (pe_lst (pa_c (pe_exfld (pv 0) rfl) (pa_c (pe_exfld (pv 0) rfl) pa_nil)))))
      pss_nil)
    (pss_cons (ps_if (pt_val (pe_callB call_inst rfl T.n_isinstance bt_isinstance (pa_c (pv 0) (pa_c (pe_glob (v := .ref (c 28)) rfl MWaits rfl) pa_nil))))
      (pss_one (ps_ret (pe_lst (pa_c (pe_exfld (pv 0) rfl) (pa_c (pe_exfld (pv 0) rfl) pa_nil)))))
      pss_nil)
    (pss_one (ps_ret (pe_lst pa_nil)))))))))), ?_⟩
    refine ⟨_, rfl, _, _, _, _, rfl, x.thg g, .inr (.inl ⟨_, rfl, hk 20 (by decide)⟩), _, rfl, ite2 (fun q => ?_) (fun p20 => ?_)⟩
    · have m : i = 20 := of_decide_eq_true q
      subst m
      obtain ⟨y, rfl⟩ := one_of (x := "place") hl
      refine ⟨_, rfl, e, c 20, dx, some t, _, y, rfl, he, hx, g, (Z.k 20 hi).no "place" (by decide +kernel), lk1, (by show 1 ≤ sizeLine; decide), fun l fl => ?_⟩
      exact k l _ fl upd_same (Same.upd fl)
    refine ⟨_, rfl, _, _, _, _, rfl, x.thg g, .inr (.inl ⟨_, rfl, hk 23 (by decide)⟩), _, rfl, ite2 (fun q => ?_) (fun p23 => ?_)⟩
    · have m : i = 23 := of_decide_eq_true q
      subst m
      obtain ⟨y, rfl⟩ := one_of (x := "row") hl
      refine ⟨_, rfl, e, c 23, dx, some t, _, y, rfl, he, hx, g, (Z.k 23 hi).no "row" (by decide +kernel), lk1, (by show 1 ≤ sizeLine; decide), fun l fl => ?_⟩
      exact k l _ fl upd_same (Same.upd fl)
    refine ⟨_, rfl, _, _, _, _, rfl, x.thg g, .inr (.inl ⟨_, rfl, hk 24 (by decide)⟩), _, rfl, ite2 (fun q => ?_) (fun p24 => ?_)⟩
    · have m : i = 24 := of_decide_eq_true q
      subst m
      obtain ⟨y, y', rfl⟩ := two_of (x := "low") (x' := "high") hl
      refine ⟨_, rfl, e, c 24, dx, some t, _, y, rfl, he, hx, g, (Z.k 24 hi).no "low" (by decide +kernel), lk2a, _, rfl, e, c 24, dx, some t, _, y', rfl, he, hx, g, (Z.k 24 hi).no "high" (by decide +kernel), lk2b (by decide +kernel), (by show 2 ≤ sizeLine; decide), fun l fl => ?_⟩
      exact k l _ fl upd_same (Same.upd fl)
    refine ⟨_, rfl, _, _, _, _, rfl, x.thg g, .inr (.inl ⟨_, rfl, hk 25 (by decide)⟩), _, rfl, ite2 (fun q => ?_) (fun p25 => ?_)⟩
    · have m : i = 25 := of_decide_eq_true q
      subst m
      obtain ⟨y, y', rfl⟩ := two_of (x := "high") (x' := "right") hl
      refine ⟨_, rfl, e, c 25, dx, some t, _, y, rfl, he, hx, g, (Z.k 25 hi).no "high" (by decide +kernel), lk2a, _, rfl, e, c 25, dx, some t, _, y', rfl, he, hx, g, (Z.k 25 hi).no "right" (by decide +kernel), lk2b (by decide +kernel), (by show 2 ≤ sizeLine; decide), fun l fl => ?_⟩
      exact k l _ fl upd_same (Same.upd fl)
    refine ⟨_, rfl, _, _, _, _, rfl, x.thg g, .inr (.inl ⟨_, rfl, hk 26 (by decide)⟩), _, rfl, ite2 (fun q => ?_) (fun p26 => ?_)⟩
    · have m : i = 26 := of_decide_eq_true q
      subst m
      obtain ⟨y, y', rfl⟩ := two_of (x := "place") (x' := "holder") hl
      refine ⟨_, rfl, e, c 26, dx, some t, _, y, rfl, he, hx, g, (Z.k 26 hi).no "place" (by decide +kernel), lk2a, _, rfl, e, c 26, dx, some t, _, y', rfl, he, hx, g, (Z.k 26 hi).no "holder" (by decide +kernel), lk2b (by decide +kernel), (by show 2 ≤ sizeLine; decide), fun l fl => ?_⟩
      exact k l _ fl upd_same (Same.upd fl)
    refine ⟨_, rfl, _, _, _, _, rfl, x.thg g, .inr (.inl ⟨_, rfl, hk 27 (by decide)⟩), _, rfl, ite2 (fun q => ?_) (fun p27 => ?_)⟩
    · have m : i = 27 := of_decide_eq_true q
      subst m
      obtain ⟨y, y', rfl⟩ := two_of (x := "place") (x' := "doer") hl
      refine ⟨_, rfl, e, c 27, dx, some t, _, y, rfl, he, hx, g, (Z.k 27 hi).no "place" (by decide +kernel), lk2a, _, rfl, e, c 27, dx, some t, _, y', rfl, he, hx, g, (Z.k 27 hi).no "doer" (by decide +kernel), lk2b (by decide +kernel), (by show 2 ≤ sizeLine; decide), fun l fl => ?_⟩
      exact k l _ fl upd_same (Same.upd fl)
    refine ⟨_, rfl, _, _, _, _, rfl, x.thg g, .inr (.inl ⟨_, rfl, hk 28 (by decide)⟩), _, rfl, ite2 (fun q => ?_) (fun p28 => ?_)⟩
    · have m : i = 28 := of_decide_eq_true q
      subst m
      obtain ⟨y, y', rfl⟩ := two_of (x := "doer") (x' := "place") hl
      refine ⟨_, rfl, e, c 28, dx, some t, _, y, rfl, he, hx, g, (Z.k 28 hi).no "doer" (by decide +kernel), lk2a, _, rfl, e, c 28, dx, some t, _, y', rfl, he, hx, g, (Z.k 28 hi).no "place" (by decide +kernel), lk2b (by decide +kernel), (by show 2 ≤ sizeLine; decide), fun l fl => ?_⟩
      exact k l _ fl upd_same (Same.upd fl)
    refine ⟨(by show 0 ≤ sizeLine; decide), fun l fl => ?_⟩
    refine k l _ fl ?_ (Same.upd fl)
    rw [upd_same, if_pos]
    have m20 : ¬ i = 20 := fun z => p20 (decide_eq_true z)
    have m23 : ¬ i = 23 := fun z => p23 (decide_eq_true z)
    have m24 : ¬ i = 24 := fun z => p24 (decide_eq_true z)
    have m25 : ¬ i = 25 := fun z => p25 (decide_eq_true z)
    have m26 : ¬ i = 26 := fun z => p26 (decide_eq_true z)
    have m27 : ¬ i = 27 := fun z => p27 (decide_eq_true z)
    have m28 : ¬ i = 28 := fun z => p28 (decide_eq_true z)
    omega
end
end K02

set_option Elab.async false
set_option linter.all false
set_option maxRecDepth 100000
set_option maxHeartbeats 4000000
namespace K02
open PySem L2
/-- a thing that can be shown, whatever becomes of the box -/
def Shn (P : Program) (w : World) (K : PySem.W.Frag) (p : Addr) (H : Hp) (v : V) : Prop := ∃ (as : List Addr) (d : Nat) (t : Str), d ≤ 10 ∧ (∀ b ∈ as, b ≠ p ∧ ∃ o, H b = some o) ∧ t.length ≤ 5000 ∧ Shw P w K p H as d v t
theorem Shn.keep {P : Program} {w : World} {K : PySem.W.Frag} {p : Addr} {H H' : Hp} {v : V} (x : Shn P w K p H v) (k : KB p H H') : Shn P w K p H' v :=
  let ⟨as, d, t, a, b, c, s⟩ := x; ⟨as, d, t, a, fun y hy => let ⟨n, o, e⟩ := b y hy; ⟨n, o, k _ _ e n⟩, c, s.keep k⟩
theorem big30 {z : Int} (h : z.natAbs < 2 ^ 110) : z.natAbs.log2 < 1920 := by
  by_cases e : z.natAbs = 0
  · rw [e]; decide
  · have := (Nat.log2_lt e).mpr h
    omega
theorem len_int {z : Int} (h : z.natAbs < 2 ^ 110) : (Str.ofString (toString z)).length ≤ 1921 := PyProof.Rows.int_text_len_1921 (big30 h)
section
variable {P : Program} {w : World} {K : PySem.W.Frag} {p : Addr} {H : Hp}
theorem none_in {P : Addr → Prop} : ∀ b ∈ ([] : List Addr), P b := fun b h => absurd h (by simp)
theorem shn_int {z : Int} (h : z.natAbs < 2 ^ 110) : Shn P w K p H (.int z) := ⟨[], 0, toString z, by omega, none_in, by have := len_int h; omega, shw_int (big30 h)⟩
theorem shn_bl {b : Bool} : Shn P w K p H (.bl b) := ⟨[], 0, (if b then "True" else "False"), by omega, none_in, by cases b <;> decide +kernel, shw_bl⟩
theorem shn_non : Shn P w K p H .non := ⟨[], 0, "None", by omega, none_in, by decide +kernel, shw_non⟩
theorem shn_str {x : Str} (h : (reprText x).length ≤ 5000) : Shn P w K p H (.str x) := ⟨[], 0, reprText x, by omega, none_in, h, shw_str (Nat.le_trans h (by decide))⟩
end
def spThing (P : Program) (w : World) (K : PySem.W.Frag) : Sp := fun vs H Q _ => ∃ (p : Addr) (n : Nat), vs = [.ref p] ∧ Box H p n ∧ n ≤ 999000 ∧ ∀ (v : V) (H' : Hp), Shn P w K p H' v → Box H' p (n + 3) → KB p H H' → Q v H'
theorem text5 : (reprText "x").length ≤ 10 ∧ (reprText "a").length ≤ 10 ∧ ("None" : Str).length ≤ 10 ∧ ("[]" : Str).length ≤ 10 ∧ (": " : Str).length ≤ 10 := by decide +kernel
section
variable {P : Program} {w : World} {K : PySem.W.Frag} {mg : Str → Option Value} {base : Heap} {c : Nat → Addr} {TT : Addr}
abbrev s__law_thing : Stmt := top 35
theorem sc__law_thing : FnScope ["_law_box_here", "_law_way", "_law_number", "_law_some"] ["_law_box_here"] (defScope s__law_thing) := ⟨rfl, rfl, rfl, by decide +kernel, rfl, by decide +kernel, by decide +kernel⟩
theorem ok_thing (hd : ∃ f fd, Dn K mg "_law_thing" "_law_thing" s__law_thing ["_law_box_here"] f fd) (T : Txt K mg) (Z : All P w K mg base c TT) (h1 : OkD P w K mg base "_law_take" s__law_take ["_law_box_here", "_law_many"] 1 spTake) :
    OkD P w K mg base "_law_thing" s__law_thing ["_law_box_here"] 3 (spThing P w K) := by
  obtain ⟨f, fd, D⟩ := hd
  obtain ⟨f1, fd1, D_law_take, G_law_take⟩ := h1
  refine ⟨f, fd, D, D.fn.ok sc__law_thing (fun vs H Q E h => ?_) (fun cdv A outer s H vs Q E hr h => ?_)⟩
  · obtain ⟨_, _, rfl, _⟩ := h
    rfl
  · obtain ⟨p, n, rfl, B, hn, k⟩ := h
    have sc := sc__law_thing
    obtain ⟨fI_NoKey, fd_NoKey, XNoKey, GNoKey, BNoKey⟩ := (Z.k 0 (by decide)).ex
    have MNoKey : mg "NoKey" = some (.ref (c 0)) := (Z.k 0 (by decide)).m
    replace GNoKey : FnOk P w K mg base CX0 1 fI_NoKey fd_NoKey ["self", "found"] (spInit (c 0) ["found"]) := GNoKey
    replace BNoKey : Binds K fd_NoKey ["self", "found"] [] := BNoKey
    have hV : ∀ (ps : Pos), PE (cxOf CX0 P w K mg base ["_law_box_here", "_law_way", "_law_number", "_law_some"] "_law_thing" (defScope s__law_thing) f cdv A outer s H E).nox (.Name "_law_number" ps) (tVar 2) := fun ps => pv 2
    have hS : ∀ (j : Nat) (p1 p2 p3 : Pos), PE (cxOf CX0 P w K mg base ["_law_box_here", "_law_way", "_law_number", "_law_some"] "_law_thing" (defScope s__law_thing) f cdv A outer s H E).nox (.BinOp (.Constant (.int 0) j p1) .Sub (.Name "_law_number" p2) p3) _ := fun j p1 p2 p3 => pe_op op_sub pe_int (pv 2)
    refine' ⟨_, pss_cons ?a (pss_cons ?b (pss_cons ?c (pss_one ?d))), ?r⟩
    case a => exact (ps_set (i := 1) sc.nd rfl (Or.inl rfl) (pe_call G_law_take (hr.mono (by decide)) rfl D_law_take.m D_law_take.fn.kp D_law_take.b .nil pass0 (pa_c (pv 0) (pa_c pe_int pa_nil))))
    case b => exact (ps_set (i := 2) sc.nd rfl (Or.inl rfl) (pe_op op_add (pe_op op_mul (pe_call G_law_take (hr.mono (by decide)) rfl D_law_take.m D_law_take.fn.kp D_law_take.b .nil pass0 (pa_c (pv 0) (pa_c (pe_op op_pow pe_int pe_int) pa_nil))) (pe_op op_pow pe_int pe_int)) (pe_call G_law_take (hr.mono (by decide)) rfl D_law_take.m D_law_take.fn.kp D_law_take.b .nil pass0 (pa_c (pv 0) (pa_c (pe_op op_pow pe_int pe_int) pa_nil)))))
    case c =>
      refine' ps_set (i := 3) sc.nd rfl (Or.inl rfl) ?e
      case e => with_reducible exact pe_lst (pa_ofE (hV _) rfl (pa_ofE (hS _ _ _ _) rfl (pa_bl (pa_bl (pa_non (pa_str (pa_str (pa_lst (pa_ofE (hV _) rfl (pa_str pa_nil)) (pa_tup (pa_ofE (hV _) rfl (pa_non pa_nil)) (pa_disp1 pe_str (hV _) pa_nil))))))))))
    case d => exact (ps_ret (pe_ix ix_list (pe_op op_cat (pv 3) (pe_lst (pa_c (pe_lst (pa_c (pe_lst pa_nil) (pa_c (pe_lst (pa_c (pe_lst (pa_c (pv 2) pa_nil)) pa_nil)) pa_nil))) (pa_c (pe_exc XNoKey GNoKey (hr.mono (by decide)) rfl MNoKey BNoKey (pa_c (pv 2) pa_nil)) pa_nil)))) (pv 1) (fun _ _ => rfl)))
    case r =>
    refine ⟨_, rfl, p, 12, n, rfl, B, by omega, by decide, by decide, fun way H1 a0 a1 B1 k1 => ?_⟩
    refine ⟨_, rfl, _, _, rfl, rfl, cp (by decide) (by decide), p, _, n + 1, rfl, B1, by omega, by decide +kernel, by decide +kernel, fun r2 H2 b0 b1 B2 k2 => ?_⟩
    refine ⟨_, _, rfl, rfl, cp (by decide) (by decide), _, _, rfl, rfl, .inr ⟨by decide +kernel, by decide +kernel⟩, _, rfl, _, _, rfl, rfl, cp (by decide) (by decide), p, _, n + 2, rfl, B2, by omega, by decide +kernel, by decide +kernel, fun r3 H3 c0 c1 B3 k3 => ⟨_, _, rfl, rfl, ?_⟩⟩
    have e15 : (10 : Int) ^ (15 : Int).toNat = 1000000000000000 := by decide +kernel
    have b1' : r2 < 1000000000000000 := by rw [← e15]; exact b1
    have c1' : r3 < 1000000000000000 := by rw [← e15]; exact c1
    rw [e15]
    have z1 : (r2 * 1000000000000000 + r3).natAbs < 2 ^ 110 := by omega
    have z2 : (0 - (r2 * 1000000000000000 + r3)).natAbs < 2 ^ 110 := by omega
    have K3 : KB p H H3 := (k1.trans k2).trans k3
    clear k1 k2 k3
    have nE : ∀ {q : Addr} {J : Hp}, Same H3 J → J q = none → q ≠ p := fun {q J} s h => (kb_free s.kb (B3.same s) h).2
    refine ⟨_, rfl, _, rfl, _, _, rfl, rfl, _, rfl, (by show 2 ≤ sizeLine; decide), fun l1 f1 => ?_⟩
    generalize hG : upd H3 l1 _ = J1
    have S1 : Same H3 J1 := (by rw [← hG]; exact Same.upd f1)
    have e1 : J1 l1 = some (.lst [.int (r2 * 1000000000000000 + r3), .str "x"]) := (by rw [← hG]; exact upd_same)
    clear hG
    refine ⟨_, rfl, (by show 2 ≤ sizeLine; decide), fun t1 f2 => ?_⟩
    generalize hG : upd J1 t1 _ = J2
    have S2 : Same J1 J2 := (by rw [← hG]; exact Same.upd f2)
    have e2 : J2 t1 = some (.tup [.int (r2 * 1000000000000000 + r3), .non]) := (by rw [← hG]; exact upd_same)
    clear hG
    intro d1 f3
    refine ⟨_, rfl, upd_same, [(Sum.inr "a", .int (r2 * 1000000000000000 + r3))], rfl, (by show 1 ≤ 15; decide), ?_⟩
    have S3 : Same J2 (upd (upd J2 d1 (.dK [])) d1 (.dK (mergeK [] [(Sum.inr "a", .int (r2 * 1000000000000000 + r3))]))) := sameD (Same.upd f3) f3
    have e3 : upd (upd J2 d1 (.dK [])) d1 (.dK (mergeK [] [(Sum.inr "a", .int (r2 * 1000000000000000 + r3))])) d1 = some (.dK [(Sum.inr "a", .int (r2 * 1000000000000000 + r3))]) := upd_same
    generalize upd (upd J2 d1 (.dK [])) d1 (.dK (mergeK [] [(Sum.inr "a", .int (r2 * 1000000000000000 + r3))])) = J3 at *
    have R3 := (S1.trans S2).trans S3
    have n1 := nE (Same.refl _) f1
    have n2 := nE S1 f2
    have n3 := nE (S1.trans S2) f3
    refine ⟨(by show 10 ≤ sizeLine; decide), fun s1 f4 => ?_⟩
    generalize hG : upd J3 s1 _ = J4
    have S4 : Same J3 J4 := (by rw [← hG]; exact Same.upd f4)
    have e4 : J4 s1 = some (.lst [.int (r2 * 1000000000000000 + r3), .int (0 - (r2 * 1000000000000000 + r3)), .bl true, .bl false, .non, .str "", .str "a key", .ref l1, .ref t1, .ref d1]) := (by rw [← hG]; exact upd_same)
    clear hG
    have R4 := R3.trans S4
    refine ⟨_, rfl, (by show 0 ≤ sizeLine; decide), fun m1 f5 => ?_⟩
    generalize hG : upd J4 m1 _ = J5
    have S5 : Same J4 J5 := (by rw [← hG]; exact Same.upd f5)
    have e5 : J5 m1 = some (.lst []) := (by rw [← hG]; exact upd_same)
    clear hG
    have n5 := nE R4 f5
    have R5 := R4.trans S5
    refine ⟨_, rfl, (by show 1 ≤ sizeLine; decide), fun m2 f6 => ?_⟩
    generalize hG : upd J5 m2 _ = J6
    have S6 : Same J5 J6 := (by rw [← hG]; exact Same.upd f6)
    have e6 : J6 m2 = some (.lst [.int (r2 * 1000000000000000 + r3)]) := (by rw [← hG]; exact upd_same)
    clear hG
    have n6 := nE R5 f6
    have R6 := R5.trans S6
    refine ⟨(by show 1 ≤ sizeLine; decide), fun m3 f7 => ?_⟩
    generalize hG : upd J6 m3 _ = J7
    have S7 : Same J6 J7 := (by rw [← hG]; exact Same.upd f7)
    have e7 : J7 m3 = some (.lst [.ref m2]) := (by rw [← hG]; exact upd_same)
    clear hG
    have n7 := nE R6 f7
    have R7 := R6.trans S7
    refine ⟨(by show 2 ≤ sizeLine; decide), fun m4 f8 => ?_⟩
    generalize hG : upd J7 m4 _ = J8
    have S8 : Same J7 J8 := (by rw [← hG]; exact Same.upd f8)
    have e8 : J8 m4 = some (.lst [.ref m1, .ref m3]) := (by rw [← hG]; exact upd_same)
    clear hG
    have n8 := nE R7 f8
    have R8 := R7.trans S8
    refine ⟨_, rfl, (by show 1 ≤ sizeLine; decide), fun e he => ⟨e, [.int (r2 * 1000000000000000 + r3)], rfl, rfl, upd_same, fun dx t txt J9 h1 h2 q1 q2 q3 hl a b d r => ⟨rfl, ?_⟩⟩⟩
    have fdx : J8 dx = none := by rwa [upd_ne q1] at h1
    have ft : J8 t = none := by rwa [upd_ne q2] at h2
    have em := err_mk (c := c) (i := 0) (ws := [.int (r2 * 1000000000000000 + r3)]) he h1 h2 q1 q2 q3 hl a b d r rfl
    have S9 : Same J8 J9 := em.2
    have n9 := nE R8 he
    have nx := nE R8 fdx
    have nt := nE R8 ft
    have R9 := R8.trans S9
    refine ⟨(by show 2 ≤ sizeLine; decide), fun m5 f10 => ?_⟩
    generalize hG : upd J9 m5 _ = JA
    have SA : Same J9 JA := (by rw [← hG]; exact Same.upd f10)
    have eA : JA m5 = some (.lst [.ref m4, .ref e]) := (by rw [← hG]; exact upd_same)
    clear hG
    refine ⟨s1, m5, _, _, rfl, rfl, SA _ _ (S9 _ _ (S8 _ _ (S7 _ _ (S6 _ _ (S5 _ _ e4))))), eA, (by show 10 + 2 ≤ sizeLine; decide), fun m6 f11 => ?_⟩
    generalize hG : upd JA m6 _ = JB
    have SB : Same JA JB := (by rw [← hG]; exact Same.upd f11)
    have eB : JB m6 = some (.lst ([.int (r2 * 1000000000000000 + r3), .int (0 - (r2 * 1000000000000000 + r3)), .bl true, .bl false, .non, .str "", .str "a key", .ref l1, .ref t1, .ref d1] ++ [.ref m4, .ref e])) := (by rw [← hG]; exact upd_same)
    clear hG
    have RB := (R9.trans SA).trans SB
    obtain ⟨v, hv, ev⟩ := atI_mem (xs := [.int (r2 * 1000000000000000 + r3), .int (0 - (r2 * 1000000000000000 + r3)), .bl true, .bl false, .non, .str "", .str "a key", .ref l1, .ref t1, .ref d1] ++ [.ref m4, .ref e]) (r := way) a0 (by show way < 12; exact a1)
    refine ⟨_, rfl, _, _, _, _, rfl, rfl, SqL.of eB, ev, k v JB ?_ ((B3.same RB).mono (by omega)) (K3.trans RB.kb)⟩
    obtain ⟨x1, x2, x3, x4, x5⟩ := text5
    have zl := len_int z1
    have iz : ∀ {as : List Addr} {d : Nat}, Shw P w K p JB as d (.int (r2 * 1000000000000000 + r3)) (toString (r2 * 1000000000000000 + r3)) := shw_int (big30 z1)
    have g4 : ∀ {b : Addr} {o : HO}, J4 b = some o → JB b = some o := fun q => SB _ _ (SA _ _ (S9 _ _ (S8 _ _ (S7 _ _ (S6 _ _ (S5 _ _ q))))))
    simp only [List.cons_append, List.nil_append, List.mem_cons, List.not_mem_nil, or_false] at hv
    rcases hv with rfl | rfl | rfl | rfl | rfl | rfl | rfl | rfl | rfl | rfl | rfl | rfl
    · exact shn_int z1
    · exact shn_int z2
    · exact shn_bl
    · exact shn_bl
    · exact shn_non
    · exact shn_str (by decide +kernel)
    · exact shn_str (by decide +kernel)
    · have q : JB l1 = some (.lst [.int (r2 * 1000000000000000 + r3), .str "x"]) := g4 (S4 _ _ (S3 _ _ (S2 _ _ e1)))
      refine ⟨[l1], 1, _, by omega, fun b hb => ?_, ?_, shw_lst q n1 (by simp) (.cons iz (.cons (shw_str (Nat.le_trans x1 (by decide))) .nil))⟩
      · rw [List.mem_singleton.mp hb]; exact ⟨n1, _, q⟩
      · refine Nat.le_trans (listText_len_le _) ?_
        simp only [List.map_cons, List.map_nil, List.sum_cons, List.sum_nil, List.length_cons, List.length_nil]
        omega
    · have q : JB t1 = some (.tup [.int (r2 * 1000000000000000 + r3), .non]) := g4 (S4 _ _ (S3 _ _ e2))
      refine ⟨[t1], 1, _, by omega, fun b hb => ?_, ?_, shw_tup q n2 (by simp) (.cons iz (.cons shw_non .nil))⟩
      · rw [List.mem_singleton.mp hb]; exact ⟨n2, _, q⟩
      · refine Nat.le_trans (tupleText_len_le _) ?_
        simp only [List.map_cons, List.map_nil, List.sum_cons, List.sum_nil, List.length_cons, List.length_nil]
        omega
    · have q : JB d1 = some (.dK [(Sum.inr "a", .int (r2 * 1000000000000000 + r3))]) := g4 (S4 _ _ e3)
      refine ⟨[d1], 1, _, by omega, fun b hb => ?_, ?_, shw_dict1 q n3 (by simp) (Nat.le_trans x2 (by decide)) iz⟩
      · rw [List.mem_singleton.mp hb]; exact ⟨n3, _, q⟩
      · refine Nat.le_trans (dictText_len_le _) ?_
        simp only [List.map_cons, List.map_nil, List.sum_cons, List.sum_nil, List.length_cons, List.length_nil, strLen_append]
        omega
    · have g8 : ∀ {b : Addr} {o : HO}, J8 b = some o → JB b = some o := fun q => SB _ _ (SA _ _ (S9 _ _ q))
      have y1 : JB m1 = some (.lst []) := g8 (S8 _ _ (S7 _ _ (S6 _ _ e5)))
      have y2 : JB m2 = some (.lst [.int (r2 * 1000000000000000 + r3)]) := g8 (S8 _ _ (S7 _ _ e6))
      have y3 : JB m3 = some (.lst [.ref m2]) := g8 (S8 _ _ e7)
      have y4 : JB m4 = some (.lst [.ref m1, .ref m3]) := g8 e8
      have m32 : m3 ≠ m2 := (ne_of_none e6 f7).symm
      have m42 : m4 ≠ m2 := (ne_of_none (S7 _ _ e6) f8).symm
      have m43 : m4 ≠ m3 := (ne_of_none e7 f8).symm
      have s2 : Shw P w K p JB [m2] 1 (.ref m2) (listText [toString (r2 * 1000000000000000 + r3)]) := shw_lst y2 n6 (by simp) (.cons iz .nil)
      have s3 : Shw P w K p JB [m3, m2] 2 (.ref m3) (listText [listText [toString (r2 * 1000000000000000 + r3)]]) := shw_lst y3 n7 (by simp [m32]) (.cons s2 .nil)
      have s4 : Shw P w K p JB [m4, m3, m2] 3 (.ref m4) (listText ["[]", listText [listText [toString (r2 * 1000000000000000 + r3)]]]) := shw_lst y4 n8 (by simp [m42, m43]) (.cons (shw_nil y1 n5) (.cons s3 .nil))
      refine ⟨_, 3, _, by omega, fun b hb => ?_, ?_, s4⟩
      · simp only [List.mem_cons, List.not_mem_nil, or_false] at hb
        rcases hb with rfl | rfl | rfl
        · exact ⟨n8, _, y4⟩
        · exact ⟨n7, _, y3⟩
        · exact ⟨n6, _, y2⟩
      · have u1 := listText_len_le [Str.ofString (toString (r2 * 1000000000000000 + r3))]
        have u2 := listText_len_le [listText [Str.ofString (toString (r2 * 1000000000000000 + r3))]]
        have u3 := listText_len_le ["[]", listText [listText [Str.ofString (toString (r2 * 1000000000000000 + r3))]]]
        simp only [List.map_cons, List.map_nil, List.sum_cons, List.sum_nil, List.length_cons, List.length_nil] at u1 u2 u3
        omega
    · obtain ⟨dx', t', txt', a', b', d', hl', _⟩ := em.1
      have g9 : ∀ {b : Addr} {o : HO}, J9 b = some o → JB b = some o := fun q => SB _ _ (SA _ _ q)
      refine ⟨[], 0, _, by omega, none_in, ?_, shw_exc Z.told (g9 a) ⟨_, g9 b⟩ (g9 d) n9 nt nx⟩
      rw [strLen_append, strLen_append, strLen_append]
      have h0 : (excReprHead "NoKey").length ≤ 10 ∧ ("(" : Str).length ≤ 10 ∧ (")" : Str).length ≤ 10 := by decide +kernel
      omega
end
end K02

set_option Elab.async false
set_option linter.all false
set_option maxRecDepth 100000
set_option maxHeartbeats 4000000
namespace K02
open PySem L2
theorem bt_ValueError : bootBuiltins "ValueError" = some (.type "ValueError") := by decide +kernel
theorem bt_repr : bootBuiltins "repr" = some (.builtin "repr") := by decide +kernel
theorem cut2 {x y : V} {z : Int} {way : Nat} (e : z = way) : cutV [x, y] none (some (1 + (if decide (z > 23) = true then 1 else 0))) = if way < 24 then [x] else [x, y] := by
  by_cases h : way < 24
  · rw [if_pos h, if_neg (by rw [decide_eq_true_eq]; omega)]
    rfl
  · rw [if_neg h, if_pos (by rw [decide_eq_true_eq]; omega)]
    rfl
theorem ShwAll.keep {P : Program} {w : World} {K : PySem.W.Frag} {p : Addr} {H H' : Hp} {as : List Addr} {d : Nat} (k : KB p H H') : ∀ {xs : List V} {ts : List Str}, ShwAll P w K p H as d xs ts → ShwAll P w K p H' as d xs ts
  | _, _, .nil => .nil
  | _, _, .cons h t => .cons (h.keep k) (ShwAll.keep k t)
/-- a list of one or two things, with what shows it -/
theorem shn_list {P : Program} {w : World} {K : PySem.W.Frag} {p : Addr} {H : Hp} {x y : V} (way : Nat) (hx : Shn P w K p H x) (hy : Shn P w K p H y) : ∃ (x0 : V) (ys : List V) (as : List Addr) (d : Nat) (ts : List Str), (if way < 24 then [x] else [x, y]) = x0 :: ys ∧ d ≤ 20 ∧ (∀ b ∈ as, ∃ o, H b = some o) ∧
    ShwAll P w K p H as d (x0 :: ys) ts ∧ (listText ts).length ≤ sizeLine := by
  obtain ⟨a1, d1, t1, h1, h2, h3, h4⟩ := hx
  obtain ⟨b1, e1, u1, g1, g2, g3, g4⟩ := hy
  by_cases h : way < 24
  · refine ⟨x, [], a1, d1, [t1], by rw [if_pos h], by omega, fun b hb => (h2 b hb).2, .cons h4 .nil, ?_⟩
    refine Nat.le_trans (listText_len_le _) ?_
    simp only [List.map_cons, List.map_nil, List.sum_cons, List.sum_nil, List.length_cons, List.length_nil]
    exact Nat.le_trans (show _ ≤ 20000 by omega) (by decide)
  · refine ⟨x, [y], a1 ++ b1, 10, [t1, u1], by rw [if_neg h], by omega, fun b hb => ?_, .cons (h4.more (fun b hb => List.mem_append_left _ hb) h1) (.cons (g4.more (fun b hb => List.mem_append_right _ hb) g1) .nil), ?_⟩
    · rcases List.mem_append.mp hb with q | q
      · exact (h2 b q).2
      · exact (g2 b q).2
    · refine Nat.le_trans (listText_len_le _) ?_
      simp only [List.map_cons, List.map_nil, List.sum_cons, List.sum_nil, List.length_cons, List.length_nil]
      exact Nat.le_trans (show _ ≤ 20000 by omega) (by decide)
theorem fresh_not {H J : Hp} {as : List Addr} {l : Addr} (h : ∀ b ∈ as, ∃ o, H b = some o) (s : Same H J) (f : J l = none) : l ∉ as := fun m => by
  obtain ⟨o, e⟩ := h l m
  rw [s _ _ e] at f
  cases f
theorem both {A : Prop} [Decidable A] {ws : List V} : (if A then ws else []) ++ (if A then [] else ws) = ws := by split <;> simp
theorem two_len {A : Prop} [Decidable A] {x y : V} : (if A then [x] else [x, y]).length ≤ 2 := by split <;> simp
theorem part_len {A B : Prop} [Decidable A] [Decidable B] {x y : V} : (if B then (if A then [x] else [x, y]) else []).length ≤ 2 := by
  split
  · exact two_len
  · exact Nat.zero_le _
theorem part_len' {A B : Prop} [Decidable A] [Decidable B] {x y : V} : (if B then [] else (if A then [x] else [x, y])).length ≤ 2 := by
  split
  · exact Nat.zero_le _
  · exact two_len
theorem marks_plain {i : Nat} : (marks i).all plainV = true := by
  refine List.all_eq_true.mpr fun x hx => ?_
  obtain ⟨j, _, rfl⟩ := List.mem_map.mp hx
  rfl
theorem mark_eq {z : Int} {way i : Nat} (e : z = way) : decide (V.int (0 + (i : Int)) = V.int z) = decide (way = i) := by
  by_cases h : way = i
  · rw [decide_eq_true h, decide_eq_true]
    rw [e, h, Int.zero_add]
  · rw [decide_eq_false h, decide_eq_false]
    intro q
    have := V.int.inj q
    omega
theorem big3 : (100 : Nat) ≤ sizeLine := by decide
theorem ns_self {t : Str} : (!decide (V.str t = V.str t)) = false := by simp
theorem ds_self {t : Str} : decide (V.str t = V.str t) = true := by simp
def spRight (P : Program) (w : World) (K : PySem.W.Frag) : Sp := fun vs H Q _ => ∃ (p : Addr) (z : Int) (way : Nat) (x y : V), vs = [.int z, x, y] ∧ z = way ∧ way < 29 ∧ Shn P w K p H x ∧ Shn P w K p H y ∧ ∀ H', Same H H' → Q (.bl true) H'
section
variable {P : Program} {w : World} {K : PySem.W.Frag} {mg : Str → Option Value} {base : Heap} {c : Nat → Addr} {TT : Addr}
abbrev s__law_right : Stmt := top 42
theorem sc__law_right : FnScope ["_law_way", "_law_one_here", "_law_other", "_law_e", "_law_beside", "_law_due", "_law_back"] ["_law_way", "_law_one_here", "_law_other"] (defScope s__law_right) := ⟨rfl, rfl, rfl, by decide +kernel, rfl, by decide +kernel, by decide +kernel⟩
theorem ok_right (hd : ∃ f fd, Dn K mg "_law_right" "_law_right" s__law_right ["_law_way", "_law_one_here", "_law_other"] f fd) (T : Txt K mg) (Z : All P w K mg base c TT) (h1 : OkD P w K mg base "_law_made" s__law_made ["_law_way", "_law_one_here", "_law_other"] 4 (spMade c))
    (h2 : OkD P w K mg base "_law_kinds" s__law_kinds ["_law_e"] 1 (spKinds K c)) (h3 : OkD P w K mg base "_law_found" s__law_found ["_law_e"] 1 (spFound c)) (h4 : OkD P w K mg base "_law_two" s__law_two ["_law_e"] 1 (spTwo c)) :
    OkD P w K mg base "_law_right" s__law_right ["_law_way", "_law_one_here", "_law_other"] 5 (spRight P w K) := by
  obtain ⟨f, fd, D⟩ := hd
  obtain ⟨f1, fd1, D_law_made, G_law_made⟩ := h1
  obtain ⟨f2, fd2, D_law_kinds, G_law_kinds⟩ := h2
  obtain ⟨f3, fd3, D_law_found, G_law_found⟩ := h3
  obtain ⟨f4, fd4, D_law_two, G_law_two⟩ := h4
  refine ⟨f, fd, D, D.fn.ok sc__law_right (fun vs H Q E h => ?_) (fun cdv A outer s H vs Q E hr h => ?_)⟩
  · obtain ⟨_, _, _, _, _, rfl, _⟩ := h
    rfl
  · obtain ⟨p, z, way, x, y, rfl, ez, hway, hx, hy, k⟩ := h
    have sc := sc__law_right
    have hu := hr.units0
    have MTreeError := Z.mt
    have big := big3
    have g := (Z.k way hway).g
    have hk := fun j hj => Z.one way j hway hj
    obtain ⟨x0, ys, as, d, ts, ew, hd, ha, hs, hlen⟩ := shn_list way hx hy
    obtain ⟨y0, zs, as', d', ts', ew', hd', ha', hs', hlen'⟩ := shn_list way hy hx
    refine ⟨_, (pss_cons (ps_set (i := 3) sc.nd rfl (Or.inl rfl) (pe_call G_law_made (hr.mono (by decide)) rfl D_law_made.m D_law_made.fn.kp D_law_made.b .nil pass0 (pa_c (pv 0) (pa_c (pv 1) (pa_c (pv 2) pa_nil)))))
    (pss_cons (ps_set (i := 4) sc.nd rfl (Or.inl rfl) (pe_call G_law_made (hr.mono (by decide)) rfl D_law_made.m D_law_made.fn.kp D_law_made.b .nil pass0 (pa_c (pv 0) (pa_c (pv 2) (pa_c (pv 1) pa_nil)))))
    (pss_cons (ps_set (i := 5) sc.nd rfl (Or.inl rfl) (pe_slice sl_list (pe_lst (pa_c (pv 1) (pa_c (pv 2) pa_nil))) po_none (po_some (pe_op op_add pe_int (pe_callTy call_int1 rfl T.n_int bt_int (pa_c (pe_cmpR op_gt (pv 0) pe_int (nomark _)) pa_nil))))))
    (pss_cons (ps_if (PW.pt (pw_or (pt_cmpR (op_neL hu) (pe_call G_law_kinds (hr.mono (by decide)) rfl D_law_kinds.m D_law_kinds.fn.kp D_law_kinds.b .nil pass0 (pa_c (pv 3) pa_nil)) (pe_comp (blk_mk ["_law_way"] [0]) rfl (pi_range1 rfl T.n_range (pa_c pe_int pa_nil)) (fun _ _ _ _ _ => PTs.nil) (fun _ _ _ _ _ => (pe_cmpR op_eq (pv 0) (pv 1) (nomark _)))) (nomark _)) (pw_or (pt_not (pt_val (pe_callB call_inst rfl T.n_isinstance bt_isinstance (pa_c (pv 3) (pa_c (pe_glob (v := .ref TT) rfl MTreeError rfl) pa_nil))))) (pw_or1 (pt_not (pt_val (pe_callB call_inst rfl T.n_isinstance bt_isinstance (pa_c (pv 3) (pa_c (pe_bltn (v := .ty "ValueError") rfl T.n_ValueError bt_ValueError rfl) pa_nil)))))))))
      (pss_one (ps_ret pe_bl))
      pss_nil)
    (pss_cons (ps_if (pt_cmpR op_ne (pe_callB (call_reprL hr.gd hr.units) rfl T.n_repr bt_repr (pa_c (pe_op op_cat (pe_call G_law_found (hr.mono (by decide)) rfl D_law_found.m D_law_found.fn.kp D_law_found.b .nil pass0 (pa_c (pv 3) pa_nil)) (pe_call G_law_two (hr.mono (by decide)) rfl D_law_two.m D_law_two.fn.kp D_law_two.b .nil pass0 (pa_c (pv 3) pa_nil))) pa_nil)) (pe_callB (call_reprL hr.gd hr.units) rfl T.n_repr bt_repr (pa_c (pv 5) pa_nil)) (nomark _))
      (pss_one (ps_ret pe_bl))
      pss_nil)
    (pss_cons (ps_set (i := 6) sc.nd rfl (Or.inl rfl) (pe_slice sl_list (pe_lst (pa_c (pv 2) (pa_c (pv 1) pa_nil))) po_none (po_some (pe_op op_add pe_int (pe_callTy call_int1 rfl T.n_int bt_int (pa_c (pe_cmpR op_gt (pv 0) pe_int (nomark _)) pa_nil))))))
    (pss_one (ps_ret (pe_cmpR op_eq (pe_callB (call_reprL hr.gd hr.units) rfl T.n_repr bt_repr (pa_c (pe_op op_cat (pe_call G_law_found (hr.mono (by decide)) rfl D_law_found.m D_law_found.fn.kp D_law_found.b .nil pass0 (pa_c (pv 4) pa_nil)) (pe_call G_law_two (hr.mono (by decide)) rfl D_law_two.m D_law_two.fn.kp D_law_two.b .nil pass0 (pa_c (pv 4) pa_nil))) pa_nil)) (pe_callB (call_reprL hr.gd hr.units) rfl T.n_repr bt_repr (pa_c (pv 6) pa_nil)) (nomark _)))))))))), ?_⟩
    refine ⟨_, rfl, _, rfl, _, rfl, z, way, x, y, rfl, ez, hway, fun e H1 he X1 S1 => ?_⟩
    refine ⟨_, rfl, _, rfl, _, rfl, z, way, y, x, rfl, ez, hway, fun e' H2 he' X2 S2 => ?_⟩
    refine ⟨_, rfl, _, rfl, (by show 2 ≤ sizeLine; decide), fun q1 g1 => ?_⟩
    generalize hG : upd H2 q1 _ = H3
    have S3 : Same H2 H3 := (by rw [← hG]; exact Same.upd g1)
    have d3 : H3 q1 = some (.lst [x, y]) := (by rw [← hG]; exact upd_same)
    clear hG
    refine ⟨_, rfl, _, _, rfl, rfl, .inr ⟨_, rfl, _, _, rfl, rfl, _, rfl, q1, _, rfl, SqL.of d3, fun q2 g2 => ?_⟩⟩
    rw [cut2 ez]
    generalize hG : upd H3 q2 _ = H4
    have S4 : Same H3 H4 := (by rw [← hG]; exact Same.upd g2)
    have d4 : H4 q2 = some (.lst (if way < 24 then [x] else [x, y])) := (by rw [← hG]; exact upd_same)
    clear hG
    have R4 : Same H H4 := ((S1.trans S2).trans S3).trans S4
    have R14 : Same H1 H4 := (S2.trans S3).trans S4
    have R24 : Same H2 H4 := S3.trans S4
    refine ⟨_, rfl, e, c way, way, rfl, (X1.same R14).thg g, hk, fun l1 H5 _ e5 S5 => ?_⟩
    refine ⟨29, rfl, by decide, by decide, fun dd fdd => ⟨fun i m H6 => i + m = 29 ∧ Same H5 H6 ∧ H6 dd = some (.lst ((List.range i).map fun j => V.bl (decide (way = j)))), ⟨29, rfl, sameD (Same.refl _) fdd, upd_same⟩, ?_⟩⟩
    rintro i m H6 ⟨hm, S6, e6⟩
    by_cases hlt : i < 29
    · refine .inr ⟨hlt, ?_⟩
      rintro v H7 ⟨rfl, rfl⟩
      refine iteT ⟨_, rfl, _, rfl, rfl, _, e6, by rw [List.length_map, List.length_range]; omega, m - 1, by omega, by omega, sameD S6 fdd, ?_⟩
      rw [upd_same, List.range_succ, List.map_append, mark_eq ez]
      rfl
    refine .inl ⟨(by show 29 ≤ i; omega), ?_⟩
    have ei : i = 29 := by omega
    subst ei
    have R6 : Same H4 H6 := S5.trans S6
    refine ⟨l1, dd, marks way, marks way, rfl, rfl, SqL.of (S6 _ _ e5), SqL.of e6, okPs_self marks_plain, _, rfl, iteE (c := false) (by rw [eqPs_self]; rfl) (iteF ?_)⟩
    have th : Thg K H6 (.ref e) (.ref (c way)) := ((X1.same R14).same R6).thg g
    refine ⟨_, rfl, _, _, _, _, rfl, th, .inr (.inl ⟨_, rfl, Z.top way hway⟩), _, rfl, iteF ?_⟩
    refine ⟨_, rfl, _, _, _, _, rfl, th, .inl ⟨"ValueError", rfl, Z.val way hway⟩, _, rfl, iteF ?_⟩
    refine ⟨_, rfl, e, way, _, rfl, hway, (X1.same R14).same R6, fun l2 H7 _ e7 S7 => ?_⟩
    refine ⟨_, rfl, e, way, _, rfl, hway, ((X1.same R14).same R6).same S7, fun l3 H8 _ e8 S8 => ?_⟩
    refine ⟨l2, l3, _, _, rfl, rfl, S8 _ _ e7, e8, by have := part_len (A := way < 24) (B := way < 20 ∨ way = 21 ∨ way = 22) (x := x) (y := y); have := part_len' (A := way < 24) (B := way < 20 ∨ way = 21 ∨ way = 22) (x := x) (y := y); omega, fun q3 g3 => ?_⟩
    rw [both, ew]
    rw [ew] at d4
    generalize hG : upd H8 q3 _ = H9
    have S9 : Same H8 H9 := (by rw [← hG]; exact Same.upd g3)
    have d9 : H9 q3 = some (.lst (x0 :: ys)) := (by rw [← hG]; exact upd_same)
    clear hG
    have R8 : Same H4 H8 := (R6.trans S7).trans S8
    have R9 : Same H4 H9 := R8.trans S9
    refine ⟨p, q3, x0, ys, as, d, ts, rfl, d9, fresh_not ha (R4.trans R8) g3, hd, ShwAll.keep (R4.trans R9).kb hs, hlen, ?_⟩
    refine ⟨_, rfl, p, q2, x0, ys, as, d, ts, rfl, R9 _ _ d4, fresh_not ha ((S1.trans S2).trans S3) g2, hd, ShwAll.keep (R4.trans R9).kb hs, hlen, ?_⟩
    refine ⟨rfl, _, rfl, iteE (c := false) ns_self (iteF ?_)⟩
    refine ⟨_, rfl, _, rfl, (by show 2 ≤ sizeLine; decide), fun q4 g4 => ?_⟩
    generalize hG : upd H9 q4 _ = HA
    have SA : Same H9 HA := (by rw [← hG]; exact Same.upd g4)
    have dA : HA q4 = some (.lst [y, x]) := (by rw [← hG]; exact upd_same)
    clear hG
    refine ⟨_, rfl, _, _, rfl, rfl, .inr ⟨_, rfl, _, _, rfl, rfl, _, rfl, q4, _, rfl, SqL.of dA, fun q5 g5 => ?_⟩⟩
    rw [cut2 ez]
    generalize hG : upd HA q5 _ = HB
    have SB : Same HA HB := (by rw [← hG]; exact Same.upd g5)
    have dB : HB q5 = some (.lst (if way < 24 then [y] else [y, x])) := (by rw [← hG]; exact upd_same)
    clear hG
    have RB : Same H4 HB := (R9.trans SA).trans SB
    refine ⟨_, rfl, e', way, _, rfl, hway, (X2.same R24).same RB, fun l4 HC _ eC SC => ?_⟩
    refine ⟨_, rfl, e', way, _, rfl, hway, ((X2.same R24).same RB).same SC, fun l5 HD _ eD SD => ?_⟩
    refine ⟨l4, l5, _, _, rfl, rfl, SD _ _ eC, eD, by have := part_len (A := way < 24) (B := way < 20 ∨ way = 21 ∨ way = 22) (x := y) (y := x); have := part_len' (A := way < 24) (B := way < 20 ∨ way = 21 ∨ way = 22) (x := y) (y := x); omega, fun q6 g6 => ?_⟩
    rw [both, ew']
    rw [ew'] at dB
    generalize hG : upd HD q6 _ = HE
    have SE : Same HD HE := (by rw [← hG]; exact Same.upd g6)
    have dE : HE q6 = some (.lst (y0 :: zs)) := (by rw [← hG]; exact upd_same)
    clear hG
    have RD : Same HB HD := SC.trans SD
    have RE : Same HB HE := RD.trans SE
    have RHE : Same H HE := (R4.trans RB).trans RE
    refine ⟨p, q6, y0, zs, as', d', ts', rfl, dE, fresh_not ha' ((R4.trans RB).trans RD) g6, hd', ShwAll.keep RHE.kb hs', hlen', ?_⟩
    refine ⟨_, rfl, p, q5, y0, zs, as', d', ts', rfl, RE _ _ dB, fresh_not ha' ((R4.trans R9).trans SA) g5, hd', ShwAll.keep RHE.kb hs', hlen', ?_⟩
    refine ⟨rfl, ?_⟩
    rw [ds_self]
    exact k _ RHE
end
end K02

set_option Elab.async false
set_option linter.all false
set_option maxRecDepth 100000
set_option maxHeartbeats 4000000
namespace K02
open PySem L2
theorem sq_same {K : PySem.W.Frag} {H H' : Hp} {a : Addr} {xs : List V} (h : SqL K H a xs) (s : Same H H') : SqL K H' a xs := by
  rcases h with (h | ⟨o, h⟩) | h
  · exact .inl (.inl (s _ _ h))
  · exact .inl (.inr ⟨o, s _ _ h⟩)
  · exact .inr h
theorem kb_same {H H1 H2 : Hp} {p : Addr} (f : H p = none) (s : Same H H1) (k : KB p H1 H2) : Same H H2 := fun b o h => k b o (s b o h) (ne_of_none h f)
/-- a list may change: the error stays -/
theorem Err.keepL {c : Nat → Addr} {H H' : Hp} {i : Nat} {e l : Addr} {ws ys : List V} (x : Err c H i e ws) (h : H l = some (.lst ys)) (k : KB l H H') : Err c H' i e ws := by
  obtain ⟨dx, t, txt, a, b, d, r⟩ := x
  have ne : ∀ {b : Addr} {o : HO}, H b = some o → (∀ xs, o ≠ .lst xs) → b ≠ l := fun {b o} q n z => by
    rw [z, h] at q
    exact n _ (Option.some.inj q).symm
  exact ⟨dx, t, txt, k _ _ a (ne a fun _ z => nomatch z), k _ _ b (ne b fun _ z => nomatch z), k _ _ d (ne d fun _ z => nomatch z), r⟩
theorem two_plain {A : Prop} [Decidable A] {a b : Addr} : (if A then [V.ref a] else [V.ref a, V.ref b]).all plainV = true := by split <;> rfl
def spVery : Sp := fun vs H Q _ => ∃ (p : Addr) (n : Nat) (z : Int) (way : Nat), vs = [.int z, .ref p] ∧ z = way ∧ way < 29 ∧ Box H p n ∧ n ≤ 900000 ∧ ∀ H', Box H' p (n + 3) → KB p H H' → Q (.bl true) H'
def spLaw (K : PySem.W.Frag) : Sp := fun vs H Q _ => ∃ (a : Addr) (ns : List Int), vs = [.ref a] ∧ SqL K H a (ns.map V.int) ∧ ns.length ≤ 63 ∧ ∀ H', Q (.bl true) H'
section
variable {P : Program} {w : World} {K : PySem.W.Frag} {mg : Str → Option Value} {base : Heap} {c : Nat → Addr} {TT : Addr}
abbrev s__law_very_right : Stmt := top 43
theorem sc__law_very_right : FnScope ["_law_way", "_law_box_here", "_law_one_here", "_law_other", "_law_e"] ["_law_way", "_law_box_here"] (defScope s__law_very_right) := ⟨rfl, rfl, rfl, by decide +kernel, rfl, by decide +kernel, by decide +kernel⟩
theorem ok_very (hd : ∃ f fd, Dn K mg "_law_very_right" "_law_very_right" s__law_very_right ["_law_way", "_law_box_here"] f fd) (T : Txt K mg) (h0 : OkD P w K mg base "_law_take" s__law_take ["_law_box_here", "_law_many"] 1 spTake) (h1 : OkD P w K mg base "_law_made" s__law_made ["_law_way", "_law_one_here", "_law_other"] 4 (spMade c))
    (h3 : OkD P w K mg base "_law_found" s__law_found ["_law_e"] 1 (spFound c)) (h4 : OkD P w K mg base "_law_two" s__law_two ["_law_e"] 1 (spTwo c)) :
    OkD P w K mg base "_law_very_right" s__law_very_right ["_law_way", "_law_box_here"] 5 spVery := by
  obtain ⟨f, fd, D⟩ := hd
  obtain ⟨f0, fd0, D_law_take, G_law_take⟩ := h0
  obtain ⟨f1, fd1, D_law_made, G_law_made⟩ := h1
  obtain ⟨f3, fd3, D_law_found, G_law_found⟩ := h3
  obtain ⟨f4, fd4, D_law_two, G_law_two⟩ := h4
  refine ⟨f, fd, D, D.fn.ok sc__law_very_right (fun vs H Q E h => ?_) (fun cdv A outer s H vs Q E hr h => ?_)⟩
  · obtain ⟨_, _, _, _, rfl, _⟩ := h
    rfl
  · obtain ⟨p, n, z, way, rfl, ez, hway, B, hn, k⟩ := h
    have sc := sc__law_very_right
    have hu := hr.units0
    have big := big3
    refine ⟨_, (pss_cons (ps_set (i := 2) sc.nd rfl (Or.inl rfl) (pe_lst (pa_c (pe_call G_law_take (hr.mono (by decide)) rfl D_law_take.m D_law_take.fn.kp D_law_take.b .nil pass0 (pa_c (pv 1) (pa_c pe_int pa_nil))) pa_nil)))
    (pss_cons (ps_set (i := 3) sc.nd rfl (Or.inl rfl) (pe_lst (pa_c (pe_call G_law_take (hr.mono (by decide)) rfl D_law_take.m D_law_take.fn.kp D_law_take.b .nil pass0 (pa_c (pv 1) (pa_c pe_int pa_nil))) (pa_c (pv 2) pa_nil))))
    (pss_cons (ps_set (i := 4) sc.nd rfl (Or.inl rfl) (pe_call G_law_made (hr.mono (by decide)) rfl D_law_made.m D_law_made.fn.kp D_law_made.b .nil pass0 (pa_c (pv 0) (pa_c (pv 2) (pa_c (pv 3) pa_nil)))))
    (pss_cons (ps_expr (pe_bm PySem.F.plainAttrs_list PySem.F.slot_list_append PySem.F.type_list_append mt_append (pv 2) (pa_c (pe_call G_law_take (hr.mono (by decide)) rfl D_law_take.m D_law_take.fn.kp D_law_take.b .nil pass0 (pa_c (pv 1) (pa_c pe_int pa_nil))) pa_nil)))
    (pss_cons (ps_expr (pe_bm PySem.F.plainAttrs_list PySem.F.slot_list_append PySem.F.type_list_append mt_append (pv 3) (pa_c pe_str pa_nil)))
    (pss_one (ps_ret (pe_cmpR (op_eqL hu) (pe_op op_cat (pe_call G_law_found (hr.mono (by decide)) rfl D_law_found.m D_law_found.fn.kp D_law_found.b .nil pass0 (pa_c (pv 4) pa_nil)) (pe_call G_law_two (hr.mono (by decide)) rfl D_law_two.m D_law_two.fn.kp D_law_two.b .nil pass0 (pa_c (pv 4) pa_nil))) (pe_slice sl_list (pe_lst (pa_c (pv 2) (pa_c (pv 3) pa_nil))) po_none (po_some (pe_op op_add pe_int (pe_callTy call_int1 rfl T.n_int bt_int (pa_c (pe_cmpR op_gt (pv 0) pe_int (nomark _)) pa_nil))))) (nomark _))))))))), ?_⟩
    refine ⟨_, rfl, p, 9, n, rfl, B, by omega, by decide, by decide, fun r1 H1 a0 a1 B1 k1 => ⟨(by show 1 ≤ sizeLine; decide), fun l1 f1 => ?_⟩⟩
    obtain ⟨fl1, n1⟩ := kb_free k1 B1 f1
    generalize hG : upd H1 l1 _ = H2
    have S2 : Same H1 H2 := (by rw [← hG]; exact Same.upd f1)
    have d2 : H2 l1 = some (.lst [.int r1]) := (by rw [← hG]; exact upd_same)
    clear hG
    have K2 : KB p H H2 := k1.trans S2.kb
    refine ⟨_, rfl, p, 9, n + 1, rfl, B1.same S2, by omega, by decide, by decide, fun r2 H3 b0 b1 B3 k3 => ⟨_, rfl, (by show 2 ≤ sizeLine; decide), fun l2 f2 => ?_⟩⟩
    have K3 := K2.trans k3
    obtain ⟨fl2, n2⟩ := kb_free K3 B3 f2
    have d3 := k3 _ _ d2 n1
    have n12 : l1 ≠ l2 := ne_of_none d3 f2
    generalize hG : upd H3 l2 _ = H4
    have S4 : Same H3 H4 := (by rw [← hG]; exact Same.upd f2)
    have d4 : H4 l2 = some (.lst [.int r2, .ref l1]) := (by rw [← hG]; exact upd_same)
    clear hG
    refine ⟨_, rfl, _, rfl, _, rfl, z, way, .ref l1, .ref l2, rfl, ez, hway, fun e H5 _ X5 S5 => ?_⟩
    have B5 := (B3.same S4).same S5
    have K5 := K3.trans (S4.trans S5).kb
    have d5 := S5 _ _ (S4 _ _ d3)
    have d5' := S5 _ _ d4
    refine ⟨_, rfl, .inl ⟨rfl, _, SqL.of d5⟩, _, rfl, p, 99, n + 2, rfl, B5, by omega, by decide, by decide, fun r3 H6 c0 c1 B6 k6 => ?_⟩
    have X6 : Err c H6 way e (if way < 24 then [V.ref l1] else [V.ref l1, V.ref l2]) := by
      obtain ⟨bx, hb⟩ := B5.lst
      exact X5.keepL hb k6
    have d6 := k6 _ _ d5 n1
    have d6' := k6 _ _ d5' n2
    have K6 := K5.trans k6
    refine ⟨l1, _, _, rfl, rfl, d6, by show 1 < sizeLine; decide, ?_⟩
    have X7 : Err c (upd H6 l1 (.lst ([V.int r1] ++ [V.int r3]))) way e (if way < 24 then [V.ref l1] else [V.ref l1, V.ref l2]) := X6.keepL d6 (KB.refl.updP)
    have B7 := B6.updQ (o := .lst ([V.int r1] ++ [V.int r3])) n1
    have K7 := kbF (o := .lst ([V.int r1] ++ [V.int r3])) K6 fl1
    have d7' : upd H6 l1 (.lst ([V.int r1] ++ [V.int r3])) l2 = some (.lst [.int r2, .ref l1]) := by rw [upd_ne (Ne.symm n12)]; exact d6'
    generalize upd H6 l1 (.lst ([V.int r1] ++ [V.int r3])) = H7 at *
    refine ⟨_, rfl, .inl ⟨rfl, _, SqL.of d7'⟩, l2, _, _, rfl, rfl, d7', by show 2 < sizeLine; decide, ?_⟩
    have X8 : Err c (upd H7 l2 (.lst ([V.int r2, .ref l1] ++ [V.str "more"]))) way e (if way < 24 then [V.ref l1] else [V.ref l1, V.ref l2]) := X7.keepL d7' (KB.refl.updP)
    have B8 := B7.updQ (o := .lst ([V.int r2, .ref l1] ++ [V.str "more"])) n2
    have K8 := kbF (o := .lst ([V.int r2, .ref l1] ++ [V.str "more"])) K7 fl2
    generalize upd H7 l2 (.lst ([V.int r2, .ref l1] ++ [V.str "more"])) = H8 at *
    refine ⟨_, rfl, e, way, _, rfl, hway, X8, fun m1 H9 _ e9 S9 => ?_⟩
    refine ⟨_, rfl, e, way, _, rfl, hway, X8.same S9, fun m2 HA _ eA SA => ?_⟩
    refine ⟨m1, m2, _, _, rfl, rfl, SA _ _ e9, eA, by have := part_len (A := way < 24) (B := way < 20 ∨ way = 21 ∨ way = 22) (x := .ref l1) (y := .ref l2); have := part_len' (A := way < 24) (B := way < 20 ∨ way = 21 ∨ way = 22) (x := .ref l1) (y := .ref l2); omega, fun q1 g1 => ?_⟩
    rw [both]
    generalize hG : upd HA q1 _ = HB
    have SB : Same HA HB := (by rw [← hG]; exact Same.upd g1)
    have dB : HB q1 = some (.lst (if way < 24 then [V.ref l1] else [V.ref l1, V.ref l2])) := (by rw [← hG]; exact upd_same)
    clear hG
    refine ⟨_, rfl, _, rfl, (by show 2 ≤ sizeLine; decide), fun q2 g2 => ?_⟩
    generalize hG : upd HB q2 _ = HC
    have SC : Same HB HC := (by rw [← hG]; exact Same.upd g2)
    have dC : HC q2 = some (.lst [.ref l1, .ref l2]) := (by rw [← hG]; exact upd_same)
    clear hG
    refine ⟨_, rfl, _, _, rfl, rfl, .inr ⟨_, rfl, _, _, rfl, rfl, _, rfl, q2, _, rfl, SqL.of dC, fun q3 g3 => ?_⟩⟩
    rw [cut2 ez]
    generalize hG : upd HC q3 _ = HD
    have SD : Same HC HD := (by rw [← hG]; exact Same.upd g3)
    have dD : HD q3 = some (.lst (if way < 24 then [V.ref l1] else [V.ref l1, V.ref l2])) := (by rw [← hG]; exact upd_same)
    clear hG
    have R : Same H8 HD := (((S9.trans SA).trans SB).trans SC).trans SD
    refine ⟨q1, q3, _, _, rfl, rfl, SqL.of (SD _ _ (SC _ _ dB)), SqL.of dD, okPs_self two_plain, ?_⟩
    rw [eqPs_self]
    exact k HD ((B8.same R).mono (by omega)) (K8.trans R.kb)
abbrev s_law : Stmt := top 44
theorem sc_law : FnScope ["_law_script", "_law_k", "_law_box_here", "_law_one_here", "_law_other", "_law_way", "_law_e"] ["_law_script"] (defScope s_law) := ⟨rfl, rfl, rfl, by decide +kernel, rfl, by decide +kernel, by decide +kernel⟩
theorem ok_law (hd : ∃ f fd, Dn K mg "law" "law" s_law ["_law_script"] f fd) (T : Txt K mg) (Z : All P w K mg base c TT) (h1 : OkD P w K mg base "_law_cell" s__law_cell ["_law_script", "_law_k"] 1 (spCell K)) (h2 : OkD P w K mg base "_law_box" s__law_box ["_law_cell_here"] 1 spBox)
    (h3 : OkD P w K mg base "_law_thing" s__law_thing ["_law_box_here"] 3 (spThing P w K)) (h4 : OkD P w K mg base "_law_right" s__law_right ["_law_way", "_law_one_here", "_law_other"] 5 (spRight P w K)) (h5 : OkD P w K mg base "_law_very_right" s__law_very_right ["_law_way", "_law_box_here"] 5 spVery)
    (h6 : OkD P w K mg base "_law_kinds" s__law_kinds ["_law_e"] 1 (spKinds K c)) : OkD P w K mg base "law" s_law ["_law_script"] 6 (spLaw K) := by
  obtain ⟨f, fd, D⟩ := hd
  obtain ⟨f1, fd1, D_law_cell, G_law_cell⟩ := h1
  obtain ⟨f2, fd2, D_law_box, G_law_box⟩ := h2
  obtain ⟨f3, fd3, D_law_thing, G_law_thing⟩ := h3
  obtain ⟨f4, fd4, D_law_right, G_law_right⟩ := h4
  obtain ⟨f5, fd5, D_law_very_right, G_law_very_right⟩ := h5
  obtain ⟨f6, fd6, D_law_kinds, G_law_kinds⟩ := h6
  refine ⟨f, fd, D, D.fn.ok sc_law (fun vs H Q E h => ?_) (fun cdv A outer s H vs Q E hr h => ?_)⟩
  · obtain ⟨_, _, rfl, _⟩ := h
    rfl
  · obtain ⟨a, ns, rfl, hS, hz, k⟩ := h
    have sc := sc_law
    have XTreeError := Z.xt
    have MTreeError := Z.mt
    refine ⟨_, (pss_cons (ps_for PassesOwn.never rfl (pi_range1 rfl T.n_range (pa_c (pe_callB (call_max2 rfl) rfl T.n_max bt_max (pa_c pe_int (pa_c (pe_callB (call_min2 rfl) rfl T.n_min bt_min (pa_c pe_int (pa_c (pe_callB call_len_seq rfl T.n_len bt_len (pa_c (pv 0) pa_nil)) pa_nil))) pa_nil))) pa_nil)) (pg_name (i := 1) sc.nd rfl (Or.inl rfl))
      (pss_cons (ps_set (i := 2) sc.nd rfl (Or.inl rfl) (pe_call G_law_box (hr.mono (by decide)) rfl D_law_box.m D_law_box.fn.kp D_law_box.b .nil pass0 (pa_c (pe_call G_law_cell (hr.mono (by decide)) rfl D_law_cell.m D_law_cell.fn.kp D_law_cell.b .nil pass0 (pa_c (pv 0) (pa_c (pv 1) pa_nil))) pa_nil)))
    (pss_cons (ps_set (i := 3) sc.nd rfl (Or.inl rfl) (pe_call G_law_thing (hr.mono (by decide)) rfl D_law_thing.m D_law_thing.fn.kp D_law_thing.b .nil pass0 (pa_c (pv 2) pa_nil)))
    (pss_cons (ps_set (i := 4) sc.nd rfl (Or.inl rfl) (pe_call G_law_thing (hr.mono (by decide)) rfl D_law_thing.m D_law_thing.fn.kp D_law_thing.b .nil pass0 (pa_c (pv 2) pa_nil)))
    (pss_cons (ps_for PassesOwn.never rfl (pi_range1 rfl T.n_range (pa_c pe_int pa_nil)) (pg_name (i := 5) sc.nd rfl (Or.inl rfl))
      (pss_one (ps_if (PW.pt (pw_or (pt_not (pt_val (pe_call G_law_right (hr.mono (by decide)) rfl D_law_right.m D_law_right.fn.kp D_law_right.b .nil pass0 (pa_c (pv 5) (pa_c (pv 3) (pa_c (pv 4) pa_nil)))))) (pw_or1 (pt_not (pt_val (pe_call G_law_very_right (hr.mono (by decide)) rfl D_law_very_right.m D_law_very_right.fn.kp D_law_very_right.b .nil pass0 (pa_c (pv 5) (pa_c (pv 2) pa_nil))))))))
      (pss_one (ps_ret pe_bl))
      pss_nil)))
    (pss_cons (ps_set (i := 6) sc.nd rfl (Or.inl rfl) (pe_excT XTreeError rfl MTreeError (pa_c pe_str pa_nil)))
    (pss_one (ps_if (PW.pt (pw_or (pt_not (pt_val (pe_callB call_inst rfl T.n_isinstance bt_isinstance (pa_c (pv 6) (pa_c (pe_bltn (v := .ty "ValueError") rfl T.n_ValueError bt_ValueError rfl) pa_nil))))) (pw_or1 (pt_cmpR op_in_seq pe_bl (pe_call G_law_kinds (hr.mono (by decide)) rfl D_law_kinds.m D_law_kinds.fn.kp D_law_kinds.b .nil pass0 (pa_c (pv 6) pa_nil)) (by with_unfolding_all rfl)))))
      (pss_one (ps_ret pe_bl))
      pss_nil))))))))
    (pss_one (ps_ret pe_bl))), ?_⟩
    refine ⟨_, rfl, a, _, rfl, .inl hS, _, _, rfl, _, _, rfl, _, rfl, (by rw [List.length_map]; split <;> split <;> omega), (by rw [List.length_map]; split <;> split <;> omega), for_range (fun i σ H2 => Same H H2 ∧ ∃ o1 o2 o3 o4 o5 o6, σ = [some (.ref a), o1, o2, o3, o4, o5, o6]) ⟨Same.refl _, none, none, none, none, none, none, rfl⟩ ?_ ?_⟩
    case refine_2 => exact fun σ H2 ⟨S, o1, o2, o3, o4, o5, o6, e⟩ => k _
    rintro i σ I0 _ ⟨S0, o1, o2, o3, o4, o5, o6, rfl⟩
    refine ⟨_, rfl, _, rfl, a, i, ns, (by show [V.ref a, V.int (0 + (i : Int))] = _; rw [Int.zero_add]), sq_same hS S0, fun c' => ⟨c', rfl, fun p I1 fp Bp S1 => ?_⟩⟩
    refine ⟨_, rfl, p, 0, rfl, Bp, by omega, fun x I2 hx B2 k2 => ?_⟩
    refine ⟨_, rfl, p, 3, rfl, B2, by omega, fun y I3 hy B3 k3 => ?_⟩
    replace hx := hx.keep k3
    refine ⟨29, rfl, by decide, by decide, for_range (fun i' σ I4 => Box I4 p (6 + 3 * i') ∧ KB p I3 I4 ∧ ∃ o5 o6, σ = [some (.ref a), some (.int (0 + (i : Int))), some (.ref p), some x, some y, o5, o6]) ⟨B3, KB.refl, _, _, rfl⟩ ?_ ?_⟩
    · rintro i' σ I4 hi ⟨B4, k4, o5, o6, rfl⟩
      have hi' : i' < 29 := hi
      refine ⟨_, rfl, _, rfl, _, rfl, p, _, i', x, y, rfl, by omega, hi', hx.keep k4, hy.keep k4, fun I5 S5 => ⟨_, rfl, iteF ?_⟩⟩
      refine ⟨_, rfl, _, rfl, p, 6 + 3 * i', _, i', rfl, by omega, hi', B4.same S5, by omega, fun I6 B6 k6 => ⟨_, rfl, iteF ?_⟩⟩
      exact ⟨B6.mono (by omega), k4.trans (S5.kb.trans k6), _, _, rfl⟩
    rintro σ I4 ⟨B4, k4, o5, o6, rfl⟩
    refine ⟨(by show 1 ≤ sizeLine; decide), fun e b he hb hbe => ?_⟩
    have S5 : Same I4 (upd (upd (upd I4 e (ExO TT e none none)) b (.tup [.str "a text"])) e (ExO TT e none (some b))) := fun y o q => by
      have y1 := ne_of_none q he
      have y2 := ne_of_none q hb
      rw [upd_ne y1, upd_ne y2, upd_ne y1]
      exact q
    have e5 : upd (upd (upd I4 e (ExO TT e none none)) b (.tup [.str "a text"])) e (ExO TT e none (some b)) e = some (ExO TT e none (some b)) := upd_same
    generalize upd (upd (upd I4 e (ExO TT e none none)) b (.tup [.str "a text"])) e (ExO TT e none (some b)) = I5 at *
    have th : Thg K I5 (.ref e) (.ref TT) := .exn e5 Z.gt
    refine ⟨_, rfl, _, _, _, _, rfl, th, .inl ⟨"ValueError", rfl, Z.tval⟩, _, rfl, iteF ?_⟩
    refine ⟨_, rfl, e, TT, 29, rfl, th, fun j hj => by rw [decide_eq_false (by omega)]; exact Z.tone j hj, fun l I6 _ e6 S6 => ?_⟩
    refine ⟨l, marks 29, rfl, .inl (SqL.of e6), rfl, by decide, _, rfl, iteE (c := false) (by decide) (iteF ?_)⟩
    exact ⟨S0.trans (kb_same fp S1 (((k2.trans k3).trans k4).trans (S5.trans S6).kb)), _, _, _, _, _, _, rfl⟩
end
end K02

set_option Elab.async false
set_option linter.all false
set_option maxRecDepth 100000
set_option maxHeartbeats 2000000
namespace K02
open PySem L2
/-- what of the text an own class of refusals has -/
structure CF (K : PySem.W.Frag) (mg : Str → Option Value) (T C : Addr) (x q : Str) (st : Stmt) (ps : List Str) : Prop where
  lk : ∃ (qn : Str) (N : Addr) (bs : List Value) (sn : List Str) (sub : List Value) (ab : Bool) (col : Option Bool) (dd : Option Addr) (k0 k1 k2 k3 k5 : Option Value), K.lookup C = some (excClassObj x qn C N bs (.ref T :: bmV) true sn sub ab col dd k0 k1 k2 k3 k5 "ValueError.__new__")
  ini : ∃ fI fd, PySem.W.findIn K (.ref C) "__init__" = some (some (.ref fI)) ∧ PySem.W.isFn K (.ref fI) = true ∧ Fun K "__init__" q st fI fd ∧ Binds K fd ("self" :: ps) []
  kp : PySem.W.keepIn K (.ref C) = true
  sa : PySem.W.findIn K (.ref C) "__setattr__" = some (some (.builtin "object.__setattr__"))
  ga : PySem.W.findIn K (.ref C) "__getattribute__" = some (some (.builtin "BaseException.__getattribute__"))
  no : PySem.W.findIn K (.ref C) "__getattr__" = some none
  ca : PySem.W.findIn K (.ref C) "__class__" = some (some (.builtin "object.__class__"))
  mC : mg x = some (.ref C)
  na : ∀ f ∈ ps, NoAttr K C f
structure TF (K : PySem.W.Frag) (mg : Str → Option Value) (T : Addr) : Prop where
  lk : ∃ (qn : Str) (N : Addr) (bs : List Value) (sn : List Str) (sub : List Value) (ab : Bool) (col : Option Bool) (dd : Option Addr) (k0 k1 k2 k3 k5 : Option Value), K.lookup T = some (excClassObj "TreeError" qn T N bs bmV true sn sub ab col dd k0 k1 k2 k3 k5 "ValueError.__new__") ∧
    ∃ (d0 : Value) (d1 : Option Addr) (es : Array DictEntry) (n : Nat) (sl' : Array (Option Value)), K.lookup N = some ⟨d0, d1, .dict es n, sl'⟩ ∧ strK es = true ∧ nsFind es "__init__" = none
  b : BaseInit K T
  init : PySem.W.findIn K (.ref T) "__init__" = some (some (.builtin "ValueError.__init__"))
  kp : PySem.W.keepIn K (.ref T) = true
  ga : PySem.W.findIn K (.ref T) "__getattribute__" = some (some (.builtin "BaseException.__getattribute__"))
  no : PySem.W.findIn K (.ref T) "__getattr__" = some none
  ca : PySem.W.findIn K (.ref T) "__class__" = some (some (.builtin "object.__class__"))
  cn : PySem.W.specialIn K (.builtin "object.__class__") "__get__" = some (some (.builtin "getset_descriptor.__get__"))
  ct : PySem.W.takesIn K (.builtin "object.__class__") = some true
  mT : mg "TreeError" = some (.ref T)
section
variable {K : PySem.W.Frag} {mg : Str → Option Value} {T C : Addr} {x q : Str} {st : Stmt} {ps : List Str}
theorem cls_in {nm qn : Str} {N : Addr} {bs bm : List Value} {sn : List Str} {sub : List Value} {ab : Bool} {col : Option Bool} {dd : Option Addr} {k0 k1 k2 k3 k5 : Option Value} {id : String} (h : K.lookup C = some (excClassObj nm qn C N bs bm true sn sub ab col dd k0 k1 k2 k3 k5 id)) :
    ∃ cd, PySem.W.clsIn K C = some cd ∧ cd.name = nm ∧ cd.hasDict = true ∧ cd.mro = .ref C :: bm ∧ PySem.W.typeIn K (.ref C) = some (.type "type") := by
  refine ⟨_, by unfold PySem.W.clsIn; rw [h], rfl, rfl, rfl, ?_⟩
  show (K.lookup C).map (·.cls) = _
  rw [h]
  rfl
theorem CF.cd (c : CF K mg T C x q st ps) : ∃ cd, PySem.W.clsIn K C = some cd ∧ cd.name = x ∧ cd.hasDict = true ∧ cd.mro = .ref C :: .ref T :: bmV ∧ PySem.W.typeIn K (.ref C) = some (.type "type") := by
  obtain ⟨_, _, _, _, _, _, _, _, _, _, _, _, _, h⟩ := c.lk
  exact cls_in h
theorem TF.cd (t : TF K mg T) : ∃ cd, PySem.W.clsIn K T = some cd ∧ cd.name = "TreeError" ∧ cd.hasDict = true ∧ cd.mro = .ref T :: bmV ∧ PySem.W.typeIn K (.ref T) = some (.type "type") := by
  obtain ⟨_, _, _, _, _, _, _, _, _, _, _, _, _, h, _⟩ := t.lk
  exact cls_in h
theorem mro_cd {cd : ClassData} {l : List Value} {b : Value} (h : PySem.W.clsIn K C = some cd) (m : cd.mro = .ref C :: l) : PySem.W.mroIn K C b = some ((Value.ref C :: l).contains b) := by
  unfold PySem.W.mroIn
  rw [h, Option.bind_some, m]
  rfl
theorem hd_cd {cd : ClassData} (h : PySem.W.clsIn K C = some cd) (d : cd.hasDict = true) : PySem.W.hasDictIn K C = true := by
  unfold PySem.W.hasDictIn
  rw [h]
  exact d
theorem TF.g (t : TF K mg T) : ExG K T := by
  obtain ⟨cd, h, _, d, m, _⟩ := t.cd
  exact ⟨t.ga, t.no, (mro_cd h m).trans rfl, hd_cd h d, t.ca, t.cn, t.ct, (mro_cd h m).trans rfl, (mro_cd h m).trans rfl, (mro_cd h m).trans rfl, (mro_cd h m).trans rfl, (mro_cd h m).trans rfl⟩
theorem TF.xt (t : TF K mg T) : ExT K T := by
  obtain ⟨_, _, _, _, _, _, _, _, _, _, _, _, _, h, _⟩ := t.lk
  exact ⟨⟨_, _, _, _, _, _, _, _, _, _, _, _, _, _, _, h⟩, t.init, t.kp⟩
theorem CF.g (c : CF K mg T C x q st ps) (t : TF K mg T) : ExG K C := by
  obtain ⟨cd, h, _, d, m, _⟩ := c.cd
  exact ⟨c.ga, c.no, (mro_cd h m).trans rfl, hd_cd h d, c.ca, t.cn, t.ct, (mro_cd h m).trans rfl, (mro_cd h m).trans rfl, (mro_cd h m).trans rfl, (mro_cd h m).trans rfl, (mro_cd h m).trans rfl⟩
theorem CF.exi (c : CF K mg T C x q st ps) (t : TF K mg T) : ∃ fI fd, ExI K mg C T fI fd x q st ps := by
  obtain ⟨cd, h, _, d, m, _⟩ := c.cd
  obtain ⟨fI, fd, i1, i2, i3, i4⟩ := c.ini
  obtain ⟨qn, N, bs, sn, sub, ab, col, dd, k0, k1, k2, k3, k5, l⟩ := c.lk
  obtain ⟨_, TN, _, _, _, _, _, _, _, _, _, _, _, tl, d0, d1, es, n, sl', l2, s1, s2⟩ := t.lk
  exact ⟨fI, fd, ⟨⟨⟨⟨_, _, _, _, _, _, _, _, _, _, _, _, _, _, _, l⟩, ⟨_, _, _, _, tl, d0, d1, es, n, sl', l2, s1, s2⟩, i1, i2, c.kp⟩, hd_cd h d, c.sa⟩, c.g t, t.b, i3, i4, c.mC, t.mT, c.na⟩⟩
theorem kit_of {cd cd' : ClassData} {D : Addr} {l : List Value} (h : PySem.W.clsIn K C = some cd) (m : cd.mro = .ref C :: l) (h' : PySem.W.clsIn K D = some cd') (ty : PySem.W.typeIn K (.ref D) = some (.type "type")) : PySem.W.kitOne K (.ref C) (.ref D) = some ((Value.ref C :: l).contains (.ref D)) := by
  unfold PySem.W.kitOne
  by_cases e : C = D
  · subst e
    rw [if_pos (by simp)]
    simp
  · rw [if_neg (by intro z; exact e (Value.ref.inj (beq_iff_eq.mp z)))]
    unfold PySem.W.kitCls
    dsimp only
    rw [if_pos (by rw [h', ty]; rfl)]
    exact mro_cd h m
theorem val_of {cd : ClassData} {l : List Value} (h : PySem.W.clsIn K C = some cd) (m : cd.mro = .ref C :: l) : PySem.W.kitOne K (.ref C) (.type "ValueError") = some ((Value.ref C :: l).contains (.type "ValueError")) := by
  unfold PySem.W.kitOne
  rw [if_neg (by intro z; cases beq_iff_eq.mp z)]
  unfold PySem.W.kitCls
  dsimp only
  rw [if_pos (by decide +kernel)]
  exact mro_cd h m
theorem cls_mk {h : Heap} (X : K.In h) (G : h.Ns mainGlobals mg) {fI N : Addr} {qn : Str} {bs : List Value} {sn : List Str} {sub : List Value} {ab : Bool} {col : Option Bool} {dd : Option Addr} {k0 k1 k2 k3 k5 : Option Value} {od an : Option Addr} {osl : Array (Option Value)} {kV doc pm cdv ct : Value}
    (aC : PySem.W.nsIn K mainGlobals x = some (some (.ref C))) (aT : PySem.W.nsIn K mainGlobals "TreeError" = some (some (.ref T))) (lC : K.lookup C = some (excClassObj x qn C N bs (.ref T :: bmV) true sn sub ab col dd k0 k1 k2 k3 k5 "ValueError.__new__"))
    (i1 : PySem.W.findIn K (.ref C) "__init__" = some (some (.ref fI))) (i3 : PySem.W.keepIn K (.ref C) = true) (i5 : PySem.W.findIn K (.ref C) "__setattr__" = some (some (.builtin "object.__setattr__")))
    (g1 : PySem.W.findIn K (.ref C) "__getattribute__" = some (some (.builtin "BaseException.__getattribute__"))) (g2 : PySem.W.findIn K (.ref C) "__getattr__" = some none) (g4 : PySem.W.findIn K (.ref C) "__class__" = some (some (.builtin "object.__class__")))
    (l1 : K.lookup fI = some ⟨.type "function", od, .func (PySem.W.fnOf "__init__" q (defArgs st) (defBody st) (defScope st) .none kV doc pm an cdv ct), osl⟩) (c1 : PySem.W.codeIn K cdv q = true) (na : ∀ f ∈ ps, NoAttr K C f)
    (hb : ∀ (kV doc pm : Value) (an : Option Addr) (cdv ct : Value) (us : List Value), us.length = (("self" : Str) :: ps).length → bindArgs (PySem.W.fnOf "__init__" q (defArgs st) (defBody st) (defScope st) .none kV doc pm an cdv ct) ⟨us, []⟩ = pure ((("self" : Str) :: ps).zip us)) :
    ∃ C T, mg "TreeError" = some (.ref T) ∧ CF K mg T C x q st ps := by
  have kf : PySem.W.keepIn K (.ref fI) = true := by unfold PySem.W.keepIn; dsimp only; rw [l1]
  have ff : PySem.W.isFn K (.ref fI) = true := by
    unfold PySem.W.isFn
    rw [show PySem.W.typeIn K (.ref fI) = (K.lookup fI).map (·.cls) from rfl, l1]
    rfl
  exact ⟨C, T, PySem.W.mg_of X G aT, ⟨⟨qn, N, bs, sn, sub, ab, col, dd, k0, k1, k2, k3, k5, lC⟩, ⟨fI, _, i1, ff, fun_mk (st := st) l1 c1 kf, (fun_mk (st := st) l1 c1 kf).binds hb⟩, i3, i5, g1, g2, g4, PySem.W.mg_of X G aC, na⟩⟩
theorem na1 {f : Str} (h : PySem.W.findIn K (.ref C) f = some none) : ∀ g ∈ [f], NoAttr K C g := fun g hg => by rw [List.mem_singleton.mp hg]; exact h
theorem na2 {f f' : Str} (h : PySem.W.findIn K (.ref C) f = some none) (h' : PySem.W.findIn K (.ref C) f' = some none) : ∀ g ∈ [f, f'], NoAttr K C g := fun g hg => by
  simp only [List.mem_cons, List.not_mem_nil, or_false] at hg
  rcases hg with rfl | rfl
  · exact h
  · exact h'
theorem tf_mk {h : Heap} (X : K.In h) (G : h.Ns mainGlobals mg) {N : Addr} {qn : Str} {bs : List Value} {sn : List Str} {sub : List Value} {ab : Bool} {col : Option Bool} {dd : Option Addr} {k0 k1 k2 k3 k5 : Option Value} {d0 : Value} {d1 : Option Addr} {es : Array DictEntry} {n : Nat} {sl' : Array (Option Value)}
    (aT : PySem.W.nsIn K mainGlobals "TreeError" = some (some (.ref T))) (lT : K.lookup T = some (excClassObj "TreeError" qn T N bs bmV true sn sub ab col dd k0 k1 k2 k3 k5 "ValueError.__new__")) (lN : K.lookup N = some ⟨d0, d1, .dict es n, sl'⟩) (s1 : strK es = true) (s2 : nsFind es "__init__" = none)
    (b1 : PySem.W.specialIn K (.ref T) "__getattribute__" = some (some (.builtin "type.__getattribute__"))) (b2 : PySem.W.readsIn K T (.type "type") = true) (b3 : PySem.W.findCls K (.ref T) (.type "type") "__init__" = some (.val (.builtin "ValueError.__init__")))
    (i1 : PySem.W.findIn K (.ref T) "__init__" = some (some (.builtin "ValueError.__init__"))) (i3 : PySem.W.keepIn K (.ref T) = true)
    (g1 : PySem.W.findIn K (.ref T) "__getattribute__" = some (some (.builtin "BaseException.__getattribute__"))) (g2 : PySem.W.findIn K (.ref T) "__getattr__" = some none) (g4 : PySem.W.findIn K (.ref T) "__class__" = some (some (.builtin "object.__class__")))
    (g5 : PySem.W.specialIn K (.builtin "object.__class__") "__get__" = some (some (.builtin "getset_descriptor.__get__"))) (g6 : PySem.W.takesIn K (.builtin "object.__class__") = some true) : ∃ T, TF K mg T :=
  ⟨T, ⟨⟨qn, N, bs, sn, sub, ab, col, dd, k0, k1, k2, k3, k5, lT, d0, d1, es, n, sl', lN, s1, s2⟩, ⟨b1, b2, b3⟩, i1, i3, g1, g2, g4, g5, g6, PySem.W.mg_of X G aT⟩⟩
end
section
variable {P : Program} {w : World} {K : PySem.W.Frag} {mg : Str → Option Value} {base : Heap} {c : Nat → Addr} {T : Addr}
theorem kd_0 (t : TF K mg T) (x : CF K mg T (c 0) "NoKey" "NoKey.__init__" (inClass (top 2) 0) ["found"]) : Kd P w K mg base c T 0 := let ⟨fI, fd, e⟩ := x.exi t; ⟨⟨fI, fd, e.f, ok_NoKey e, e.bi⟩, e.g, e.mC, e.no⟩
theorem kd_1 (t : TF K mg T) (x : CF K mg T (c 1) "NoGood" "NoGood.__init__" (inClass (top 3) 0) ["found"]) : Kd P w K mg base c T 1 := let ⟨fI, fd, e⟩ := x.exi t; ⟨⟨fI, fd, e.f, ok_NoGood e, e.bi⟩, e.g, e.mC, e.no⟩
theorem kd_2 (t : TF K mg T) (x : CF K mg T (c 2) "NoPage" "NoPage.__init__" (inClass (top 4) 0) ["found"]) : Kd P w K mg base c T 2 := let ⟨fI, fd, e⟩ := x.exi t; ⟨⟨fI, fd, e.f, ok_NoPage e, e.bi⟩, e.g, e.mC, e.no⟩
theorem kd_3 (t : TF K mg T) (x : CF K mg T (c 3) "NoPlace" "NoPlace.__init__" (inClass (top 5) 0) ["found"]) : Kd P w K mg base c T 3 := let ⟨fI, fd, e⟩ := x.exi t; ⟨⟨fI, fd, e.f, ok_NoPlace e, e.bi⟩, e.g, e.mC, e.no⟩
theorem kd_4 (t : TF K mg T) (x : CF K mg T (c 4) "NoMost" "NoMost.__init__" (inClass (top 6) 0) ["found"]) : Kd P w K mg base c T 4 := let ⟨fI, fd, e⟩ := x.exi t; ⟨⟨fI, fd, e.f, ok_NoMost e, e.bi⟩, e.g, e.mC, e.no⟩
theorem kd_5 (t : TF K mg T) (x : CF K mg T (c 5) "NoLevel" "NoLevel.__init__" (inClass (top 7) 0) ["found"]) : Kd P w K mg base c T 5 := let ⟨fI, fd, e⟩ := x.exi t; ⟨⟨fI, fd, e.f, ok_NoLevel e, e.bi⟩, e.g, e.mC, e.no⟩
theorem kd_6 (t : TF K mg T) (x : CF K mg T (c 6) "NoDoer" "NoDoer.__init__" (inClass (top 8) 0) ["found"]) : Kd P w K mg base c T 6 := let ⟨fI, fd, e⟩ := x.exi t; ⟨⟨fI, fd, e.f, ok_NoDoer e, e.bi⟩, e.g, e.mC, e.no⟩
theorem kd_7 (t : TF K mg T) (x : CF K mg T (c 7) "NoTree" "NoTree.__init__" (inClass (top 9) 0) ["found"]) : Kd P w K mg base c T 7 := let ⟨fI, fd, e⟩ := x.exi t; ⟨⟨fI, fd, e.f, ok_NoTree e, e.bi⟩, e.g, e.mC, e.no⟩
theorem kd_8 (t : TF K mg T) (x : CF K mg T (c 8) "NoCall" "NoCall.__init__" (inClass (top 10) 0) ["found"]) : Kd P w K mg base c T 8 := let ⟨fI, fd, e⟩ := x.exi t; ⟨⟨fI, fd, e.f, ok_NoCall e, e.bi⟩, e.g, e.mC, e.no⟩
theorem kd_9 (t : TF K mg T) (x : CF K mg T (c 9) "NoText" "NoText.__init__" (inClass (top 11) 0) ["found"]) : Kd P w K mg base c T 9 := let ⟨fI, fd, e⟩ := x.exi t; ⟨⟨fI, fd, e.f, ok_NoText e, e.bi⟩, e.g, e.mC, e.no⟩
theorem kd_10 (t : TF K mg T) (x : CF K mg T (c 10) "NoLine" "NoLine.__init__" (inClass (top 12) 0) ["found"]) : Kd P w K mg base c T 10 := let ⟨fI, fd, e⟩ := x.exi t; ⟨⟨fI, fd, e.f, ok_NoLine e, e.bi⟩, e.g, e.mC, e.no⟩
theorem kd_11 (t : TF K mg T) (x : CF K mg T (c 11) "NoNumber" "NoNumber.__init__" (inClass (top 13) 0) ["found"]) : Kd P w K mg base c T 11 := let ⟨fI, fd, e⟩ := x.exi t; ⟨⟨fI, fd, e.f, ok_NoNumber e, e.bi⟩, e.g, e.mC, e.no⟩
theorem kd_12 (t : TF K mg T) (x : CF K mg T (c 12) "Twice" "Twice.__init__" (inClass (top 24) 0) ["found"]) : Kd P w K mg base c T 12 := let ⟨fI, fd, e⟩ := x.exi t; ⟨⟨fI, fd, e.f, ok_Twice e, e.bi⟩, e.g, e.mC, e.no⟩
theorem kd_13 (t : TF K mg T) (x : CF K mg T (c 13) "NoWeaving" "NoWeaving.__init__" (inClass (top 28) 0) ["found"]) : Kd P w K mg base c T 13 := let ⟨fI, fd, e⟩ := x.exi t; ⟨⟨fI, fd, e.f, ok_NoWeaving e, e.bi⟩, e.g, e.mC, e.no⟩
theorem kd_14 (t : TF K mg T) (x : CF K mg T (c 14) "NoShape" "NoShape.__init__" (inClass (top 30) 0) ["found"]) : Kd P w K mg base c T 14 := let ⟨fI, fd, e⟩ := x.exi t; ⟨⟨fI, fd, e.f, ok_NoShape e, e.bi⟩, e.g, e.mC, e.no⟩
theorem kd_15 (t : TF K mg T) (x : CF K mg T (c 15) "Lacks" "Lacks.__init__" (inClass (top 14) 0) ["key"]) : Kd P w K mg base c T 15 := let ⟨fI, fd, e⟩ := x.exi t; ⟨⟨fI, fd, e.f, ok_Lacks e, e.bi⟩, e.g, e.mC, e.no⟩
theorem kd_16 (t : TF K mg T) (x : CF K mg T (c 16) "Has" "Has.__init__" (inClass (top 15) 0) ["key"]) : Kd P w K mg base c T 16 := let ⟨fI, fd, e⟩ := x.exi t; ⟨⟨fI, fd, e.f, ok_Has e, e.bi⟩, e.g, e.mC, e.no⟩
theorem kd_17 (t : TF K mg T) (x : CF K mg T (c 17) "NoJoin" "NoJoin.__init__" (inClass (top 16) 0) ["key"]) : Kd P w K mg base c T 17 := let ⟨fI, fd, e⟩ := x.exi t; ⟨⟨fI, fd, e.f, ok_NoJoin e, e.bi⟩, e.g, e.mC, e.no⟩
theorem kd_18 (t : TF K mg T) (x : CF K mg T (c 18) "TooMany" "TooMany.__init__" (inClass (top 17) 0) ["count"]) : Kd P w K mg base c T 18 := let ⟨fI, fd, e⟩ := x.exi t; ⟨⟨fI, fd, e.f, ok_TooMany e, e.bi⟩, e.g, e.mC, e.no⟩
theorem kd_19 (t : TF K mg T) (x : CF K mg T (c 19) "TooFew" "TooFew.__init__" (inClass (top 18) 0) ["count"]) : Kd P w K mg base c T 19 := let ⟨fI, fd, e⟩ := x.exi t; ⟨⟨fI, fd, e.f, ok_TooFew e, e.bi⟩, e.g, e.mC, e.no⟩
theorem kd_20 (t : TF K mg T) (x : CF K mg T (c 20) "Gone" "Gone.__init__" (inClass (top 23) 0) ["place"]) : Kd P w K mg base c T 20 := let ⟨fI, fd, e⟩ := x.exi t; ⟨⟨fI, fd, e.f, ok_Gone e, e.bi⟩, e.g, e.mC, e.no⟩
theorem kd_21 (t : TF K mg T) (x : CF K mg T (c 21) "Ended" "Ended.__init__" (inClass (top 25) 0) ["doer"]) : Kd P w K mg base c T 21 := let ⟨fI, fd, e⟩ := x.exi t; ⟨⟨fI, fd, e.f, ok_Ended e, e.bi⟩, e.g, e.mC, e.no⟩
theorem kd_22 (t : TF K mg T) (x : CF K mg T (c 22) "Going" "Going.__init__" (inClass (top 26) 0) ["doer"]) : Kd P w K mg base c T 22 := let ⟨fI, fd, e⟩ := x.exi t; ⟨⟨fI, fd, e.f, ok_Going e, e.bi⟩, e.g, e.mC, e.no⟩
theorem kd_23 (t : TF K mg T) (x : CF K mg T (c 23) "BadLine" "BadLine.__init__" (inClass (top 29) 0) ["row"]) : Kd P w K mg base c T 23 := let ⟨fI, fd, e⟩ := x.exi t; ⟨⟨fI, fd, e.f, ok_BadLine e, e.bi⟩, e.g, e.mC, e.no⟩
theorem kd_24 (t : TF K mg T) (x : CF K mg T (c 24) "NoSpan" "NoSpan.__init__" (inClass (top 19) 0) ["low", "high"]) : Kd P w K mg base c T 24 := let ⟨fI, fd, e⟩ := x.exi t; ⟨⟨fI, fd, e.f, ok_NoSpan e, e.bi⟩, e.g, e.mC, e.no⟩
theorem kd_25 (t : TF K mg T) (x : CF K mg T (c 25) "NoEdge" "NoEdge.__init__" (inClass (top 20) 0) ["high", "right"]) : Kd P w K mg base c T 25 := let ⟨fI, fd, e⟩ := x.exi t; ⟨⟨fI, fd, e.f, ok_NoEdge e, e.bi⟩, e.g, e.mC, e.no⟩
theorem kd_26 (t : TF K mg T) (x : CF K mg T (c 26) "Held" "Held.__init__" (inClass (top 21) 0) ["place", "holder"]) : Kd P w K mg base c T 26 := let ⟨fI, fd, e⟩ := x.exi t; ⟨⟨fI, fd, e.f, ok_Held e, e.bi⟩, e.g, e.mC, e.no⟩
theorem kd_27 (t : TF K mg T) (x : CF K mg T (c 27) "NotHeld" "NotHeld.__init__" (inClass (top 22) 0) ["place", "doer"]) : Kd P w K mg base c T 27 := let ⟨fI, fd, e⟩ := x.exi t; ⟨⟨fI, fd, e.f, ok_NotHeld e, e.bi⟩, e.g, e.mC, e.no⟩
theorem kd_28 (t : TF K mg T) (x : CF K mg T (c 28) "Waits" "Waits.__init__" (inClass (top 27) 0) ["doer", "place"]) : Kd P w K mg base c T 28 := let ⟨fI, fd, e⟩ := x.exi t; ⟨⟨fI, fd, e.f, ok_Waits e, e.bi⟩, e.g, e.mC, e.no⟩
theorem cn_inj : ∀ i, i < 29 → ∀ j, j < 29 → cn i = cn j → i = j := by decide +kernel
theorem cn_top : ∀ i, i < 29 → cn i ≠ "TreeError" := by decide +kernel
theorem all_mk (t : TF K mg T) (hr : ∀ C, mg "NoKey" = some (.ref C) → PySem.W.findIn K (.ref C) "__repr__" = some (some (.builtin "BaseException.__repr__")))
    (h0 : ∃ C T', mg "TreeError" = some (.ref T') ∧ CF K mg T' C "NoKey" "NoKey.__init__" (inClass (top 2) 0) ["found"])
    (h1 : ∃ C T', mg "TreeError" = some (.ref T') ∧ CF K mg T' C "NoGood" "NoGood.__init__" (inClass (top 3) 0) ["found"])
    (h2 : ∃ C T', mg "TreeError" = some (.ref T') ∧ CF K mg T' C "NoPage" "NoPage.__init__" (inClass (top 4) 0) ["found"])
    (h3 : ∃ C T', mg "TreeError" = some (.ref T') ∧ CF K mg T' C "NoPlace" "NoPlace.__init__" (inClass (top 5) 0) ["found"])
    (h4 : ∃ C T', mg "TreeError" = some (.ref T') ∧ CF K mg T' C "NoMost" "NoMost.__init__" (inClass (top 6) 0) ["found"])
    (h5 : ∃ C T', mg "TreeError" = some (.ref T') ∧ CF K mg T' C "NoLevel" "NoLevel.__init__" (inClass (top 7) 0) ["found"])
    (h6 : ∃ C T', mg "TreeError" = some (.ref T') ∧ CF K mg T' C "NoDoer" "NoDoer.__init__" (inClass (top 8) 0) ["found"])
    (h7 : ∃ C T', mg "TreeError" = some (.ref T') ∧ CF K mg T' C "NoTree" "NoTree.__init__" (inClass (top 9) 0) ["found"])
    (h8 : ∃ C T', mg "TreeError" = some (.ref T') ∧ CF K mg T' C "NoCall" "NoCall.__init__" (inClass (top 10) 0) ["found"])
    (h9 : ∃ C T', mg "TreeError" = some (.ref T') ∧ CF K mg T' C "NoText" "NoText.__init__" (inClass (top 11) 0) ["found"])
    (h10 : ∃ C T', mg "TreeError" = some (.ref T') ∧ CF K mg T' C "NoLine" "NoLine.__init__" (inClass (top 12) 0) ["found"])
    (h11 : ∃ C T', mg "TreeError" = some (.ref T') ∧ CF K mg T' C "NoNumber" "NoNumber.__init__" (inClass (top 13) 0) ["found"])
    (h12 : ∃ C T', mg "TreeError" = some (.ref T') ∧ CF K mg T' C "Twice" "Twice.__init__" (inClass (top 24) 0) ["found"])
    (h13 : ∃ C T', mg "TreeError" = some (.ref T') ∧ CF K mg T' C "NoWeaving" "NoWeaving.__init__" (inClass (top 28) 0) ["found"])
    (h14 : ∃ C T', mg "TreeError" = some (.ref T') ∧ CF K mg T' C "NoShape" "NoShape.__init__" (inClass (top 30) 0) ["found"])
    (h15 : ∃ C T', mg "TreeError" = some (.ref T') ∧ CF K mg T' C "Lacks" "Lacks.__init__" (inClass (top 14) 0) ["key"])
    (h16 : ∃ C T', mg "TreeError" = some (.ref T') ∧ CF K mg T' C "Has" "Has.__init__" (inClass (top 15) 0) ["key"])
    (h17 : ∃ C T', mg "TreeError" = some (.ref T') ∧ CF K mg T' C "NoJoin" "NoJoin.__init__" (inClass (top 16) 0) ["key"])
    (h18 : ∃ C T', mg "TreeError" = some (.ref T') ∧ CF K mg T' C "TooMany" "TooMany.__init__" (inClass (top 17) 0) ["count"])
    (h19 : ∃ C T', mg "TreeError" = some (.ref T') ∧ CF K mg T' C "TooFew" "TooFew.__init__" (inClass (top 18) 0) ["count"])
    (h20 : ∃ C T', mg "TreeError" = some (.ref T') ∧ CF K mg T' C "Gone" "Gone.__init__" (inClass (top 23) 0) ["place"])
    (h21 : ∃ C T', mg "TreeError" = some (.ref T') ∧ CF K mg T' C "Ended" "Ended.__init__" (inClass (top 25) 0) ["doer"])
    (h22 : ∃ C T', mg "TreeError" = some (.ref T') ∧ CF K mg T' C "Going" "Going.__init__" (inClass (top 26) 0) ["doer"])
    (h23 : ∃ C T', mg "TreeError" = some (.ref T') ∧ CF K mg T' C "BadLine" "BadLine.__init__" (inClass (top 29) 0) ["row"])
    (h24 : ∃ C T', mg "TreeError" = some (.ref T') ∧ CF K mg T' C "NoSpan" "NoSpan.__init__" (inClass (top 19) 0) ["low", "high"])
    (h25 : ∃ C T', mg "TreeError" = some (.ref T') ∧ CF K mg T' C "NoEdge" "NoEdge.__init__" (inClass (top 20) 0) ["high", "right"])
    (h26 : ∃ C T', mg "TreeError" = some (.ref T') ∧ CF K mg T' C "Held" "Held.__init__" (inClass (top 21) 0) ["place", "holder"])
    (h27 : ∃ C T', mg "TreeError" = some (.ref T') ∧ CF K mg T' C "NotHeld" "NotHeld.__init__" (inClass (top 22) 0) ["place", "doer"])
    (h28 : ∃ C T', mg "TreeError" = some (.ref T') ∧ CF K mg T' C "Waits" "Waits.__init__" (inClass (top 27) 0) ["doer", "place"])
    : ∃ c, ∀ (P : Program) (w : World) (base : Heap), All P w K mg base c T := by
  obtain ⟨C0, T0, m0, F0⟩ := h0
  cases (Value.ref.inj (Option.some.inj (t.mT.symm.trans m0)))
  obtain ⟨C1, T1, m1, F1⟩ := h1
  cases (Value.ref.inj (Option.some.inj (t.mT.symm.trans m1)))
  obtain ⟨C2, T2, m2, F2⟩ := h2
  cases (Value.ref.inj (Option.some.inj (t.mT.symm.trans m2)))
  obtain ⟨C3, T3, m3, F3⟩ := h3
  cases (Value.ref.inj (Option.some.inj (t.mT.symm.trans m3)))
  obtain ⟨C4, T4, m4, F4⟩ := h4
  cases (Value.ref.inj (Option.some.inj (t.mT.symm.trans m4)))
  obtain ⟨C5, T5, m5, F5⟩ := h5
  cases (Value.ref.inj (Option.some.inj (t.mT.symm.trans m5)))
  obtain ⟨C6, T6, m6, F6⟩ := h6
  cases (Value.ref.inj (Option.some.inj (t.mT.symm.trans m6)))
  obtain ⟨C7, T7, m7, F7⟩ := h7
  cases (Value.ref.inj (Option.some.inj (t.mT.symm.trans m7)))
  obtain ⟨C8, T8, m8, F8⟩ := h8
  cases (Value.ref.inj (Option.some.inj (t.mT.symm.trans m8)))
  obtain ⟨C9, T9, m9, F9⟩ := h9
  cases (Value.ref.inj (Option.some.inj (t.mT.symm.trans m9)))
  obtain ⟨C10, T10, m10, F10⟩ := h10
  cases (Value.ref.inj (Option.some.inj (t.mT.symm.trans m10)))
  obtain ⟨C11, T11, m11, F11⟩ := h11
  cases (Value.ref.inj (Option.some.inj (t.mT.symm.trans m11)))
  obtain ⟨C12, T12, m12, F12⟩ := h12
  cases (Value.ref.inj (Option.some.inj (t.mT.symm.trans m12)))
  obtain ⟨C13, T13, m13, F13⟩ := h13
  cases (Value.ref.inj (Option.some.inj (t.mT.symm.trans m13)))
  obtain ⟨C14, T14, m14, F14⟩ := h14
  cases (Value.ref.inj (Option.some.inj (t.mT.symm.trans m14)))
  obtain ⟨C15, T15, m15, F15⟩ := h15
  cases (Value.ref.inj (Option.some.inj (t.mT.symm.trans m15)))
  obtain ⟨C16, T16, m16, F16⟩ := h16
  cases (Value.ref.inj (Option.some.inj (t.mT.symm.trans m16)))
  obtain ⟨C17, T17, m17, F17⟩ := h17
  cases (Value.ref.inj (Option.some.inj (t.mT.symm.trans m17)))
  obtain ⟨C18, T18, m18, F18⟩ := h18
  cases (Value.ref.inj (Option.some.inj (t.mT.symm.trans m18)))
  obtain ⟨C19, T19, m19, F19⟩ := h19
  cases (Value.ref.inj (Option.some.inj (t.mT.symm.trans m19)))
  obtain ⟨C20, T20, m20, F20⟩ := h20
  cases (Value.ref.inj (Option.some.inj (t.mT.symm.trans m20)))
  obtain ⟨C21, T21, m21, F21⟩ := h21
  cases (Value.ref.inj (Option.some.inj (t.mT.symm.trans m21)))
  obtain ⟨C22, T22, m22, F22⟩ := h22
  cases (Value.ref.inj (Option.some.inj (t.mT.symm.trans m22)))
  obtain ⟨C23, T23, m23, F23⟩ := h23
  cases (Value.ref.inj (Option.some.inj (t.mT.symm.trans m23)))
  obtain ⟨C24, T24, m24, F24⟩ := h24
  cases (Value.ref.inj (Option.some.inj (t.mT.symm.trans m24)))
  obtain ⟨C25, T25, m25, F25⟩ := h25
  cases (Value.ref.inj (Option.some.inj (t.mT.symm.trans m25)))
  obtain ⟨C26, T26, m26, F26⟩ := h26
  cases (Value.ref.inj (Option.some.inj (t.mT.symm.trans m26)))
  obtain ⟨C27, T27, m27, F27⟩ := h27
  cases (Value.ref.inj (Option.some.inj (t.mT.symm.trans m27)))
  obtain ⟨C28, T28, m28, F28⟩ := h28
  cases (Value.ref.inj (Option.some.inj (t.mT.symm.trans m28)))
  have cs : ∀ i, i < 29 → ∃ q st ps, CF K mg T (([C0, C1, C2, C3, C4, C5, C6, C7, C8, C9, C10, C11, C12, C13, C14, C15, C16, C17, C18, C19, C20, C21, C22, C23, C24, C25, C26, C27, C28] : List Addr).getD i 0) (cn i) q st ps := fun i hi => match i, hi with
    | 0, _ => ⟨_, _, _, F0⟩
    | 1, _ => ⟨_, _, _, F1⟩
    | 2, _ => ⟨_, _, _, F2⟩
    | 3, _ => ⟨_, _, _, F3⟩
    | 4, _ => ⟨_, _, _, F4⟩
    | 5, _ => ⟨_, _, _, F5⟩
    | 6, _ => ⟨_, _, _, F6⟩
    | 7, _ => ⟨_, _, _, F7⟩
    | 8, _ => ⟨_, _, _, F8⟩
    | 9, _ => ⟨_, _, _, F9⟩
    | 10, _ => ⟨_, _, _, F10⟩
    | 11, _ => ⟨_, _, _, F11⟩
    | 12, _ => ⟨_, _, _, F12⟩
    | 13, _ => ⟨_, _, _, F13⟩
    | 14, _ => ⟨_, _, _, F14⟩
    | 15, _ => ⟨_, _, _, F15⟩
    | 16, _ => ⟨_, _, _, F16⟩
    | 17, _ => ⟨_, _, _, F17⟩
    | 18, _ => ⟨_, _, _, F18⟩
    | 19, _ => ⟨_, _, _, F19⟩
    | 20, _ => ⟨_, _, _, F20⟩
    | 21, _ => ⟨_, _, _, F21⟩
    | 22, _ => ⟨_, _, _, F22⟩
    | 23, _ => ⟨_, _, _, F23⟩
    | 24, _ => ⟨_, _, _, F24⟩
    | 25, _ => ⟨_, _, _, F25⟩
    | 26, _ => ⟨_, _, _, F26⟩
    | 27, _ => ⟨_, _, _, F27⟩
    | 28, _ => ⟨_, _, _, F28⟩
    | n + 29, h => absurd h (by omega)
  refine ⟨fun i => ([C0, C1, C2, C3, C4, C5, C6, C7, C8, C9, C10, C11, C12, C13, C14, C15, C16, C17, C18, C19, C20, C21, C22, C23, C24, C25, C26, C27, C28] : List Addr).getD i 0, fun P w base => ?_⟩
  generalize hc : (fun i => ([C0, C1, C2, C3, C4, C5, C6, C7, C8, C9, C10, C11, C12, C13, C14, C15, C16, C17, C18, C19, C20, C21, C22, C23, C24, C25, C26, C27, C28] : List Addr).getD i 0) = c
  have cs' : ∀ i, i < 29 → ∃ q st ps, CF K mg T (c i) (cn i) q st ps := fun i hi => by rw [← hc]; exact cs i hi
  have F0' : CF K mg T (c 0) "NoKey" "NoKey.__init__" (inClass (top 2) 0) ["found"] := by rw [← hc]; exact F0
  have F1' : CF K mg T (c 1) "NoGood" "NoGood.__init__" (inClass (top 3) 0) ["found"] := by rw [← hc]; exact F1
  have F2' : CF K mg T (c 2) "NoPage" "NoPage.__init__" (inClass (top 4) 0) ["found"] := by rw [← hc]; exact F2
  have F3' : CF K mg T (c 3) "NoPlace" "NoPlace.__init__" (inClass (top 5) 0) ["found"] := by rw [← hc]; exact F3
  have F4' : CF K mg T (c 4) "NoMost" "NoMost.__init__" (inClass (top 6) 0) ["found"] := by rw [← hc]; exact F4
  have F5' : CF K mg T (c 5) "NoLevel" "NoLevel.__init__" (inClass (top 7) 0) ["found"] := by rw [← hc]; exact F5
  have F6' : CF K mg T (c 6) "NoDoer" "NoDoer.__init__" (inClass (top 8) 0) ["found"] := by rw [← hc]; exact F6
  have F7' : CF K mg T (c 7) "NoTree" "NoTree.__init__" (inClass (top 9) 0) ["found"] := by rw [← hc]; exact F7
  have F8' : CF K mg T (c 8) "NoCall" "NoCall.__init__" (inClass (top 10) 0) ["found"] := by rw [← hc]; exact F8
  have F9' : CF K mg T (c 9) "NoText" "NoText.__init__" (inClass (top 11) 0) ["found"] := by rw [← hc]; exact F9
  have F10' : CF K mg T (c 10) "NoLine" "NoLine.__init__" (inClass (top 12) 0) ["found"] := by rw [← hc]; exact F10
  have F11' : CF K mg T (c 11) "NoNumber" "NoNumber.__init__" (inClass (top 13) 0) ["found"] := by rw [← hc]; exact F11
  have F12' : CF K mg T (c 12) "Twice" "Twice.__init__" (inClass (top 24) 0) ["found"] := by rw [← hc]; exact F12
  have F13' : CF K mg T (c 13) "NoWeaving" "NoWeaving.__init__" (inClass (top 28) 0) ["found"] := by rw [← hc]; exact F13
  have F14' : CF K mg T (c 14) "NoShape" "NoShape.__init__" (inClass (top 30) 0) ["found"] := by rw [← hc]; exact F14
  have F15' : CF K mg T (c 15) "Lacks" "Lacks.__init__" (inClass (top 14) 0) ["key"] := by rw [← hc]; exact F15
  have F16' : CF K mg T (c 16) "Has" "Has.__init__" (inClass (top 15) 0) ["key"] := by rw [← hc]; exact F16
  have F17' : CF K mg T (c 17) "NoJoin" "NoJoin.__init__" (inClass (top 16) 0) ["key"] := by rw [← hc]; exact F17
  have F18' : CF K mg T (c 18) "TooMany" "TooMany.__init__" (inClass (top 17) 0) ["count"] := by rw [← hc]; exact F18
  have F19' : CF K mg T (c 19) "TooFew" "TooFew.__init__" (inClass (top 18) 0) ["count"] := by rw [← hc]; exact F19
  have F20' : CF K mg T (c 20) "Gone" "Gone.__init__" (inClass (top 23) 0) ["place"] := by rw [← hc]; exact F20
  have F21' : CF K mg T (c 21) "Ended" "Ended.__init__" (inClass (top 25) 0) ["doer"] := by rw [← hc]; exact F21
  have F22' : CF K mg T (c 22) "Going" "Going.__init__" (inClass (top 26) 0) ["doer"] := by rw [← hc]; exact F22
  have F23' : CF K mg T (c 23) "BadLine" "BadLine.__init__" (inClass (top 29) 0) ["row"] := by rw [← hc]; exact F23
  have F24' : CF K mg T (c 24) "NoSpan" "NoSpan.__init__" (inClass (top 19) 0) ["low", "high"] := by rw [← hc]; exact F24
  have F25' : CF K mg T (c 25) "NoEdge" "NoEdge.__init__" (inClass (top 20) 0) ["high", "right"] := by rw [← hc]; exact F25
  have F26' : CF K mg T (c 26) "Held" "Held.__init__" (inClass (top 21) 0) ["place", "holder"] := by rw [← hc]; exact F26
  have F27' : CF K mg T (c 27) "NotHeld" "NotHeld.__init__" (inClass (top 22) 0) ["place", "doer"] := by rw [← hc]; exact F27
  have F28' : CF K mg T (c 28) "Waits" "Waits.__init__" (inClass (top 27) 0) ["doer", "place"] := by rw [← hc]; exact F28
  obtain ⟨cdT, tT, nT, dT, mT, yT⟩ := t.cd
  have inj : ∀ i j, i < 29 → j < 29 → c i = c j → i = j := fun i j hi hj e => by
    obtain ⟨_, _, _, x⟩ := cs' i hi
    obtain ⟨_, _, _, y⟩ := cs' j hj
    obtain ⟨cd1, a1, a2, _⟩ := x.cd
    obtain ⟨cd2, b1, b2, _⟩ := y.cd
    rw [e, b1] at a1
    cases a1
    exact cn_inj i hi j hj (a2.symm.trans b2)
  have ntop : ∀ i, i < 29 → c i ≠ T := fun i hi e => by
    obtain ⟨_, _, _, x⟩ := cs' i hi
    obtain ⟨cd1, a1, a2, _⟩ := x.cd
    rw [e, tT] at a1
    cases a1
    exact cn_top i hi (a2.symm.trans nT)
  have nb : ∀ D : Addr, bmV.contains (.ref D) = false := fun D => rfl
  refine ⟨fun i hi => match i, hi with
    | 0, _ => kd_0 t F0'
    | 1, _ => kd_1 t F1'
    | 2, _ => kd_2 t F2'
    | 3, _ => kd_3 t F3'
    | 4, _ => kd_4 t F4'
    | 5, _ => kd_5 t F5'
    | 6, _ => kd_6 t F6'
    | 7, _ => kd_7 t F7'
    | 8, _ => kd_8 t F8'
    | 9, _ => kd_9 t F9'
    | 10, _ => kd_10 t F10'
    | 11, _ => kd_11 t F11'
    | 12, _ => kd_12 t F12'
    | 13, _ => kd_13 t F13'
    | 14, _ => kd_14 t F14'
    | 15, _ => kd_15 t F15'
    | 16, _ => kd_16 t F16'
    | 17, _ => kd_17 t F17'
    | 18, _ => kd_18 t F18'
    | 19, _ => kd_19 t F19'
    | 20, _ => kd_20 t F20'
    | 21, _ => kd_21 t F21'
    | 22, _ => kd_22 t F22'
    | 23, _ => kd_23 t F23'
    | 24, _ => kd_24 t F24'
    | 25, _ => kd_25 t F25'
    | 26, _ => kd_26 t F26'
    | 27, _ => kd_27 t F27'
    | 28, _ => kd_28 t F28'
    | n + 29, h => absurd h (by omega)
    , fun i j hi hj => ?_, fun i hi => ?_, fun i hi => ?_, t.xt, t.g, t.mT, fun j hj => ?_, ?_, ?_⟩
  · obtain ⟨_, _, _, x⟩ := cs' i hi
    obtain ⟨_, _, _, y⟩ := cs' j hj
    obtain ⟨cd1, a1, _, _, a4, _⟩ := x.cd
    obtain ⟨cd2, b1, _, _, _, b5⟩ := y.cd
    rw [kit_of a1 a4 b1 b5, List.contains_cons, List.contains_cons, nb, Bool.or_false]
    have e1 : (Value.ref (c j) == Value.ref T) = false := beq_eq_false_iff_ne.mpr fun z => ntop j hj (Value.ref.inj z)
    rw [e1, Bool.or_false]
    by_cases e : i = j
    · subst e
      rw [decide_eq_true rfl]
      simp
    · rw [decide_eq_false e]
      exact congrArg some (beq_eq_false_iff_ne.mpr fun z => e (inj i j hi hj (Value.ref.inj z).symm))
  · obtain ⟨_, _, _, x⟩ := cs' i hi
    obtain ⟨cd1, a1, _, _, a4, _⟩ := x.cd
    rw [kit_of a1 a4 tT yT, List.contains_cons, List.contains_cons]
    simp
  · obtain ⟨_, _, _, x⟩ := cs' i hi
    obtain ⟨cd1, a1, _, _, a4, _⟩ := x.cd
    rw [val_of a1 a4]
    rfl
  · obtain ⟨_, _, _, y⟩ := cs' j hj
    obtain ⟨cd2, b1, _, _, _, b5⟩ := y.cd
    rw [kit_of tT mT b1 b5, List.contains_cons, nb, Bool.or_false]
    exact congrArg some (beq_eq_false_iff_ne.mpr fun z => ntop j hj (Value.ref.inj z))
  · rw [val_of tT mT]
    rfl
  · obtain ⟨cd1, a1, a2, _, a4, _⟩ := F0'.cd
    exact ⟨hr _ F0'.mC, (mro_cd a1 a4).trans rfl, cd1, a1, by rw [a2]; decide +kernel⟩
end
end K02

set_option Elab.async false
set_option linter.all false
set_option maxRecDepth 100000
namespace K02
open PySem L2
theorem fun_uniq {K : PySem.W.Frag} {x q : Str} {st : Stmt} {f : Addr} {fd fd' : FuncData} (a : Fun K x q st f fd) (b : Fun K x q st f fd') : fd = fd' := by
  obtain ⟨_, _, _, _, _, _, _, _, _, _, l1, _⟩ := a.ex
  obtain ⟨_, _, _, _, _, _, _, _, _, _, l2, _⟩ := b.ex
  rw [l1] at l2
  cases l2
  rfl
theorem last {P : Program} {w : World} {K : PySem.W.Frag} {mg : Str → Option Value} {fa : Addr} (T : Txt K mg) (Z : ∃ TT c, ∀ (P : Program) (w : World) (base : Heap), All P w K mg base c TT) (d__law_cell : ∃ f fd, Dn K mg "_law_cell" "_law_cell" s__law_cell ["_law_script", "_law_k"] f fd) (d__law_box : ∃ f fd, Dn K mg "_law_box" "_law_box" s__law_box ["_law_cell_here"] f fd) (d__law_take : ∃ f fd, Dn K mg "_law_take" "_law_take" s__law_take ["_law_box_here", "_law_many"] f fd) (d__law_thing : ∃ f fd, Dn K mg "_law_thing" "_law_thing" s__law_thing ["_law_box_here"] f fd) (d__law_one : ∃ f fd, Dn K mg "_law_one" "_law_one" s__law_one ["_law_way", "_law_thing_here"] f fd) (d__law_more : ∃ f fd, Dn K mg "_law_more" "_law_more" s__law_more ["_law_way", "_law_one_here", "_law_other"] f fd) (d__law_made : ∃ f fd, Dn K mg "_law_made" "_law_made" s__law_made ["_law_way", "_law_one_here", "_law_other"] f fd) (d__law_kinds : ∃ f fd, Dn K mg "_law_kinds" "_law_kinds" s__law_kinds ["_law_e"] f fd) (d__law_found : ∃ f fd, Dn K mg "_law_found" "_law_found" s__law_found ["_law_e"] f fd) (d__law_two : ∃ f fd, Dn K mg "_law_two" "_law_two" s__law_two ["_law_e"] f fd) (d__law_right : ∃ f fd, Dn K mg "_law_right" "_law_right" s__law_right ["_law_way", "_law_one_here", "_law_other"] f fd) (d__law_very_right : ∃ f fd, Dn K mg "_law_very_right" "_law_very_right" s__law_very_right ["_law_way", "_law_box_here"] f fd) (d_law : ∃ f fd, Dn K mg "law" "law" s_law ["_law_script"] f fd) (hmg : mg "law" = some (.ref fa)) :
    ∃ fd : FuncData, (∀ (s : Shared) (u : Value), BindsTo s fd ⟨[u], []⟩ [("_law_script", u)]) ∧ ∀ base : Heap, FnOk P w K mg base CX0 6 fa fd ["_law_script"] (spLaw K) := by
  obtain ⟨TT, c, Z⟩ := Z
  obtain ⟨f, fd, Dl⟩ := d_law
  have ef : fa = f := Value.ref.inj (Option.some.inj (hmg.symm.trans Dl.m))
  subst ef
  refine ⟨fd, ?_, fun base => ?_⟩
  · obtain ⟨oc, od, kV, doc, pm, an, cdv, ct, osl, e, lk, hcd⟩ := Dl.fn.ex
    subst e
    exact fun s u => .of_eq rfl
  · have Z := Z P w base
    have take := ok_take (P := P) (w := w) (base := base) d__law_take T
    have cell := ok_cell (P := P) (w := w) (base := base) d__law_cell T
    have box := ok_box (P := P) (w := w) (base := base) d__law_box T
    have thing := ok_thing d__law_thing T Z take
    have one := ok_one d__law_one T Z
    have more := ok_more d__law_more T Z
    have made := ok_made d__law_made T one more
    have kinds := ok_kinds d__law_kinds T Z
    have found := ok_found d__law_found T Z
    have two := ok_two d__law_two T Z
    have right := ok_right d__law_right T Z made kinds found two
    have very := ok_very d__law_very_right T take made found two
    obtain ⟨f', fd', D', G'⟩ := ok_law ⟨fa, fd, Dl⟩ T Z cell box thing right very kinds
    have ef : fa = f' := Value.ref.inj (Option.some.inj (hmg.symm.trans D'.m))
    subst ef
    cases fun_uniq Dl.fn D'.fn
    exact G'
theorem repr_of {K : PySem.W.Frag} {h : Heap} {mg : Str → Option Value} {C : Addr} (X : K.In h) (G : h.Ns mainGlobals mg) (aC : PySem.W.nsIn K mainGlobals "NoKey" = some (some (.ref C))) (r : PySem.W.findIn K (.ref C) "__repr__" = some (some (.builtin "BaseException.__repr__"))) :
    ∀ C, mg "NoKey" = some (.ref C) → PySem.W.findIn K (.ref C) "__repr__" = some (some (.builtin "BaseException.__repr__")) := fun C' h' => by
  cases (Value.ref.inj (Option.some.inj ((PySem.W.mg_of X G aC).symm.trans h')))
  exact r
end K02
def PySem.W.Fast.tw11160023694769267200 : Nat := 0
def PySem.W.Fast.tw2665438611894358753 : Nat := 0
def PySem.W.Fast.tw4438940345832023841 : Nat := 0
def PySem.W.Fast.tw8338276065399734562 : Nat := 0
def PySem.W.Fast.tw14497373118141186213 : Nat := 0
def PySem.W.Fast.tw13197094058940052230 : Nat := 0
def PySem.W.Fast.tw312369612393397447 : Nat := 0
def PySem.W.Fast.tw4691138286167803080 : Nat := 0
def PySem.W.Fast.tw14045058257728922888 : Nat := 0
def PySem.W.Fast.tw12298795886465388040 : Nat := 0
def PySem.W.Fast.tw3855389268180714120 : Nat := 0
def PySem.W.Fast.tw6425520511559268713 : Nat := 0
def PySem.W.Fast.tw10715814226943197577 : Nat := 0
def PySem.W.Fast.tw2834531865809933129 : Nat := 0
def PySem.W.Fast.tw1288138564796940714 : Nat := 0
def PySem.W.Fast.tw12148782191345774829 : Nat := 0
def PySem.W.Fast.tw6955628059908032590 : Nat := 0
def PySem.W.Fast.tw5525391763990419598 : Nat := 0
def PySem.W.Fast.tw1367638895961814190 : Nat := 0
def PySem.W.Fast.tw426918045953243342 : Nat := 0
def PySem.W.Fast.tw7461836731702177358 : Nat := 0
def PySem.W.Fast.tw17462582927046109998 : Nat := 0
def PySem.W.Fast.tw15030012018484736335 : Nat := 0
def PySem.W.Fast.tw5798206735074746736 : Nat := 0
def PySem.W.Fast.tw11612308828384388464 : Nat := 0
def PySem.W.Fast.tw15064677585636847281 : Nat := 0
def PySem.W.Fast.tw11044994588462844754 : Nat := 0
def PySem.W.Fast.tw18114882130129168274 : Nat := 0
def PySem.W.Fast.tw11658143881073416724 : Nat := 0
def PySem.W.Fast.tw2634118046608931190 : Nat := 0
def PySem.W.Fast.tw16058695944415205527 : Nat := 0
def PySem.W.Fast.tw12430580017856022169 : Nat := 0
def PySem.W.Fast.tw9371034563653021179 : Nat := 0
def PySem.W.Fast.tw10499533548389877596 : Nat := 0
def PySem.W.Fast.tw13117577099042182269 : Nat := 0
open PySem PySem.W PyProof.Rows
set_option maxRecDepth 100000 in
set_option maxHeartbeats 0 in
theorem PySem.Challenge.cw_nolocktree_k02_refusals_made_holds : PySem.Challenge.rw_nolocktree_k02_refusals_made.Holds := by
  w_on; o_law; k_head; (case hw => w_witness2)
  k_fill
  refine L2.walk_ofK (l := PySem.Challenge.rw_nolocktree_k02_refusals_made) (n := 63) (k := 6) (x := "_law_script") (CX := L2.CX0) (sp := K02.spLaw) rfl (by decide) rfl ⟨rfl, by decide, by decide, rfl⟩ (fun w h Y => PySem.W.kIn_of Y) ?F ?S ?C
  case S => exact fun K H a ns hl hO hS => ⟨a, ns, rfl, hS, hl, fun _ => rfl⟩
  case C => exact fun _ _ _ _ z => z
  case F =>
    intro w mg fa h KX G hmg
    have TX : ∃ T, K02.TF (L2.KOf KX) mg T := by
      dsimp only [L2.KOf]
      refine' K02.tf_mk KX G ?aT ?lT ?lN ?s1 ?s2 ?b1 ?b2 ?b3 ?i1 ?i3 ?g1 ?g2 ?g4 ?g5 ?g6
      (case aT => k_is); (case lT => k_is); (case lN => k_is); (case s1 => kernel_rfl); (case s2 => kernel_rfl); (case b1 => k_is); (case b2 => k_is); (case b3 => k_is); (case i1 => k_is); (case i3 => k_is); (case g1 => k_is); (case g2 => k_is); (case g4 => k_is); (case g5 => k_is); (case g6 => k_is)
    have RX : ∀ C, mg "NoKey" = some (.ref C) → PySem.W.findIn (L2.KOf KX) (.ref C) "__repr__" = some (some (.builtin "BaseException.__repr__")) := by
      dsimp only [L2.KOf]
      refine' K02.repr_of KX G ?a ?r
      (case a => k_is); (case r => k_is)
    have H_NoKey : ∃ C T', mg "TreeError" = some (.ref T') ∧ K02.CF (L2.KOf KX) mg T' C "NoKey" "NoKey.__init__" (L2.inClass (K02.top 2) 0) ["found"] := by
      dsimp only [L2.KOf]
      refine' K02.cls_mk KX G ?aC ?aT ?lC ?i1 ?i3 ?i5 ?g1 ?g2 ?g4 ?l1 ?c1 (K02.na1 ?n1) (fun _ _ _ _ _ _ us hl => match us, hl with | [_, _], _ => rfl)
      (case aC => k_is); (case aT => k_is); (case lC => k_is); (case i1 => k_is); (case i3 => k_is); (case i5 => k_is); (case g1 => k_is); (case g2 => k_is); (case g4 => k_is); (case l1 => k_is); (case c1 => k_is); (case n1 => k_is)
    have H_NoGood : ∃ C T', mg "TreeError" = some (.ref T') ∧ K02.CF (L2.KOf KX) mg T' C "NoGood" "NoGood.__init__" (L2.inClass (K02.top 3) 0) ["found"] := by
      dsimp only [L2.KOf]
      refine' K02.cls_mk KX G ?aC ?aT ?lC ?i1 ?i3 ?i5 ?g1 ?g2 ?g4 ?l1 ?c1 (K02.na1 ?n1) (fun _ _ _ _ _ _ us hl => match us, hl with | [_, _], _ => rfl)
      (case aC => k_is); (case aT => k_is); (case lC => k_is); (case i1 => k_is); (case i3 => k_is); (case i5 => k_is); (case g1 => k_is); (case g2 => k_is); (case g4 => k_is); (case l1 => k_is); (case c1 => k_is); (case n1 => k_is)
    have H_NoPage : ∃ C T', mg "TreeError" = some (.ref T') ∧ K02.CF (L2.KOf KX) mg T' C "NoPage" "NoPage.__init__" (L2.inClass (K02.top 4) 0) ["found"] := by
      dsimp only [L2.KOf]
      refine' K02.cls_mk KX G ?aC ?aT ?lC ?i1 ?i3 ?i5 ?g1 ?g2 ?g4 ?l1 ?c1 (K02.na1 ?n1) (fun _ _ _ _ _ _ us hl => match us, hl with | [_, _], _ => rfl)
      (case aC => k_is); (case aT => k_is); (case lC => k_is); (case i1 => k_is); (case i3 => k_is); (case i5 => k_is); (case g1 => k_is); (case g2 => k_is); (case g4 => k_is); (case l1 => k_is); (case c1 => k_is); (case n1 => k_is)
    have H_NoPlace : ∃ C T', mg "TreeError" = some (.ref T') ∧ K02.CF (L2.KOf KX) mg T' C "NoPlace" "NoPlace.__init__" (L2.inClass (K02.top 5) 0) ["found"] := by
      dsimp only [L2.KOf]
      refine' K02.cls_mk KX G ?aC ?aT ?lC ?i1 ?i3 ?i5 ?g1 ?g2 ?g4 ?l1 ?c1 (K02.na1 ?n1) (fun _ _ _ _ _ _ us hl => match us, hl with | [_, _], _ => rfl)
      (case aC => k_is); (case aT => k_is); (case lC => k_is); (case i1 => k_is); (case i3 => k_is); (case i5 => k_is); (case g1 => k_is); (case g2 => k_is); (case g4 => k_is); (case l1 => k_is); (case c1 => k_is); (case n1 => k_is)
    have H_NoMost : ∃ C T', mg "TreeError" = some (.ref T') ∧ K02.CF (L2.KOf KX) mg T' C "NoMost" "NoMost.__init__" (L2.inClass (K02.top 6) 0) ["found"] := by
      dsimp only [L2.KOf]
      refine' K02.cls_mk KX G ?aC ?aT ?lC ?i1 ?i3 ?i5 ?g1 ?g2 ?g4 ?l1 ?c1 (K02.na1 ?n1) (fun _ _ _ _ _ _ us hl => match us, hl with | [_, _], _ => rfl)
      (case aC => k_is); (case aT => k_is); (case lC => k_is); (case i1 => k_is); (case i3 => k_is); (case i5 => k_is); (case g1 => k_is); (case g2 => k_is); (case g4 => k_is); (case l1 => k_is); (case c1 => k_is); (case n1 => k_is)
    have H_NoLevel : ∃ C T', mg "TreeError" = some (.ref T') ∧ K02.CF (L2.KOf KX) mg T' C "NoLevel" "NoLevel.__init__" (L2.inClass (K02.top 7) 0) ["found"] := by
      dsimp only [L2.KOf]
      refine' K02.cls_mk KX G ?aC ?aT ?lC ?i1 ?i3 ?i5 ?g1 ?g2 ?g4 ?l1 ?c1 (K02.na1 ?n1) (fun _ _ _ _ _ _ us hl => match us, hl with | [_, _], _ => rfl)
      (case aC => k_is); (case aT => k_is); (case lC => k_is); (case i1 => k_is); (case i3 => k_is); (case i5 => k_is); (case g1 => k_is); (case g2 => k_is); (case g4 => k_is); (case l1 => k_is); (case c1 => k_is); (case n1 => k_is)
    have H_NoDoer : ∃ C T', mg "TreeError" = some (.ref T') ∧ K02.CF (L2.KOf KX) mg T' C "NoDoer" "NoDoer.__init__" (L2.inClass (K02.top 8) 0) ["found"] := by
      dsimp only [L2.KOf]
      refine' K02.cls_mk KX G ?aC ?aT ?lC ?i1 ?i3 ?i5 ?g1 ?g2 ?g4 ?l1 ?c1 (K02.na1 ?n1) (fun _ _ _ _ _ _ us hl => match us, hl with | [_, _], _ => rfl)
      (case aC => k_is); (case aT => k_is); (case lC => k_is); (case i1 => k_is); (case i3 => k_is); (case i5 => k_is); (case g1 => k_is); (case g2 => k_is); (case g4 => k_is); (case l1 => k_is); (case c1 => k_is); (case n1 => k_is)
    have H_NoTree : ∃ C T', mg "TreeError" = some (.ref T') ∧ K02.CF (L2.KOf KX) mg T' C "NoTree" "NoTree.__init__" (L2.inClass (K02.top 9) 0) ["found"] := by
      dsimp only [L2.KOf]
      refine' K02.cls_mk KX G ?aC ?aT ?lC ?i1 ?i3 ?i5 ?g1 ?g2 ?g4 ?l1 ?c1 (K02.na1 ?n1) (fun _ _ _ _ _ _ us hl => match us, hl with | [_, _], _ => rfl)
      (case aC => k_is); (case aT => k_is); (case lC => k_is); (case i1 => k_is); (case i3 => k_is); (case i5 => k_is); (case g1 => k_is); (case g2 => k_is); (case g4 => k_is); (case l1 => k_is); (case c1 => k_is); (case n1 => k_is)
    have H_NoCall : ∃ C T', mg "TreeError" = some (.ref T') ∧ K02.CF (L2.KOf KX) mg T' C "NoCall" "NoCall.__init__" (L2.inClass (K02.top 10) 0) ["found"] := by
      dsimp only [L2.KOf]
      refine' K02.cls_mk KX G ?aC ?aT ?lC ?i1 ?i3 ?i5 ?g1 ?g2 ?g4 ?l1 ?c1 (K02.na1 ?n1) (fun _ _ _ _ _ _ us hl => match us, hl with | [_, _], _ => rfl)
      (case aC => k_is); (case aT => k_is); (case lC => k_is); (case i1 => k_is); (case i3 => k_is); (case i5 => k_is); (case g1 => k_is); (case g2 => k_is); (case g4 => k_is); (case l1 => k_is); (case c1 => k_is); (case n1 => k_is)
    have H_NoText : ∃ C T', mg "TreeError" = some (.ref T') ∧ K02.CF (L2.KOf KX) mg T' C "NoText" "NoText.__init__" (L2.inClass (K02.top 11) 0) ["found"] := by
      dsimp only [L2.KOf]
      refine' K02.cls_mk KX G ?aC ?aT ?lC ?i1 ?i3 ?i5 ?g1 ?g2 ?g4 ?l1 ?c1 (K02.na1 ?n1) (fun _ _ _ _ _ _ us hl => match us, hl with | [_, _], _ => rfl)
      (case aC => k_is); (case aT => k_is); (case lC => k_is); (case i1 => k_is); (case i3 => k_is); (case i5 => k_is); (case g1 => k_is); (case g2 => k_is); (case g4 => k_is); (case l1 => k_is); (case c1 => k_is); (case n1 => k_is)
    have H_NoLine : ∃ C T', mg "TreeError" = some (.ref T') ∧ K02.CF (L2.KOf KX) mg T' C "NoLine" "NoLine.__init__" (L2.inClass (K02.top 12) 0) ["found"] := by
      dsimp only [L2.KOf]
      refine' K02.cls_mk KX G ?aC ?aT ?lC ?i1 ?i3 ?i5 ?g1 ?g2 ?g4 ?l1 ?c1 (K02.na1 ?n1) (fun _ _ _ _ _ _ us hl => match us, hl with | [_, _], _ => rfl)
      (case aC => k_is); (case aT => k_is); (case lC => k_is); (case i1 => k_is); (case i3 => k_is); (case i5 => k_is); (case g1 => k_is); (case g2 => k_is); (case g4 => k_is); (case l1 => k_is); (case c1 => k_is); (case n1 => k_is)
    have H_NoNumber : ∃ C T', mg "TreeError" = some (.ref T') ∧ K02.CF (L2.KOf KX) mg T' C "NoNumber" "NoNumber.__init__" (L2.inClass (K02.top 13) 0) ["found"] := by
      dsimp only [L2.KOf]
      refine' K02.cls_mk KX G ?aC ?aT ?lC ?i1 ?i3 ?i5 ?g1 ?g2 ?g4 ?l1 ?c1 (K02.na1 ?n1) (fun _ _ _ _ _ _ us hl => match us, hl with | [_, _], _ => rfl)
      (case aC => k_is); (case aT => k_is); (case lC => k_is); (case i1 => k_is); (case i3 => k_is); (case i5 => k_is); (case g1 => k_is); (case g2 => k_is); (case g4 => k_is); (case l1 => k_is); (case c1 => k_is); (case n1 => k_is)
    have H_Twice : ∃ C T', mg "TreeError" = some (.ref T') ∧ K02.CF (L2.KOf KX) mg T' C "Twice" "Twice.__init__" (L2.inClass (K02.top 24) 0) ["found"] := by
      dsimp only [L2.KOf]
      refine' K02.cls_mk KX G ?aC ?aT ?lC ?i1 ?i3 ?i5 ?g1 ?g2 ?g4 ?l1 ?c1 (K02.na1 ?n1) (fun _ _ _ _ _ _ us hl => match us, hl with | [_, _], _ => rfl)
      (case aC => k_is); (case aT => k_is); (case lC => k_is); (case i1 => k_is); (case i3 => k_is); (case i5 => k_is); (case g1 => k_is); (case g2 => k_is); (case g4 => k_is); (case l1 => k_is); (case c1 => k_is); (case n1 => k_is)
    have H_NoWeaving : ∃ C T', mg "TreeError" = some (.ref T') ∧ K02.CF (L2.KOf KX) mg T' C "NoWeaving" "NoWeaving.__init__" (L2.inClass (K02.top 28) 0) ["found"] := by
      dsimp only [L2.KOf]
      refine' K02.cls_mk KX G ?aC ?aT ?lC ?i1 ?i3 ?i5 ?g1 ?g2 ?g4 ?l1 ?c1 (K02.na1 ?n1) (fun _ _ _ _ _ _ us hl => match us, hl with | [_, _], _ => rfl)
      (case aC => k_is); (case aT => k_is); (case lC => k_is); (case i1 => k_is); (case i3 => k_is); (case i5 => k_is); (case g1 => k_is); (case g2 => k_is); (case g4 => k_is); (case l1 => k_is); (case c1 => k_is); (case n1 => k_is)
    have H_NoShape : ∃ C T', mg "TreeError" = some (.ref T') ∧ K02.CF (L2.KOf KX) mg T' C "NoShape" "NoShape.__init__" (L2.inClass (K02.top 30) 0) ["found"] := by
      dsimp only [L2.KOf]
      refine' K02.cls_mk KX G ?aC ?aT ?lC ?i1 ?i3 ?i5 ?g1 ?g2 ?g4 ?l1 ?c1 (K02.na1 ?n1) (fun _ _ _ _ _ _ us hl => match us, hl with | [_, _], _ => rfl)
      (case aC => k_is); (case aT => k_is); (case lC => k_is); (case i1 => k_is); (case i3 => k_is); (case i5 => k_is); (case g1 => k_is); (case g2 => k_is); (case g4 => k_is); (case l1 => k_is); (case c1 => k_is); (case n1 => k_is)
    have H_Lacks : ∃ C T', mg "TreeError" = some (.ref T') ∧ K02.CF (L2.KOf KX) mg T' C "Lacks" "Lacks.__init__" (L2.inClass (K02.top 14) 0) ["key"] := by
      dsimp only [L2.KOf]
      refine' K02.cls_mk KX G ?aC ?aT ?lC ?i1 ?i3 ?i5 ?g1 ?g2 ?g4 ?l1 ?c1 (K02.na1 ?n1) (fun _ _ _ _ _ _ us hl => match us, hl with | [_, _], _ => rfl)
      (case aC => k_is); (case aT => k_is); (case lC => k_is); (case i1 => k_is); (case i3 => k_is); (case i5 => k_is); (case g1 => k_is); (case g2 => k_is); (case g4 => k_is); (case l1 => k_is); (case c1 => k_is); (case n1 => k_is)
    have H_Has : ∃ C T', mg "TreeError" = some (.ref T') ∧ K02.CF (L2.KOf KX) mg T' C "Has" "Has.__init__" (L2.inClass (K02.top 15) 0) ["key"] := by
      dsimp only [L2.KOf]
      refine' K02.cls_mk KX G ?aC ?aT ?lC ?i1 ?i3 ?i5 ?g1 ?g2 ?g4 ?l1 ?c1 (K02.na1 ?n1) (fun _ _ _ _ _ _ us hl => match us, hl with | [_, _], _ => rfl)
      (case aC => k_is); (case aT => k_is); (case lC => k_is); (case i1 => k_is); (case i3 => k_is); (case i5 => k_is); (case g1 => k_is); (case g2 => k_is); (case g4 => k_is); (case l1 => k_is); (case c1 => k_is); (case n1 => k_is)
    have H_NoJoin : ∃ C T', mg "TreeError" = some (.ref T') ∧ K02.CF (L2.KOf KX) mg T' C "NoJoin" "NoJoin.__init__" (L2.inClass (K02.top 16) 0) ["key"] := by
      dsimp only [L2.KOf]
      refine' K02.cls_mk KX G ?aC ?aT ?lC ?i1 ?i3 ?i5 ?g1 ?g2 ?g4 ?l1 ?c1 (K02.na1 ?n1) (fun _ _ _ _ _ _ us hl => match us, hl with | [_, _], _ => rfl)
      (case aC => k_is); (case aT => k_is); (case lC => k_is); (case i1 => k_is); (case i3 => k_is); (case i5 => k_is); (case g1 => k_is); (case g2 => k_is); (case g4 => k_is); (case l1 => k_is); (case c1 => k_is); (case n1 => k_is)
    have H_TooMany : ∃ C T', mg "TreeError" = some (.ref T') ∧ K02.CF (L2.KOf KX) mg T' C "TooMany" "TooMany.__init__" (L2.inClass (K02.top 17) 0) ["count"] := by
      dsimp only [L2.KOf]
      refine' K02.cls_mk KX G ?aC ?aT ?lC ?i1 ?i3 ?i5 ?g1 ?g2 ?g4 ?l1 ?c1 (K02.na1 ?n1) (fun _ _ _ _ _ _ us hl => match us, hl with | [_, _], _ => rfl)
      (case aC => k_is); (case aT => k_is); (case lC => k_is); (case i1 => k_is); (case i3 => k_is); (case i5 => k_is); (case g1 => k_is); (case g2 => k_is); (case g4 => k_is); (case l1 => k_is); (case c1 => k_is); (case n1 => k_is)
    have H_TooFew : ∃ C T', mg "TreeError" = some (.ref T') ∧ K02.CF (L2.KOf KX) mg T' C "TooFew" "TooFew.__init__" (L2.inClass (K02.top 18) 0) ["count"] := by
      dsimp only [L2.KOf]
      refine' K02.cls_mk KX G ?aC ?aT ?lC ?i1 ?i3 ?i5 ?g1 ?g2 ?g4 ?l1 ?c1 (K02.na1 ?n1) (fun _ _ _ _ _ _ us hl => match us, hl with | [_, _], _ => rfl)
      (case aC => k_is); (case aT => k_is); (case lC => k_is); (case i1 => k_is); (case i3 => k_is); (case i5 => k_is); (case g1 => k_is); (case g2 => k_is); (case g4 => k_is); (case l1 => k_is); (case c1 => k_is); (case n1 => k_is)
    have H_Gone : ∃ C T', mg "TreeError" = some (.ref T') ∧ K02.CF (L2.KOf KX) mg T' C "Gone" "Gone.__init__" (L2.inClass (K02.top 23) 0) ["place"] := by
      dsimp only [L2.KOf]
      refine' K02.cls_mk KX G ?aC ?aT ?lC ?i1 ?i3 ?i5 ?g1 ?g2 ?g4 ?l1 ?c1 (K02.na1 ?n1) (fun _ _ _ _ _ _ us hl => match us, hl with | [_, _], _ => rfl)
      (case aC => k_is); (case aT => k_is); (case lC => k_is); (case i1 => k_is); (case i3 => k_is); (case i5 => k_is); (case g1 => k_is); (case g2 => k_is); (case g4 => k_is); (case l1 => k_is); (case c1 => k_is); (case n1 => k_is)
    have H_Ended : ∃ C T', mg "TreeError" = some (.ref T') ∧ K02.CF (L2.KOf KX) mg T' C "Ended" "Ended.__init__" (L2.inClass (K02.top 25) 0) ["doer"] := by
      dsimp only [L2.KOf]
      refine' K02.cls_mk KX G ?aC ?aT ?lC ?i1 ?i3 ?i5 ?g1 ?g2 ?g4 ?l1 ?c1 (K02.na1 ?n1) (fun _ _ _ _ _ _ us hl => match us, hl with | [_, _], _ => rfl)
      (case aC => k_is); (case aT => k_is); (case lC => k_is); (case i1 => k_is); (case i3 => k_is); (case i5 => k_is); (case g1 => k_is); (case g2 => k_is); (case g4 => k_is); (case l1 => k_is); (case c1 => k_is); (case n1 => k_is)
    have H_Going : ∃ C T', mg "TreeError" = some (.ref T') ∧ K02.CF (L2.KOf KX) mg T' C "Going" "Going.__init__" (L2.inClass (K02.top 26) 0) ["doer"] := by
      dsimp only [L2.KOf]
      refine' K02.cls_mk KX G ?aC ?aT ?lC ?i1 ?i3 ?i5 ?g1 ?g2 ?g4 ?l1 ?c1 (K02.na1 ?n1) (fun _ _ _ _ _ _ us hl => match us, hl with | [_, _], _ => rfl)
      (case aC => k_is); (case aT => k_is); (case lC => k_is); (case i1 => k_is); (case i3 => k_is); (case i5 => k_is); (case g1 => k_is); (case g2 => k_is); (case g4 => k_is); (case l1 => k_is); (case c1 => k_is); (case n1 => k_is)
    have H_BadLine : ∃ C T', mg "TreeError" = some (.ref T') ∧ K02.CF (L2.KOf KX) mg T' C "BadLine" "BadLine.__init__" (L2.inClass (K02.top 29) 0) ["row"] := by
      dsimp only [L2.KOf]
      refine' K02.cls_mk KX G ?aC ?aT ?lC ?i1 ?i3 ?i5 ?g1 ?g2 ?g4 ?l1 ?c1 (K02.na1 ?n1) (fun _ _ _ _ _ _ us hl => match us, hl with | [_, _], _ => rfl)
      (case aC => k_is); (case aT => k_is); (case lC => k_is); (case i1 => k_is); (case i3 => k_is); (case i5 => k_is); (case g1 => k_is); (case g2 => k_is); (case g4 => k_is); (case l1 => k_is); (case c1 => k_is); (case n1 => k_is)
    have H_NoSpan : ∃ C T', mg "TreeError" = some (.ref T') ∧ K02.CF (L2.KOf KX) mg T' C "NoSpan" "NoSpan.__init__" (L2.inClass (K02.top 19) 0) ["low", "high"] := by
      dsimp only [L2.KOf]
      refine' K02.cls_mk KX G ?aC ?aT ?lC ?i1 ?i3 ?i5 ?g1 ?g2 ?g4 ?l1 ?c1 (K02.na2 ?n1 ?n2) (fun _ _ _ _ _ _ us hl => match us, hl with | [_, _, _], _ => rfl)
      (case aC => k_is); (case aT => k_is); (case lC => k_is); (case i1 => k_is); (case i3 => k_is); (case i5 => k_is); (case g1 => k_is); (case g2 => k_is); (case g4 => k_is); (case l1 => k_is); (case c1 => k_is); (case n1 => k_is); (case n2 => k_is)
    have H_NoEdge : ∃ C T', mg "TreeError" = some (.ref T') ∧ K02.CF (L2.KOf KX) mg T' C "NoEdge" "NoEdge.__init__" (L2.inClass (K02.top 20) 0) ["high", "right"] := by
      dsimp only [L2.KOf]
      refine' K02.cls_mk KX G ?aC ?aT ?lC ?i1 ?i3 ?i5 ?g1 ?g2 ?g4 ?l1 ?c1 (K02.na2 ?n1 ?n2) (fun _ _ _ _ _ _ us hl => match us, hl with | [_, _, _], _ => rfl)
      (case aC => k_is); (case aT => k_is); (case lC => k_is); (case i1 => k_is); (case i3 => k_is); (case i5 => k_is); (case g1 => k_is); (case g2 => k_is); (case g4 => k_is); (case l1 => k_is); (case c1 => k_is); (case n1 => k_is); (case n2 => k_is)
    have H_Held : ∃ C T', mg "TreeError" = some (.ref T') ∧ K02.CF (L2.KOf KX) mg T' C "Held" "Held.__init__" (L2.inClass (K02.top 21) 0) ["place", "holder"] := by
      dsimp only [L2.KOf]
      refine' K02.cls_mk KX G ?aC ?aT ?lC ?i1 ?i3 ?i5 ?g1 ?g2 ?g4 ?l1 ?c1 (K02.na2 ?n1 ?n2) (fun _ _ _ _ _ _ us hl => match us, hl with | [_, _, _], _ => rfl)
      (case aC => k_is); (case aT => k_is); (case lC => k_is); (case i1 => k_is); (case i3 => k_is); (case i5 => k_is); (case g1 => k_is); (case g2 => k_is); (case g4 => k_is); (case l1 => k_is); (case c1 => k_is); (case n1 => k_is); (case n2 => k_is)
    have H_NotHeld : ∃ C T', mg "TreeError" = some (.ref T') ∧ K02.CF (L2.KOf KX) mg T' C "NotHeld" "NotHeld.__init__" (L2.inClass (K02.top 22) 0) ["place", "doer"] := by
      dsimp only [L2.KOf]
      refine' K02.cls_mk KX G ?aC ?aT ?lC ?i1 ?i3 ?i5 ?g1 ?g2 ?g4 ?l1 ?c1 (K02.na2 ?n1 ?n2) (fun _ _ _ _ _ _ us hl => match us, hl with | [_, _, _], _ => rfl)
      (case aC => k_is); (case aT => k_is); (case lC => k_is); (case i1 => k_is); (case i3 => k_is); (case i5 => k_is); (case g1 => k_is); (case g2 => k_is); (case g4 => k_is); (case l1 => k_is); (case c1 => k_is); (case n1 => k_is); (case n2 => k_is)
    have H_Waits : ∃ C T', mg "TreeError" = some (.ref T') ∧ K02.CF (L2.KOf KX) mg T' C "Waits" "Waits.__init__" (L2.inClass (K02.top 27) 0) ["doer", "place"] := by
      dsimp only [L2.KOf]
      refine' K02.cls_mk KX G ?aC ?aT ?lC ?i1 ?i3 ?i5 ?g1 ?g2 ?g4 ?l1 ?c1 (K02.na2 ?n1 ?n2) (fun _ _ _ _ _ _ us hl => match us, hl with | [_, _, _], _ => rfl)
      (case aC => k_is); (case aT => k_is); (case lC => k_is); (case i1 => k_is); (case i3 => k_is); (case i5 => k_is); (case g1 => k_is); (case g2 => k_is); (case g4 => k_is); (case l1 => k_is); (case c1 => k_is); (case n1 => k_is); (case n2 => k_is)
    have T : K02.Txt (L2.KOf KX) mg := by
      dsimp only [L2.KOf]
      refine' ⟨PySem.W.mg_none_of KX G ?n0, PySem.W.mg_none_of KX G ?n1, PySem.W.mg_none_of KX G ?n2, PySem.W.mg_none_of KX G ?n3, PySem.W.mg_none_of KX G ?n4, PySem.W.mg_none_of KX G ?n5, PySem.W.mg_none_of KX G ?n6, PySem.W.mg_none_of KX G ?n7⟩
      (case n0 => k_is); (case n1 => k_is); (case n2 => k_is); (case n3 => k_is); (case n4 => k_is); (case n5 => k_is); (case n6 => k_is); (case n7 => k_is)
    have D__law_cell : ∃ f fd, L2.Dn (L2.KOf KX) mg "_law_cell" "_law_cell" K02.s__law_cell ["_law_script", "_law_k"] f fd := by
      dsimp only [L2.KOf]
      refine' L2.dn_mk KX G ?a ?l ?c ?k (fun _ _ _ _ _ _ us hl => match us, hl with | [_, _], _ => rfl)
      (case a => k_is); (case l => k_is); (case c => k_is); (case k => k_is)
    have D__law_box : ∃ f fd, L2.Dn (L2.KOf KX) mg "_law_box" "_law_box" K02.s__law_box ["_law_cell_here"] f fd := by
      dsimp only [L2.KOf]
      refine' L2.dn_mk KX G ?a ?l ?c ?k (fun _ _ _ _ _ _ us hl => match us, hl with | [_], _ => rfl)
      (case a => k_is); (case l => k_is); (case c => k_is); (case k => k_is)
    have D__law_take : ∃ f fd, L2.Dn (L2.KOf KX) mg "_law_take" "_law_take" K02.s__law_take ["_law_box_here", "_law_many"] f fd := by
      dsimp only [L2.KOf]
      refine' L2.dn_mk KX G ?a ?l ?c ?k (fun _ _ _ _ _ _ us hl => match us, hl with | [_, _], _ => rfl)
      (case a => k_is); (case l => k_is); (case c => k_is); (case k => k_is)
    have D__law_thing : ∃ f fd, L2.Dn (L2.KOf KX) mg "_law_thing" "_law_thing" K02.s__law_thing ["_law_box_here"] f fd := by
      dsimp only [L2.KOf]
      refine' L2.dn_mk KX G ?a ?l ?c ?k (fun _ _ _ _ _ _ us hl => match us, hl with | [_], _ => rfl)
      (case a => k_is); (case l => k_is); (case c => k_is); (case k => k_is)
    have D__law_one : ∃ f fd, L2.Dn (L2.KOf KX) mg "_law_one" "_law_one" K02.s__law_one ["_law_way", "_law_thing_here"] f fd := by
      dsimp only [L2.KOf]
      refine' L2.dn_mk KX G ?a ?l ?c ?k (fun _ _ _ _ _ _ us hl => match us, hl with | [_, _], _ => rfl)
      (case a => k_is); (case l => k_is); (case c => k_is); (case k => k_is)
    have D__law_more : ∃ f fd, L2.Dn (L2.KOf KX) mg "_law_more" "_law_more" K02.s__law_more ["_law_way", "_law_one_here", "_law_other"] f fd := by
      dsimp only [L2.KOf]
      refine' L2.dn_mk KX G ?a ?l ?c ?k (fun _ _ _ _ _ _ us hl => match us, hl with | [_, _, _], _ => rfl)
      (case a => k_is); (case l => k_is); (case c => k_is); (case k => k_is)
    have D__law_made : ∃ f fd, L2.Dn (L2.KOf KX) mg "_law_made" "_law_made" K02.s__law_made ["_law_way", "_law_one_here", "_law_other"] f fd := by
      dsimp only [L2.KOf]
      refine' L2.dn_mk KX G ?a ?l ?c ?k (fun _ _ _ _ _ _ us hl => match us, hl with | [_, _, _], _ => rfl)
      (case a => k_is); (case l => k_is); (case c => k_is); (case k => k_is)
    have D__law_kinds : ∃ f fd, L2.Dn (L2.KOf KX) mg "_law_kinds" "_law_kinds" K02.s__law_kinds ["_law_e"] f fd := by
      dsimp only [L2.KOf]
      refine' L2.dn_mk KX G ?a ?l ?c ?k (fun _ _ _ _ _ _ us hl => match us, hl with | [_], _ => rfl)
      (case a => k_is); (case l => k_is); (case c => k_is); (case k => k_is)
    have D__law_found : ∃ f fd, L2.Dn (L2.KOf KX) mg "_law_found" "_law_found" K02.s__law_found ["_law_e"] f fd := by
      dsimp only [L2.KOf]
      refine' L2.dn_mk KX G ?a ?l ?c ?k (fun _ _ _ _ _ _ us hl => match us, hl with | [_], _ => rfl)
      (case a => k_is); (case l => k_is); (case c => k_is); (case k => k_is)
    have D__law_two : ∃ f fd, L2.Dn (L2.KOf KX) mg "_law_two" "_law_two" K02.s__law_two ["_law_e"] f fd := by
      dsimp only [L2.KOf]
      refine' L2.dn_mk KX G ?a ?l ?c ?k (fun _ _ _ _ _ _ us hl => match us, hl with | [_], _ => rfl)
      (case a => k_is); (case l => k_is); (case c => k_is); (case k => k_is)
    have D__law_right : ∃ f fd, L2.Dn (L2.KOf KX) mg "_law_right" "_law_right" K02.s__law_right ["_law_way", "_law_one_here", "_law_other"] f fd := by
      dsimp only [L2.KOf]
      refine' L2.dn_mk KX G ?a ?l ?c ?k (fun _ _ _ _ _ _ us hl => match us, hl with | [_, _, _], _ => rfl)
      (case a => k_is); (case l => k_is); (case c => k_is); (case k => k_is)
    have D__law_very_right : ∃ f fd, L2.Dn (L2.KOf KX) mg "_law_very_right" "_law_very_right" K02.s__law_very_right ["_law_way", "_law_box_here"] f fd := by
      dsimp only [L2.KOf]
      refine' L2.dn_mk KX G ?a ?l ?c ?k (fun _ _ _ _ _ _ us hl => match us, hl with | [_, _], _ => rfl)
      (case a => k_is); (case l => k_is); (case c => k_is); (case k => k_is)
    have D_law : ∃ f fd, L2.Dn (L2.KOf KX) mg "law" "law" K02.s_law ["_law_script"] f fd := by
      dsimp only [L2.KOf]
      refine' L2.dn_mk KX G ?a ?l ?c ?k (fun _ _ _ _ _ _ us hl => match us, hl with | [_], _ => rfl)
      (case a => k_is); (case l => k_is); (case c => k_is); (case k => k_is)
    obtain ⟨TT, TX⟩ := TX
    obtain ⟨c, Z⟩ := K02.all_mk TX RX H_NoKey H_NoGood H_NoPage H_NoPlace H_NoMost H_NoLevel H_NoDoer H_NoTree H_NoCall H_NoText H_NoLine H_NoNumber H_Twice H_NoWeaving H_NoShape H_Lacks H_Has H_NoJoin H_TooMany H_TooFew H_Gone H_Ended H_Going H_BadLine H_NoSpan H_NoEdge H_Held H_NotHeld H_Waits
    obtain ⟨fd, hb, hf⟩ := K02.last (P := PySem.Challenge.rw_nolocktree_k02_refusals_made.prog) (w := w) T ⟨TT, c, Z⟩ D__law_cell D__law_box D__law_take D__law_thing D__law_one D__law_more D__law_made D__law_kinds D__law_found D__law_two D__law_right D__law_very_right D_law hmg
    exact ⟨fd, hb, fun base _ _ => hf base⟩
