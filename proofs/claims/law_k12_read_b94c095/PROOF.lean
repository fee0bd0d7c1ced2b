import PyProof.Rows.All
import Wide.All
import OpenK.AllK
import Wide.FinOn
import Lean
import PyProof.EqAt
import PyProof.EqKinds
import PyProof.TupleCall
import PyProof.NeData
import PyProof.CompFree
import PyProof.ExcArgs
import PyProof.WalksEnum
import PyProof.EnumMake
import PySem.Challenge.RW_echofield_k12_read
set_option Elab.async false
set_option linter.all false
set_option maxRecDepth 100000
/-! THE HAND LAYER, for ints, bools, texts, own classes, LISTS and tuples (index, slices, in, append, pop ..), calls, loops. Paste it whole ahead of your own text; what your proof does not reach may be deleted. -/
namespace L2
open PySem PySem.Spec PyProof.Rows

/-- a key: an int or a str -/
abbrev Key := Sum Int Str
def keyIs : Key → Value → Bool
  | .inl k, v => Value.isInt k v
  | .inr x, v => Value.isStrOf x v
def keyH (w : World) : Key → Int
  | .inl k => hashInt k
  | .inr x => hashStr w x
theorem keyIs_shape : ∀ {k : Key} {v : Value}, keyIs k v = true → (∃ i t, k = Sum.inl i ∧ v = Value.int i t) ∨ (∃ x t, k = Sum.inr x ∧ v = Value.str x t)
  | .inl i, v, h => by
    obtain ⟨t, e⟩ := Value.isInt_shape (k := i) (v := v) h
    exact .inl ⟨i, t, rfl, e⟩
  | .inr x, v, h => by
    obtain ⟨t, e⟩ := Value.isStrOf_shape (x := x) (v := v) h
    exact .inr ⟨x, t, rfl, e⟩
theorem keyIs_int (i : Int) (t : Tok) : keyIs (.inl i) (.int i t) = true := by simp [keyIs, Value.isInt]
theorem keyIs_str (x : Str) (t : Tok) : keyIs (.inr x) (.str x t) = true := by simp [keyIs, Value.isStrOf]
theorem key_ll (a b : Int) : decide ((Sum.inl a : Key) = Sum.inl b) = (a == b) := by
  by_cases e : a = b
  · subst e; simp
  · have h : ¬ (Sum.inl a : Key) = Sum.inl b := fun q => e (Sum.inl.inj q)
    rw [decide_eq_false h]
    exact (beq_eq_false_iff_ne.mpr e).symm
theorem key_rr (a b : Str) : decide ((Sum.inr a : Key) = Sum.inr b) = decide (a = b) := by
  by_cases e : a = b
  · subst e; simp
  · have h : ¬ (Sum.inr a : Key) = Sum.inr b := fun q => e (Sum.inr.inj q)
    rw [decide_eq_false h, decide_eq_false e]
theorem key_lr (a : Int) (b : Str) : decide ((Sum.inl a : Key) = Sum.inr b) = false := decide_eq_false (fun q => nomatch q)
theorem key_rl (a : Str) (b : Int) : decide ((Sum.inr a : Key) = Sum.inl b) = false := decide_eq_false (fun q => nomatch q)

def mixKind (prog : Program) (w : World) : PySem.KeyKind prog w Key where
  is := keyIs
  hash := keyH w
  inj := fun v a b ha hb => by
    rcases keyIs_shape ha with ⟨i, t, rfl, rfl⟩ | ⟨x, t, rfl, rfl⟩
    · rcases keyIs_shape hb with ⟨j, u, rfl, e⟩ | ⟨y, u, rfl, e⟩
      · injection e with e1 _; rw [e1]
      · exact nomatch e
    · rcases keyIs_shape hb with ⟨j, u, rfl, e⟩ | ⟨y, u, rfl, e⟩
      · exact nomatch e
      · injection e with e1 _; rw [e1]
  byValue := fun k v h => by
    rcases keyIs_shape h with ⟨i, t, rfl, rfl⟩ | ⟨x, t, rfl, rfl⟩ <;> rfl
  pyHash := fun hv h => by
    rcases keyIs_shape hv with ⟨i, t, rfl, rfl⟩ | ⟨x, t, rfl, rfl⟩
    · exact wpAny_pyHash_int h
    · exact wpAny_pyHash_str h
  eqBool := fun hu hv h => by
    rcases keyIs_shape hu with ⟨i, t, rfl, rfl⟩ | ⟨x, t, rfl, rfl⟩
    · rcases keyIs_shape hv with ⟨j, u, rfl, rfl⟩ | ⟨y, u, rfl, rfl⟩
      · rw [key_ll] at h; exact wpAny_eqBool_int h
      · rw [key_lr] at h; exact SeqAt.EqAt.int_str i t y u _ _ _ _ h
    · rcases keyIs_shape hv with ⟨j, u, rfl, rfl⟩ | ⟨y, u, rfl, rfl⟩
      · rw [key_rl] at h; exact SeqAt.EqAt.str_int x t j u _ _ _ _ h
      · rw [key_rr] at h; exact wpAny_eqBool_str h
  «strs» := fun k x t v h => by
    rcases keyIs_shape h with ⟨i, u, rfl, e⟩ | ⟨y, u, rfl, e⟩
    · exact nomatch e
    · injection e with e1 _
      subst e1
      cases v <;> rfl

theorem mixKind_is (prog : Program) (w : World) (k : Key) (v : Value) : (mixKind prog w).is k v = keyIs k v := rfl
theorem mixKind_int (prog : Program) (w : World) (i : Int) (t : Tok) : (mixKind prog w).is (.inl i) (.int i t) = true := keyIs_int i t
theorem mixKind_str (prog : Program) (w : World) (x : Str) (t : Tok) : (mixKind prog w).is (.inr x) (.str x t) = true := keyIs_str x t
end L2

namespace L2
open PySem PySem.Spec PyProof.Rows

/-- a value, without the heap -/
inductive V where
  | non | bl (b : Bool) | int (i : Int) | str (x : Str) | byt (b : Array UInt8) | flt (b : UInt64) | ref (a : Addr) | ty (n : String)
  deriving DecidableEq

def RelV : V → Value → Prop
  | .non, u => u = Value.none
  | .bl b, u => u = Value.bool b
  | .int i, u => ∃ t, u = Value.int i t
  | .str x, u => ∃ t, u = Value.str x t
  | .byt b, u => ∃ t, u = Value.bytes b t
  | .flt b, u => ∃ t, u = Value.float b t
  | .ref a, u => u = Value.ref a
  | .ty n, u => u = Value.type n

abbrev Vals : List V → List Value → Prop := Paired RelV
theorem Vals.length {xs : List V} {us : List Value} (r : Vals xs us) : xs.length = us.length := Paired.length r
theorem Vals.get : ∀ {xs : List V} {us : List Value} {i : Nat} {x : V}, Vals xs us → xs[i]? = some x → ∃ u, us[i]? = some u ∧ RelV x u
  | _, _, _, _, .nil, e => by simp at e
  | _, _, 0, _, .cons r _, e => by simp at e; subst e; exact ⟨_, rfl, r⟩
  | _, _, i + 1, x, .cons _ t, e => by
    obtain ⟨u, h1, h2⟩ := Vals.get (i := i) (x := x) t (by simpa using e)
    exact ⟨u, by simpa using h1, h2⟩
theorem Vals.set {x : V} {u : Value} (r : RelV x u) : ∀ {xs : List V} {us : List Value} (i : Nat), Vals xs us → Vals (xs.set i x) (us.set i u)
  | _, _, _, .nil => .nil
  | _, _, 0, .cons _ t => .cons r t
  | _, _, i + 1, .cons q t => .cons q (Vals.set r i t)
theorem Vals.append : ∀ {xs ys : List V} {us ws : List Value}, Vals xs us → Vals ys ws → Vals (xs ++ ys) (us ++ ws)
  | _, _, _, _, .nil, s => s
  | _, _, _, _, .cons r t, s => .cons r (Vals.append t s)
theorem Vals.take : ∀ {xs : List V} {us : List Value} (n : Nat), Vals xs us → Vals (xs.take n) (us.take n)
  | _, _, 0, _ => .nil
  | _, _, _ + 1, .nil => .nil
  | _, _, n + 1, .cons r t => .cons r (Vals.take n t)
theorem Vals.drop : ∀ {xs : List V} {us : List Value} (n : Nat), Vals xs us → Vals (xs.drop n) (us.drop n)
  | _, _, 0, r => r
  | _, _, _ + 1, .nil => .nil
  | _, _, n + 1, .cons _ t => Vals.drop n t
theorem Vals.none_of : ∀ {xs : List V} {us : List Value} {i : Nat}, Vals xs us → xs[i]? = none → us[i]? = none := fun {xs us i} r e => by
  have h1 := r.length
  have h2 : xs.length ≤ i := List.getElem?_eq_none_iff.mp e
  exact List.getElem?_eq_none_iff.mpr (by omega)

def RelO : Option V → Option Value → Prop
  | some v, some u => RelV v u
  | none, none => True
  | _, _ => False
def KV {κ : Type} : List (κ × V) → List (κ × Value) → Prop := Paired fun (p : κ × V) (q : κ × Value) => p.1 = q.1 ∧ RelV p.2 q.2

/-- a key of a dict (00_mix): an int or a text -/
def kV : Key → V
  | .inl i => .int i
  | .inr x => .str x

/-- what stands at a tracked address -/
inductive HO where
  /-- a list -/
  | lst (xs : List V)
  /-- a tuple (never changes) -/
  | tup (xs : List V)
  /-- a dict whose keys are ints and texts; one whose keys are tuples of ints and texts (the empty one is both) -/
  | dK (kvs : List (Key × V)) | dT (kvs : List (List Key × V))
  /-- a set of ints: its members, its size -/
  | set (S : Int → Bool) (n : Nat)
  /-- an instance of the class at C, its dict at dx, its attributes -/
  | ins (C dx : Addr) (fs : List (Str × V))
  /-- the dict of the instance at x -/
  | own (x : Addr)
  /-- the dict of an exception -/
  | xd (fs : List (Str × V))
  /-- a bound method, f of x -/
  | met (f x : Addr)
  /-- a range object lo, lo + 1, .. below hi -/
  | rng (lo hi : Int)
  /-- a thing that is known to the object (the script; a dict while a loop walks it): read, never written while it is so -/
  | frz (o : Obj) (u : HO)
  /-- a code object's table -/
  | tbl (ps : Array Value)
  /-- any other thing, by what is true of its one object (a def of one's own: SetO a S n := HO.ext fun h => ..) -/
  | ext (φ : Heap → Prop)

abbrev Hp := Addr → Option HO
def upd (H : Hp) (a : Addr) (o : HO) : Hp := fun b => if b = a then some o else H b
theorem upd_same {H : Hp} {a : Addr} {o : HO} : upd H a o a = some o := by unfold upd; rw [if_pos rfl]
theorem upd_ne {H : Hp} {a b : Addr} {o : HO} (h : b ≠ a) : upd H a o b = H b := by unfold upd; rw [if_neg h]
theorem upd_upd {H : Hp} {a : Addr} {o u : HO} : upd (upd H a o) a u = upd H a u := by
  funext b; unfold upd; split <;> rfl
/-- two objects of different content stand apart -/
theorem ne_of {H : Hp} {a b : Addr} {o u : HO} (h : H a = some o) (h' : H b = some u) (d : o ≠ u) : a ≠ b := by
  intro e; subst e; rw [h] at h'; exact d (Option.some.inj h')
theorem ne_of_none {H : Hp} {a b : Addr} {o : HO} (h : H a = some o) (h' : H b = none) : a ≠ b := by
  intro e; subst e; rw [h] at h'; cases h'

section
variable (P : Program) (w : World)
def ObjOk (H : Hp) (h : Heap) (a : Addr) : HO → Prop
  | .lst xs => xs.length ≤ sizeLine ∧ ∃ (its : List Value) (n : Nat), Vals xs its ∧ h.get? a = some { cls := .type "list", data := .seq its.toArray n }
  | .tup xs => xs.length ≤ sizeLine ∧ ∃ its : List Value, Vals xs its ∧ IsTup h a its.toArray
  | .dK kvs => kvs.length ≤ sizeLine ∧ (a == sysModules) = false ∧ ∃ vs, KV kvs vs ∧ h.DictOf (mixKind P w) a vs
  | .dT kvs => kvs.length ≤ sizeLine ∧ (a == sysModules) = false ∧ ∃ xs : List (List Key × Addr × Value),
      Paired (fun (p : List Key × V) (q : List Key × Addr × Value) => p.1 = q.1 ∧ H q.2.1 = some (.tup (p.1.map kV)) ∧ RelV p.2 q.2.2) kvs xs ∧
      ∃ o es ep, h.get? a = some o ∧ o.ExactDict ∧ o.data = .dict es ep ∧ es.toList = xs.map (entryOfKey (tupleKind (mixKind P w))) ∧ (xs.map (·.1)).Nodup
  | .set S n => h.SetOf (intKind P w) a S n
  | .ins C dx fs => H dx = some (.own a) ∧ fs.length ≤ 1000 ∧ dx ≠ a ∧ h.get? a = some (PySem.W.instObj C dx) ∧
      ∃ mA, h.Ns1 dx mA ∧ (∀ f, RelO (fs.lookup f) (mA f)) ∧ PySem.Within mA (fs.map (·.1))
  | .own _ => ∃ o, h.get? a = some o
  | .xd fs => ∃ mA, h.Ns1 a mA ∧ ∀ f, RelO (fs.lookup f) (mA f)
  | .rng lo hi => ∃ t u v, h.get? a = some { cls := .type "range", data := .fields #[.int lo t, .int hi u, .int 1 v] }
  | .frz o u => h.get? a = some o ∧ ObjOk H h a u
  | .tbl ps => h.get? a = some { cls := .none, data := .fields ps }
  | .met f x => h.get? a = some (PySem.W.methodObj (.ref f) (.ref x))
  | .ext φ => φ h ∧ (∃ o, h.get? a = some o) ∧ ∀ h1 h2 : Heap, φ h1 → (∀ o, h1.get? a = some o → h2.get? a = some o) → φ h2
/-- the abstract heap is held -/
def HOk (H : Hp) (h : Heap) : Prop := ∀ a o, H a = some o → ObjOk P w H h a o
end

section
variable {P : Program} {w : World} {H H' : Hp} {h h' : Heap} {a : Addr} {o : HO}
theorem ObjOk.lt (x : ObjOk P w H h a o) : a < h.objs.size := by
  cases o with
  | lst xs => obtain ⟨_, _, _, _, e⟩ := x; exact Heap.lt_size e
  | tup xs => obtain ⟨_, _, _, p⟩ := x; exact p.lt
  | dK kvs => obtain ⟨_, _, _, _, o, _, _, e, _⟩ := x; exact Heap.lt_size e
  | dT kvs => obtain ⟨_, _, _, _, o, _, _, e, _⟩ := x; exact Heap.lt_size e
  | set S n => obtain ⟨o, _, _, _, e, _⟩ := x; exact Heap.lt_size e
  | ins C dx fs => obtain ⟨_, _, _, e, _⟩ := x; exact Heap.lt_size e
  | own y => obtain ⟨_, e⟩ := x; exact Heap.lt_size e
  | xd fs => obtain ⟨_, ⟨_, _, _, e, _⟩, _⟩ := x; exact Heap.lt_size e
  | rng lo hi => obtain ⟨_, _, _, e⟩ := x; exact Heap.lt_size e
  | frz ob u => obtain ⟨e, _⟩ := x; exact Heap.lt_size e
  | tbl ps => exact Heap.lt_size (show h.get? a = some _ from x)
  | met f y => exact Heap.lt_size (show h.get? a = some _ from x)
  | ext φ => obtain ⟨_, ⟨_, e⟩, _⟩ := x; exact Heap.lt_size e
theorem Paired.mapP {α β : Type} {F G : α → β → Prop} : ∀ {l₁ : List α} {l₂ : List β}, Paired F l₁ l₂ → (∀ a b, F a b → G a b) → Paired G l₁ l₂
  | _, _, .nil, _ => .nil
  | _, _, .cons r t, f => .cons (f _ _ r) (Paired.mapP t f)
theorem Paired.imp' {α β : Type} {F G : α → β → Prop} (f : ∀ a b, F a b → G a b) {l₁ : List α} {l₂ : List β} (r : Paired F l₁ l₂) : Paired G l₁ l₂ := Paired.mapP r f
/-- what an object's description leans on: its own object, its own dict, the tuples -/
theorem ObjOk.stay (x : ObjOk P w H h a o) (k : ∀ b u, (b = a ∨ H b = some (.own a)) → h.get? b = some u → h'.get? b = some u)
    (ho : ∀ b, H b = some (.own a) → H' b = some (.own a)) (ht : ∀ b xs, H b = some (.tup xs) → H' b = some (.tup xs)) : ObjOk P w H' h' a o := by
  induction o with
  | lst xs => obtain ⟨z, its, n, r, e⟩ := x; exact ⟨z, its, n, r, k _ _ (.inl rfl) e⟩
  | tup xs => obtain ⟨z, its, r, ob, e, c⟩ := x; exact ⟨z, its, r, ob, k _ _ (.inl rfl) e, c⟩
  | dK kvs => obtain ⟨z, y, vs, r, ob, es, ep, e, c⟩ := x; exact ⟨z, y, vs, r, ob, es, ep, k _ _ (.inl rfl) e, c⟩
  | dT kvs =>
    obtain ⟨z, y, xs, r, ob, es, ep, e, c⟩ := x
    exact ⟨z, y, xs, Paired.mapP r fun p q z => ⟨z.1, ht _ _ z.2.1, z.2.2⟩, ob, es, ep, k _ _ (.inl rfl) e, c⟩
  | set S n => obtain ⟨ob, es, ep, t, e, c⟩ := x; exact ⟨ob, es, ep, t, k _ _ (.inl rfl) e, c⟩
  | ins C dx fs =>
    obtain ⟨d, z, ne, e, mA, ⟨od, es, ep, e2, c⟩, r⟩ := x
    exact ⟨ho _ d, z, ne, k _ _ (.inl rfl) e, mA, ⟨od, es, ep, k _ _ (.inr d) e2, c⟩, r⟩
  | own y => obtain ⟨ob, e⟩ := x; exact ⟨ob, k _ _ (.inl rfl) e⟩
  | xd fs => obtain ⟨mA, ⟨od, es, ep, e, c⟩, r⟩ := x; exact ⟨mA, ⟨od, es, ep, k _ _ (.inl rfl) e, c⟩, r⟩
  | rng lo hi => obtain ⟨t, u, v, e⟩ := x; exact ⟨t, u, v, k _ _ (.inl rfl) e⟩
  | frz ob u ih => obtain ⟨e, q⟩ := x; exact ⟨k _ _ (.inl rfl) e, ih q⟩
  | tbl ps =>
    have e : h.get? a = some { cls := .none, data := .fields ps } := x
    show h'.get? a = some { cls := .none, data := .fields ps }
    exact k a _ (.inl rfl) e
  | met f y =>
    have e : h.get? a = some (PySem.W.methodObj (.ref f) (.ref y)) := x
    show h'.get? a = some (PySem.W.methodObj (.ref f) (.ref y))
    exact k a _ (.inl rfl) e
  | ext φ => obtain ⟨p, ⟨o, e⟩, st⟩ := x; exact ⟨st _ _ p fun o q => k _ _ (.inl rfl) q, ⟨o, k _ _ (.inl rfl) e⟩, st⟩
theorem HOk.lt (x : HOk P w H h) (e : H a = some o) : a < h.objs.size := (x a o e).lt
theorem HOk.fresh (x : HOk P w H h) (e : h.objs.size ≤ a) : H a = none := by
  cases q : H a with
  | none => rfl
  | some u => exact absurd (Nat.lt_of_lt_of_le (x.lt q) e) (Nat.lt_irrefl _)
/-- every object of the heap is kept -/
theorem HOk.kept (x : HOk P w H h) (k : ∀ b u, h.get? b = some u → h'.get? b = some u) : HOk P w H h' := fun a o e =>
  (x a o e).stay (fun b u _ q => k b u q) (fun _ q => q) fun _ _ q => q
/-- a new object is laid and tracked -/
theorem HOk.laid (x : HOk P w H h) (k : ∀ b u, h.get? b = some u → h'.get? b = some u) (hp : h.objs.size ≤ a) (new : ObjOk P w (upd H a o) h' a o) : HOk P w (upd H a o) h' := fun b u e => by
  have hn := x.fresh hp
  by_cases hb : b = a
  · subst hb; rw [upd_same] at e; cases e; exact new
  · rw [upd_ne hb] at e
    exact (x b u e).stay (fun c v _ q => k c v q) (fun c q => by rw [upd_ne (ne_of_none q hn)]; exact q) fun c xs q => by rw [upd_ne (ne_of_none q hn)]; exact q
end

/-- what may be read as u: it is u, or a known u -/
def Rd (H : Hp) (a : Addr) (u : HO) : Prop := H a = some u ∨ ∃ o, H a = some (.frz o u)
theorem Rd.of {H : Hp} {a : Addr} {u : HO} (h : H a = some u) : Rd H a u := .inl h
theorem Rd.ok {P : Program} {w : World} {H : Hp} {h : Heap} {a : Addr} {u : HO} (r : Rd H a u) (x : HOk P w H h) : ObjOk P w H h a u := by
  rcases r with r | ⟨o, r⟩
  · exact x a u r
  · obtain ⟨_, q⟩ := x a _ r
    exact q
/-- what may be written -/
def Mut : Option HO → Prop
  | some (.lst _) => True
  | some (.dK _) => True
  | some (.dT _) => True
  | some (.set _ _) => True
  | some (.ins _ _ _) => True
  | some (.ext _) => True
  | _ => False
section
variable {P : Program} {w : World} {H : Hp} {h h' : Heap} {x e : Addr} {o' : HO}
/-- the object at e is changed: x itself, or the dict of the instance x -/
theorem HOk.write (ok : HOk P w H h) (mu : Mut (H x)) (he : e = x ∨ H e = some (.own x)) (k : ∀ b u, b ≠ e → h.get? b = some u → h'.get? b = some u) (heo : ∃ u, h'.get? e = some u)
    (new : ObjOk P w (upd H x o') h' x o') : HOk P w (upd H x o') h' := fun b u q => by
  have nown : ∀ c y, H c = some (.own y) → c ≠ x := fun c y r z => by subst z; rw [r] at mu; exact mu
  have ntup : ∀ c xs, H c = some (.tup xs) → c ≠ x := fun c xs r z => by subst z; rw [r] at mu; exact mu
  by_cases hb : b = x
  · subst hb; rw [upd_same] at q; cases q; exact new
  · rw [upd_ne hb] at q
    by_cases hbe : b = e
    · have q' : H b = some (.own x) := by
        rcases he with z | z
        · exact absurd (hbe.trans z) hb
        · rw [hbe]; exact z
      rw [q] at q'; cases q'
      obtain ⟨v, hv⟩ := heo
      exact ⟨v, by rw [hbe]; exact hv⟩
    · refine (ok b u q).stay (fun c v hc r => k c v ?_ r) (fun c r => by rw [upd_ne (nown c b r)]; exact r) fun c xs r => by rw [upd_ne (ntup c xs r)]; exact r
      rcases hc with rfl | hc
      · exact hbe
      · rintro rfl
        rcases he with z | z
        · exact nown c b hc z
        · rw [hc] at z; cases z; exact hb rfl
end

/-! ### kept unless tracked; of the frames at fs (the callers') the slots may change (an exception that passes writes there); of the records at ex (iterators) nothing is said -/
structure Un (fs ex : List Addr) (H H' : Hp) (h h' : Heap) : Prop where
  keep : ∀ b o, h.get? b = some o → H b = none → b ∉ fs → b ∉ ex → h'.get? b = some o
  slot : ∀ b o, h.get? b = some o → H b = none → b ∈ fs → b ∉ ex → ∃ sl, h'.get? b = some { o with slots := sl }
  free : ∀ b o, h.get? b = some o → H b = none → b ∉ ex → H' b = none
  there : ∀ b o, h.get? b = some o → b ∉ ex → ∃ o', h'.get? b = some o'
  tups : ∀ b xs, H b = some (.tup xs) → H' b = some (.tup xs)
  frzs : ∀ b o u, H b = some (.frz o u) → H' b = some (.frz o u)
  tbls : ∀ b ps, H b = some (.tbl ps) → ∃ more, H' b = some (.tbl (ps ++ more))
section
variable {fs fs' ex ex' : List Addr} {H H1 H2 : Hp} {h h1 h2 h' : Heap} {a x e : Addr} {o : HO}
theorem Un.any (u : Un fs ex H H1 h h1) {b : Addr} {ob : Obj} (q : h.get? b = some ob) (n : H b = none) (hx : b ∉ ex) : ∃ sl, h1.get? b = some { ob with slots := sl } := by
  by_cases hb : b ∈ fs
  · exact u.slot b ob q n hb hx
  · exact ⟨ob.slots, u.keep b ob q n hb hx⟩
theorem Un.trans (a : Un fs ex H H1 h h1) (b : Un fs ex H1 H2 h1 h2) : Un fs ex H H2 h h2 where
  keep := fun c ob q n hc hx => b.keep c ob (a.keep c ob q n hc hx) (a.free c ob q n hx) hc hx
  slot := fun c ob q n hc hx => by
    obtain ⟨sl, e1⟩ := a.slot c ob q n hc hx
    obtain ⟨sl', e2⟩ := b.slot c _ e1 (a.free c ob q n hx) hc hx
    exact ⟨sl', e2⟩
  free := fun c ob q n hx => by
    obtain ⟨o', e1⟩ := a.there c ob q hx
    exact b.free c o' e1 (a.free c ob q n hx) hx
  there := fun c ob q hx => by
    obtain ⟨o', e1⟩ := a.there c ob q hx
    exact b.there c o' e1 hx
  tups := fun c xs q => b.tups c xs (a.tups c xs q)
  frzs := fun c ob xs q => b.frzs c ob xs (a.frzs c ob xs q)
  tbls := fun c ps q => by
    obtain ⟨m1, e1⟩ := a.tbls c ps q
    obtain ⟨m2, e2⟩ := b.tbls c _ e1
    exact ⟨m1 ++ m2, by rw [e2, Array.append_assoc]⟩
theorem Un.kept (k : ∀ b u, h.get? b = some u → h'.get? b = some u) : Un fs ex H H h h' :=
  ⟨fun b ob q _ _ _ => k b ob q, fun b ob q _ _ _ => ⟨ob.slots, k b ob q⟩, fun _ _ _ n _ => n, fun b ob q _ => ⟨ob, k b ob q⟩, fun _ _ q => q, fun _ _ _ q => q, fun _ ps q => ⟨#[], by rw [q]; simp⟩⟩
theorem Un.refl : Un fs ex H H h h := Un.kept fun _ _ q => q
theorem Un.laid (k : ∀ b u, h.get? b = some u → h'.get? b = some u) (hp : h.objs.size ≤ a) (hn : H a = none) : Un fs ex H (upd H a o) h h' where
  keep := fun b u q _ _ _ => k b u q
  slot := fun b u q _ _ _ => ⟨u.slots, k b u q⟩
  free := fun b u q n _ => by rw [upd_ne (Nat.ne_of_lt (Nat.lt_of_lt_of_le (Heap.lt_size q) hp))]; exact n
  there := fun b u q _ => ⟨u, k b u q⟩
  tups := fun b xs q => by rw [upd_ne (ne_of_none q hn)]; exact q
  frzs := fun b u xs q => by rw [upd_ne (ne_of_none q hn)]; exact q
  tbls := fun b ps q => ⟨#[], by rw [upd_ne (ne_of_none q hn), q]; simp⟩
theorem Un.write (mu : Mut (H x)) (he : e = x ∨ H e = some (.own x)) (k : ∀ b u, b ≠ e → h.get? b = some u → h'.get? b = some u) (heo : ∃ u, h'.get? e = some u) : Un fs ex H (upd H x o) h h' := by
  have hx : ∀ b, H b = none → b ≠ x := fun b n z => by subst z; rw [n] at mu; exact mu
  have hb : ∀ b, H b = none → b ≠ e := fun b n z => by
    subst z
    rcases he with r | r
    · exact hx b n r
    · rw [n] at r; cases r
  have hm : ∀ b u, H b = some u → ¬ Mut (some u) → b ≠ x := fun b u q nm z => by subst z; rw [q] at mu; exact nm mu
  refine ⟨fun b u q n _ _ => k b u (hb b n) q, fun b u q n _ _ => ⟨u.slots, k b u (hb b n) q⟩, fun b u q n _ => by rw [upd_ne (hx b n)]; exact n, fun b u q _ => ?_,
    fun b xs q => by rw [upd_ne (hm b _ q fun z => z)]; exact q, fun b u xs q => by rw [upd_ne (hm b _ q fun z => z)]; exact q, fun b ps q => ⟨#[], by rw [upd_ne (hm b _ q fun z => z), q]; simp⟩⟩
  by_cases hbe : b = e
  · subst hbe; exact heo
  · exact ⟨u, k b u hbe q⟩
theorem Un.mono (u : Un fs ex H H1 h h1) (hs : ∀ b ∈ fs, b ∈ fs') (hx : ∀ b ∈ ex, b ∈ ex') : Un fs' ex' H H1 h h1 :=
  ⟨fun b ob q n hb he => u.keep b ob q n (fun z => hb (hs b z)) fun z => he (hx b z), fun _ _ q n _ he => u.any q n fun z => he (hx _ z), fun b ob q n he => u.free b ob q n fun z => he (hx b z), fun b ob q he => u.there b ob q fun z => he (hx b z), u.tups, u.frzs, u.tbls⟩
end

/-! ### the heap without what is tracked -/
def trk (h : Heap) (H : Hp) : List Addr := (List.range h.objs.size).filter fun a => (H a).isSome
def hidT (h : Heap) (H : Hp) : Heap := PySem.W.hideAll h (trk h H)
theorem hidT_size (h : Heap) (H : Hp) : (hidT h H).objs.size = h.objs.size := PySem.W.hideAll_size _ _
theorem hidT_get {h : Heap} {H : Hp} {b : Addr} {o : Obj} (e : h.get? b = some o) (n : H b = none) : (hidT h H).get? b = some o :=
  PySem.W.hideAll_get _ e fun hm => by
    have q : (H b).isSome = true := (List.mem_filter.mp hm).2
    rw [n] at q; simp at q
theorem of_hidT {h : Heap} {H : Hp} {b : Addr} {o : Obj} (e : (hidT h H).get? b = some o) : h.get? b = some o ∧ H b = none := by
  have e' : h.get? b = some o := PySem.W.of_hideAll (trk h H) e
  refine ⟨e', ?_⟩
  cases q : H b with
  | none => rfl
  | some x =>
    have hm : b ∈ trk h H := List.mem_filter.mpr ⟨List.mem_range.mpr (Heap.lt_size e'), by simp [q]⟩
    have z : (hidT h H).get? b = none := PySem.W.hideAll_none (trk h H) hm
    rw [z] at e; cases e

/-! ### OpenK's ledger, filled with every new object but one -/
def allNews (g h : Heap) (L : Addr) : List (Addr × Obj) := (List.range h.objs.size).filterMap fun a => if a = L ∨ (g.get? a).isSome = true then none else (h.get? a).map fun o => (a, o)
theorem mem_allNews {g h : Heap} {L a : Addr} {o : Obj} (h1 : a ≠ L) (h2 : g.get? a = none) (h3 : h.get? a = some o) : (a, o) ∈ allNews g h L :=
  List.mem_filterMap.mpr ⟨a, List.mem_range.mpr (Heap.lt_size h3), by simp [h1, h2, h3]⟩
theorem of_mem_allNews {g h : Heap} {L : Addr} {p : Addr × Obj} (hp : p ∈ allNews g h L) : p.1 ≠ L ∧ g.get? p.1 = none ∧ h.get? p.1 = some p.2 := by
  obtain ⟨b, _, e⟩ := List.mem_filterMap.mp hp
  split at e
  · cases e
  · rename_i hn
    cases q : h.get? b with
    | none => rw [q] at e; simp at e
    | some u =>
      rw [q] at e
      simp only [Option.map_some, Option.some.injEq] at e
      subst e
      refine ⟨fun z => hn (.inl z), ?_, q⟩
      show g.get? b = none
      cases r : g.get? b with
      | none => rfl
      | some v => exact (hn (.inr (by simp [r]))).elim
def rest (g h : Heap) (L d : Addr) : List (Addr × Obj) := (allNews g h L).filter fun p => decide (p.1 ≠ d)
theorem rest_ne {g h : Heap} {L d : Addr} : ∀ p ∈ rest g h L d, p.1 ≠ d := fun p hp => of_decide_eq_true (List.mem_filter.mp hp).2
theorem mem_rest {g h : Heap} {L d a : Addr} {o : Obj} (h1 : a ≠ L) (h2 : g.get? a = none) (h3 : h.get? a = some o) (h4 : a ≠ d) : (a, o) ∈ rest g h L d :=
  List.mem_filter.mpr ⟨mem_allNews h1 h2 h3, decide_eq_true h4⟩
theorem news_all {g h : Heap} {L : Addr} : News g L h (allNews g h L) := fun p hp => let ⟨a, b, c⟩ := of_mem_allNews hp; ⟨c, a, b⟩
theorem news_at {g h : Heap} {L d : Addr} {o : Obj} (h1 : d ≠ L) (h2 : g.get? d = none) (h3 : h.get? d = some o) : News g L h ((d, o) :: rest g h L d) := fun p hp => by
  rcases List.mem_cons.mp hp with rfl | hp
  · exact ⟨h3, h1, h2⟩
  · exact news_all p (List.mem_filter.mp hp).1
/-- behind a rule that changed d alone: all else but the frame is kept -/
theorem kept_of_news {g h h' : Heap} {L d : Addr} {m : Str → Option Value} (k : ∀ b o, g.get? b = some o → h.get? b = some o) (F : Fr g L h' m) (N : News g L h' (rest g h L d)) :
    ∀ b o, b ≠ L → b ≠ d → h.get? b = some o → h'.get? b = some o := fun b o h1 h2 e => by
  cases q : g.get? b with
  | some u =>
    have := k b u q
    rw [e] at this; cases this
    exact F.keep b _ q
  | none => exact (N (b, o) (mem_rest h1 q e h2)).1
end L2

namespace L2
open PySem PySem.Spec PyProof.Rows

/-- the module's facts, over the base: the heap at the law's entry without what is tracked there -/
structure Mod (K : PySem.W.Frag) (mg : Str → Option Value) (base : Heap) : Prop where
  kin : K.In base
  glob : base.Ns mainGlobals mg
  blt : ∃ mb, base.Ns builtinsNs mb ∧ ∀ x : Str, x ≠ "__name__" → mb x = bootBuiltins x
  nolimit : base.NoLimit

/-- the context: a def's body (or a comprehension's block) running. base: fixed through the whole law; s₀, H₀: the entry; outer: the frames whose slots others may change (a def's callers); stack: all frames that run;
   ex: iterators that were made ahead of the entry and are walked here (a comprehension's); fn: the names whose cells were made at the entry (a def: all; a comprehension's block: its own); calm: not within an except suite; pn: pins that every state bears; xe: what is wanted of an exception that leaves the code -/
structure Cx where
  prog : Program
  w : World
  K : PySem.W.Frag
  mg : Str → Option Value
  base : Heap
  A : Around
  N : List Str
  s₀ : Shared
  H₀ : Hp
  env : Env
  outer : List Env
  stack : List Env
  ex : List Addr
  fn : Str → Bool
  calm : Bool
  pn : List (Addr × Obj)
  xe : Value → Shared → Prop
/-- the callers' frames -/
def frs (l : List Env) : List Addr := l.filterMap (·.frame)
abbrev Cx.fs (X : Cx) : List Addr := frs X.outer

def Vis (sc : Scope) (x : Str) : Prop := sc.names.lookup x = some .local ∨ sc.names.lookup x = some .cell ∨ sc.names.lookup x = some .free
def Loc (sc : Scope) (x : Str) : Prop := sc.names.lookup x = some .local ∨ sc.names.lookup x = some .cell
def Look (env : Env) (h : Heap) (m : Str → Option Value) (x : Str) (u : Value) : Prop :=
  (env.kindOf x = some .local ∧ m x = some u) ∨ ((env.kindOf x = some .cell ∨ env.kindOf x = some .free) ∧ ∃ c, env.cells.lookup x = some c ∧ h.IsCell c (some u))

structure Cx.Ok (X : Cx) : Prop where
  mod : Mod X.K X.mg X.base
  kind : X.env.scope.kind = .function
  glob : X.env.globals = mainGlobals
  blt : X.env.builtins = builtinsNs
  above : X.s₀.heap.objs.size ≤ X.env.locals
  inj : ∀ x y c, X.env.cells.lookup x = some c → X.env.cells.lookup y = some c → x = y
  has : ∀ x, (X.env.kindOf x = some .cell ∨ X.env.kindOf x = some .free) → ∃ c, X.env.cells.lookup x = some c
  cab : ∀ x c, X.fn x = true → X.env.cells.lookup x = some c → X.s₀.heap.objs.size ≤ c
  hd : X.calm = true → X.A.handled = none
  frames : X.A.frames = some X.stack
  stk : X.stack = X.outer ∨ (X.stack = X.env :: X.outer ∧ X.env.frame = some X.env.locals)
  exf : ∀ b ∈ X.ex, b ≠ X.env.locals ∧ ∀ x c, X.env.cells.lookup x = some c → c ≠ b
  bs : ∀ b o, X.base.get? b = some o → X.s₀.heap.get? b = some o ∧ X.H₀ b = none
  bsz : X.base.objs.size ≤ X.s₀.heap.objs.size
  noex : ∀ b o, X.base.get? b = some o → b ∉ X.ex
  exfs : ∀ b ∈ X.ex, b ∉ X.fs
  funs : X.s₀.heap.FunFrames X.base X.outer
  frf : ∀ b ∈ X.fs, X.H₀ b = none

structure Inv (X : Cx) (pins : List (Addr × Obj)) (σ : List (Option V)) (H : Hp) (s : Shared) : Prop where
  ok : X.Ok
  os : s.os = X.s₀.os
  bare : AllBare s.gens
  base : Un X.fs X.ex X.H₀ H X.s₀.heap s.heap
  loc : ∃ m, s.heap.Ns X.env.locals m ∧ ∀ (i : Nat) (x : Str) (v : V), X.N[i]? = some x → σ[i]? = some (some v) → Vis X.env.scope x → ∃ u, RelV v u ∧ Look X.env s.heap m x u
  cell : ∀ x c, X.env.cells.lookup x = some c → ∃ v, s.heap.IsCell c v
  free : H X.env.locals = none
  freeC : ∀ x c, X.env.cells.lookup x = some c → H c = none
  pin : ∀ p ∈ X.pn ++ pins, s.heap.get? p.1 = some p.2 ∧ H p.1 = none ∧ p.1 ≠ X.env.locals ∧ p.1 ∉ X.fs ∧ ∀ v, p.2.data ≠ .cell v
  hok : HOk X.prog X.w H s.heap
  len : σ.length = X.N.length

section
variable {X : Cx} {pins : List (Addr × Obj)} {σ : List (Option V)} {H H' : Hp} {s : Shared} {h' : Heap}

theorem Cx.Ok.nofr (ok : X.Ok) {b : Addr} {o : Obj} (e : X.base.get? b = some o) : b ∉ X.fs := fun hb => by
  have := (ok.funs.mem hb).1
  rw [e] at this; cases this
theorem Inv.bs (I : Inv X pins σ H s) : ∀ b o, X.base.get? b = some o → s.heap.get? b = some o ∧ H b = none := fun b o e =>
  ⟨I.base.keep b o (I.ok.bs b o e).1 (I.ok.bs b o e).2 (I.ok.nofr e) (I.ok.noex b o e), I.base.free b o (I.ok.bs b o e).1 (I.ok.bs b o e).2 (I.ok.noex b o e)⟩
theorem Inv.bk (I : Inv X pins σ H s) : ∀ b o, X.base.get? b = some o → s.heap.get? b = some o := fun b o e => (I.bs b o e).1
theorem Inv.mod (I : Inv X pins σ H s) : Mod X.K X.mg X.base := I.ok.mod
theorem Inv.kIn (I : Inv X pins σ H s) : X.K.In s.heap := I.ok.mod.kin.keeps I.bk
theorem Inv.nolimit (I : Inv X pins σ H s) : s.heap.NoLimit := I.ok.mod.nolimit.keeps I.bk
/-- the frame over the base: for OpenK's rules (K.In X.base is I.mod.kin) -/
theorem Inv.fr (I : Inv X pins σ H s) : ∃ m, Fr X.base X.env.locals s.heap m :=
  let ⟨m, hn, _⟩ := I.loc
  ⟨m, hn, I.bk, Nat.le_trans I.ok.bsz I.ok.above⟩
theorem Inv.lt (I : Inv X pins σ H s) : X.env.locals < s.heap.objs.size := let ⟨_, hn, _⟩ := I.loc; hn.lt
theorem Inv.sz (I : Inv X pins σ H s) : X.s₀.heap.objs.size ≤ s.heap.objs.size := Nat.le_trans I.ok.above (Nat.le_of_lt I.lt)
theorem Inv.nofs (I : Inv X pins σ H s) {a : Addr} (h : s.heap.objs.size ≤ a) : a ∉ X.fs := fun hb => by
  obtain ⟨_, o, ho, _⟩ := I.ok.funs.mem hb
  exact absurd (Nat.lt_of_lt_of_le (Heap.lt_size ho) (Nat.le_trans I.sz h)) (Nat.lt_irrefl _)
theorem Inv.cne (I : Inv X pins σ H s) : ∀ x c, X.env.cells.lookup x = some c → c ≠ X.env.locals := fun x c e z => by
  obtain ⟨v, o, ho, hd⟩ := I.cell x c e
  obtain ⟨m, ⟨o', es, ep, ho', hd', _⟩, _⟩ := I.loc
  rw [z, ho'] at ho; cases ho; rw [hd'] at hd; cases hd
theorem Inv.funs (I : Inv X pins σ H s) : s.heap.FunFrames X.base X.outer := by
  have all : ∀ (l : List Env), (∀ b ∈ frs l, b ∈ X.fs) → X.s₀.heap.FunFrames X.base l → s.heap.FunFrames X.base l := by
    intro l
    induction l with
    | nil => intro _ _; trivial
    | cons env r ih =>
      intro hs hl
      obtain ⟨hk, ⟨L, o, hf, hn, ho, hd⟩, hr⟩ := hl
      have hL : L ∈ X.fs := hs L (by unfold frs; rw [List.filterMap_cons, hf]; exact List.mem_cons_self)
      obtain ⟨sl, e⟩ := I.base.slot L o ho (I.ok.frf L hL) hL fun z => I.ok.exfs L z hL
      exact ⟨hk, ⟨L, _, hf, hn, e, hd⟩, ih (fun b hb => hs b (by unfold frs; rw [List.filterMap_cons, hf]; exact List.mem_cons_of_mem _ hb)) hr⟩
  exact all X.outer (fun _ hb => hb) I.ok.funs

/-- the frames that run, for a call -/
theorem Inv.stack (I : Inv X pins σ H s) : s.heap.FunFrames X.base X.stack := by
  rcases I.ok.stk with e | ⟨e, hf⟩
  · rw [e]; exact I.funs
  · rw [e]
    obtain ⟨m, hn, _⟩ := I.loc
    refine .cons (by rw [I.ok.kind]; decide) hf hn ?_ I.funs
    exact Heap.get?_none_of_le (Nat.le_trans I.ok.bsz I.ok.above)
theorem Inv.stkSub (I : Inv X pins σ H s) : ∀ b ∈ frs X.stack, b ∈ X.env.locals :: X.fs := fun b hb => by
  rcases I.ok.stk with e | ⟨e, hf⟩
  · rw [e] at hb; exact List.mem_cons_of_mem _ hb
  · rw [e] at hb
    unfold frs at hb
    rw [List.filterMap_cons, hf] at hb
    exact hb
theorem Inv.stkFree (I : Inv X pins σ H s) : ∀ b ∈ frs X.stack, H b = none := fun b hb => by
  rcases List.mem_cons.mp (I.stkSub b hb) with e | hb
  · rw [e]; exact I.free
  · obtain ⟨_, o, ho, _⟩ := I.ok.funs.mem hb
    exact I.base.free b o ho (I.ok.frf b hb) fun z => I.ok.exfs b z hb

/-- THE STEP: the untracked objects but the frame and the records at ch are kept (the callers' frames up to slots), the frame's map is kept, the new abstract heap is held -/
theorem Inv.step {g' : Array GenState} {t' : Nat} {d' : Drawn} {ch : List Addr} (I : Inv X pins σ H s)
    (hch : ∀ b ∈ ch, (b ∈ X.ex ∨ X.s₀.heap.objs.size ≤ b) ∧ b ≠ X.env.locals ∧ (∀ x c, X.env.cells.lookup x = some c → c ≠ b) ∧ ∀ p ∈ X.pn ++ pins, p.1 ≠ b)
    (keep : ∀ b o, b ≠ X.env.locals → b ∉ X.fs → b ∉ ch → s.heap.get? b = some o → H b = none → h'.get? b = some o)
    (slot : ∀ b o, b ≠ X.env.locals → b ∈ X.fs → b ∉ ch → s.heap.get? b = some o → H b = none → ∃ sl, h'.get? b = some { o with slots := sl }) (free : ∀ b o, b ∉ ch → s.heap.get? b = some o → H b = none → H' b = none)
    (there : ∀ b o, b ∉ ch → s.heap.get? b = some o → ∃ o', h'.get? b = some o')
    (tups : ∀ b xs, H b = some (.tup xs) → H' b = some (.tup xs)) (frzs : ∀ b o u, H b = some (.frz o u) → H' b = some (.frz o u)) (tbls : ∀ b ps, H b = some (.tbl ps) → ∃ more, H' b = some (.tbl (ps ++ more)))
    (ns : ∀ m, s.heap.Ns X.env.locals m → h'.Ns X.env.locals m) (hok : HOk X.prog X.w H' h') (hg : AllBare g') :
    Inv X pins σ H' { s with heap := h', gens := g', drawn := d', toks := t' } := by
  have neL : ∀ b o, X.s₀.heap.get? b = some o → b ≠ X.env.locals := fun b o e => Nat.ne_of_lt (Nat.lt_of_lt_of_le (Heap.lt_size e) I.ok.above)
  have neC : ∀ b o, X.s₀.heap.get? b = some o → b ∉ X.ex → b ∉ ch := fun b o e hx hb => by
    rcases (hch b hb).1 with z | z
    · exact hx z
    · exact absurd (Nat.lt_of_lt_of_le (Heap.lt_size e) z) (Nat.lt_irrefl _)
  have cellK : ∀ x c, X.env.cells.lookup x = some c → ∀ v, s.heap.IsCell c v → h'.IsCell c v := fun x c e v ⟨o, ho, hd⟩ => by
    have nch : c ∉ ch := fun z => (hch c z).2.2.1 x c e rfl
    by_cases hc : c ∈ X.fs
    · obtain ⟨sl, q⟩ := slot c o (I.cne x c e) hc nch ho (I.freeC x c e)
      exact ⟨_, q, hd⟩
    · exact ⟨o, keep c o (I.cne x c e) hc nch ho (I.freeC x c e), hd⟩
  refine ⟨I.ok, I.os, hg, ⟨fun b o e n hb hx => ?_, fun b o e n hb hx => ?_, fun b o e n hx => ?_, fun b o e hx => ?_, fun b xs e => tups b xs (I.base.tups b xs e), fun b o xs e => frzs b o xs (I.base.frzs b o xs e), fun b ps e => ?_⟩, ?_, fun x c e => ?_, ?_, fun x c e => ?_, fun p hp => ?_, hok, I.len⟩
  · exact keep b o (neL b o e) hb (neC b o e hx) (I.base.keep b o e n hb hx) (I.base.free b o e n hx)
  · obtain ⟨sl, e1⟩ := I.base.slot b o e n hb hx
    obtain ⟨sl', e2⟩ := slot b _ (neL b o e) hb (neC b o e hx) e1 (I.base.free b o e n hx)
    exact ⟨sl', e2⟩
  · obtain ⟨o', e1⟩ := I.base.there b o e hx
    exact free b o' (neC b o e hx) e1 (I.base.free b o e n hx)
  · obtain ⟨o', e1⟩ := I.base.there b o e hx
    exact there b o' (neC b o e hx) e1
  · obtain ⟨m1, e1⟩ := I.base.tbls b ps e
    obtain ⟨m2, e2⟩ := tbls b _ e1
    exact ⟨m1 ++ m2, by rw [e2, Array.append_assoc]⟩
  · obtain ⟨m, hn, hl⟩ := I.loc
    refine ⟨m, ns m hn, fun i x v e1 e2 e3 => ?_⟩
    obtain ⟨u, r, l⟩ := hl i x v e1 e2 e3
    refine ⟨u, r, ?_⟩
    rcases l with l | ⟨k, c, e, z⟩
    · exact .inl l
    · exact .inr ⟨k, c, e, cellK x c e _ z⟩
  · obtain ⟨v, z⟩ := I.cell x c e
    exact ⟨v, cellK x c e v z⟩
  · obtain ⟨m, ⟨o, _, _, ho, _⟩, _⟩ := I.loc
    exact free _ o (fun z => (hch _ z).2.1 rfl) ho I.free
  · obtain ⟨v, o, ho, hd⟩ := I.cell x c e
    exact free c o (fun z => (hch c z).2.2.1 x c e rfl) ho (I.freeC x c e)
  · obtain ⟨e, n, ne, nf, d⟩ := I.pin p hp
    have nch : p.1 ∉ ch := fun z => (hch p.1 z).2.2.2 p hp rfl
    exact ⟨keep p.1 p.2 ne nf nch e n, free p.1 p.2 nch e n, ne, nf, d⟩
/-- .. where the frame's own object is kept too -/
theorem Inv.un {t' : Nat} (I : Inv X pins σ H s) (u : Un X.fs [] H H' s.heap h') (hok : HOk X.prog X.w H' h') : Inv X pins σ H' { s with heap := h', toks := t' } := by
  obtain ⟨m, ⟨o, es, ep, ho, r⟩, _⟩ := id I.loc
  obtain ⟨sl, hL⟩ := u.any ho I.free (by simp)
  exact I.step (g' := s.gens) (d' := s.drawn) (ch := []) (fun _ z => nomatch z) (fun b o _ hb _ e n => u.keep b o e n hb (by simp)) (fun b o _ hb _ e n => u.slot b o e n hb (by simp)) (fun b o _ e n => u.free b o e n (by simp)) (fun b o _ e => u.there b o e (by simp)) u.tups u.frzs u.tbls (fun m' hm => by
    obtain ⟨o', es', ep', ho', r'⟩ := hm
    rw [ho] at ho'; cases ho'
    exact ⟨_, es', ep', hL, r'⟩) hok I.bare
/-- behind a call (or a comprehension's block): the slots of this frame may have changed too, the records at ch may have turned -/
theorem Inv.call {g' : Array GenState} {t' : Nat} {d' : Drawn} {ch : List Addr} (I : Inv X pins σ H s) (u : Un (frs X.stack) ch H H' s.heap h') (hok : HOk X.prog X.w H' h') (hg : AllBare g')
    (hch : ∀ b ∈ ch, (b ∈ X.ex ∨ X.s₀.heap.objs.size ≤ b) ∧ b ≠ X.env.locals ∧ (∀ x c, X.env.cells.lookup x = some c → c ≠ b) ∧ ∀ p ∈ X.pn ++ pins, p.1 ≠ b) :
    Inv X pins σ H' { s with heap := h', gens := g', drawn := d', toks := t' } := by
  obtain ⟨m, ⟨o, es, ep, ho, r⟩, _⟩ := id I.loc
  obtain ⟨sl, hL⟩ := u.any ho I.free fun z => (hch _ z).2.1 rfl
  exact I.step (ch := ch) hch (fun b o hL hb hc e n => u.keep b o e n (fun z => (List.mem_cons.mp (I.stkSub b z)).elim hL hb) hc) (fun b o _ _ hc e n => u.any e n hc) (fun b o hc e n => u.free b o e n hc) (fun b o hc e => u.there b o e hc) u.tups u.frzs u.tbls (fun m' hm => by
    obtain ⟨o', es', ep', ho', r'⟩ := hm
    rw [ho] at ho'; cases ho'
    exact ⟨_, es', ep', hL, r'⟩) hok hg
/-- an untracked record of ours (an iterator) has turned -/
theorem Inv.turned {t' : Nat} {it : Addr} (I : Inv X pins σ H s) (k : ∀ b o, b ≠ it → s.heap.get? b = some o → h'.get? b = some o) (hn : H it = none) (hL : it ≠ X.env.locals)
    (h1 : it ∈ X.ex ∨ X.s₀.heap.objs.size ≤ it) (h2 : ∀ x c, X.env.cells.lookup x = some c → c ≠ it) (h3 : ∀ p ∈ X.pn ++ pins, p.1 ≠ it) : Inv X pins σ H { s with heap := h', toks := t' } := by
  have nit : ∀ b u, H b = some u → b ≠ it := fun b u e z => by rw [z, hn] at e; cases e
  refine I.step (g' := s.gens) (d' := s.drawn) (ch := [it]) (fun b hb => ?_) (fun b o _ _ hc e _ => k b o (fun z => hc (by simp [z])) e) (fun b o _ _ hc e _ => ⟨o.slots, k b o (fun z => hc (by simp [z])) e⟩) (fun _ _ _ _ n => n)
    (fun b o hc e => ⟨o, k b o (fun z => hc (by simp [z])) e⟩) (fun _ _ e => e) (fun _ _ _ e => e) (fun b ps e => ⟨#[], by rw [e]; simp⟩) (fun m hm => ?_) (fun b u e => ?_) I.bare
  · have e : b = it := by simpa using hb
    subst e
    exact ⟨h1, hL, h2, h3⟩
  · obtain ⟨o, es, ep, ho, r⟩ := hm
    exact ⟨o, es, ep, k _ o (Ne.symm hL) ho, r⟩
  · refine (I.hok b u e).stay (fun c v hc q => k c v ?_ q) (fun _ q => q) fun _ _ q => q
    rcases hc with z | z
    · rw [z]; exact nit b u e
    · exact nit c _ z
theorem Inv.tok (I : Inv X pins σ H s) (t : Nat) : Inv X pins σ H { s with toks := t } := I.un (h' := s.heap) (t' := t) Un.refl I.hok
/-- all objects kept -/
theorem Inv.kept {t' : Nat} (I : Inv X pins σ H s) (k : ∀ b u, s.heap.get? b = some u → h'.get? b = some u) : Inv X pins σ H { s with heap := h', toks := t' } := I.un (Un.kept k) (I.hok.kept k)
/-- a new object laid and tracked -/
theorem Inv.laid {a : Addr} {o : HO} {t' : Nat} (I : Inv X pins σ H s) (k : ∀ b u, s.heap.get? b = some u → h'.get? b = some u) (hp : s.heap.objs.size ≤ a) (new : ObjOk X.prog X.w (upd H a o) h' a o) :
    Inv X pins σ (upd H a o) { s with heap := h', toks := t' } := I.un (Un.laid k hp (I.hok.fresh hp)) (I.hok.laid k hp new)
/-- an object written -/
theorem Inv.write {x e : Addr} {o : HO} {t' : Nat} (I : Inv X pins σ H s) (mu : Mut (H x)) (he : e = x ∨ H e = some (.own x)) (k : ∀ b u, b ≠ e → s.heap.get? b = some u → h'.get? b = some u) (heo : ∃ u, h'.get? e = some u)
    (new : ObjOk X.prog X.w (upd H x o) h' x o) : Inv X pins σ (upd H x o) { s with heap := h', toks := t' } := I.un (Un.write mu he k heo) (I.hok.write mu he k heo new)
/-- forgetting slots, pins -/
theorem Inv.weak {σ' : List (Option V)} (I : Inv X pins σ H s) (hl : σ'.length = σ.length) (w : ∀ (i : Nat) v, σ'[i]? = some (some v) → σ[i]? = some (some v)) : Inv X pins σ' H s :=
  ⟨I.ok, I.os, I.bare, I.base, let ⟨m, hn, hl'⟩ := I.loc; ⟨m, hn, fun i x v e1 e2 e3 => hl' i x v e1 (w i v e2) e3⟩, I.cell, I.free, I.freeC, I.pin, I.hok, hl.trans I.len⟩
theorem Inv.pins_of {pins' : List (Addr × Obj)} (I : Inv X pins σ H s) (h : ∀ p ∈ pins', s.heap.get? p.1 = some p.2 ∧ H p.1 = none ∧ p.1 ≠ X.env.locals ∧ p.1 ∉ X.fs ∧ ∀ v, p.2.data ≠ .cell v) : Inv X pins' σ H s :=
  ⟨I.ok, I.os, I.bare, I.base, I.loc, I.cell, I.free, I.freeC, fun p hp => (List.mem_append.mp hp).elim (fun z => I.pin p (List.mem_append_left _ z)) (h p), I.hok, I.len⟩

theorem nodup_ix {N : List Str} (hN : N.Nodup) {i j : Nat} {x : Str} (a : N[i]? = some x) (b : N[j]? = some x) : i = j := by
  obtain ⟨h1, e1⟩ := List.getElem?_eq_some_iff.mp a
  obtain ⟨h2, e2⟩ := List.getElem?_eq_some_iff.mp b
  exact (List.getElem_inj hN).mp (e1.trans e2.symm)

/-- a name is stored; what changed -/
theorem store_ok2 {M : Model} {A : Around} {E : Value → Shared → Prop} {i : Nat} {x : Str} {v : V} {u : Value} {Q : Unit → Shared → Prop} (I : Inv X pins σ H s) (hN : X.N.Nodup) (hi : X.N[i]? = some x) (hx : Loc X.env.scope x) (r : RelV v u)
    (h : ∀ s', Inv X pins (σ.set i (some v)) H s' → (∃ a, Heap.SameBut a s.heap s'.heap ∧ (a = X.env.locals ∨ X.env.cells.lookup x = some a)) → Q () s') (hf : X.fn x = true ∨ X.env.scope.names.lookup x = some .local := by first | exact .inl rfl | exact .inr rfl | assumption) : wpAny M A (storeName X.env x u) Q E s := by
  obtain ⟨m, hn, hl⟩ := id I.loc
  have hcls : (X.env.scope.kind == .class || (X.env.scope.kind == .module && X.env.locals != X.env.globals)) = false := by rw [I.ok.kind]; rfl
  have hiσ : i < σ.length := by rw [I.len]; exact (List.getElem?_eq_some_iff.mp hi).1
  have cne := I.cne
  have tracked : ∀ {a : Addr} {h' : Heap}, (∃ o, s.heap.get? a = some o ∧ H a = none) → Heap.SameBut a s.heap h' → HOk X.prog X.w H h' := fun {a h'} ha hs b ob e => by
    obtain ⟨_, _, hfree⟩ := ha
    refine (I.hok b ob e).stay (fun c w' hc q => (hs.2 c ?_).trans q) (fun _ q => q) fun _ _ q => q
    rintro rfl
    rcases hc with rfl | hc
    · rw [hfree] at e; cases e
    · rw [hfree] at hc; cases hc
  rcases hx with hk | hk
  · refine wpAny_storeName_local hk hn (fun h' hn' hs => ?_) hcls
    obtain ⟨oL, _, _, hoL, _⟩ := id hn
    refine h _ ⟨I.ok, I.os, I.bare, ⟨fun b o e n hb hx => ?_, fun b o e n hb hx => ?_, I.base.free, fun b o e hx => ?_, I.base.tups, I.base.frzs, I.base.tbls⟩, ⟨_, hn', fun j y v' e1 e2 e3 => ?_⟩, fun y c e => ?_, I.free, I.freeC, fun p hp => ?_, tracked ⟨oL, hoL, I.free⟩ hs, by simpa using I.len⟩ ⟨_, hs, .inl rfl⟩
    · exact (hs.2 b (Nat.ne_of_lt (Nat.lt_of_lt_of_le (Heap.lt_size e) I.ok.above))).trans (I.base.keep b o e n hb hx)
    · obtain ⟨sl, e1⟩ := I.base.slot b o e n hb hx
      exact ⟨sl, (hs.2 b (Nat.ne_of_lt (Nat.lt_of_lt_of_le (Heap.lt_size e) I.ok.above))).trans e1⟩
    · obtain ⟨o', e1⟩ := I.base.there b o e hx
      exact ⟨o', (hs.2 b (Nat.ne_of_lt (Nat.lt_of_lt_of_le (Heap.lt_size e) I.ok.above))).trans e1⟩
    · by_cases hj : j = i
      · subst hj
        rw [hi] at e1; cases e1
        rw [List.getElem?_set_self hiσ] at e2
        cases e2
        exact ⟨u, r, .inl ⟨hk, by simp⟩⟩
      · rw [List.getElem?_set_ne (Ne.symm hj)] at e2
        obtain ⟨u', r', q⟩ := hl j y v' e1 e2 e3
        refine ⟨u', r', ?_⟩
        rcases q with ⟨k, e⟩ | ⟨k, c, e, z⟩
        · refine .inl ⟨k, ?_⟩
          have : y ≠ x := fun e => hj (nodup_ix hN e1 (e ▸ hi))
          simp [this, e]
        · exact .inr ⟨k, c, e, z.sameBut hs (cne y c e)⟩
    · obtain ⟨w', z⟩ := I.cell y c e
      exact ⟨w', z.sameBut hs (cne y c e)⟩
    · obtain ⟨e, n, ne, nf, d⟩ := I.pin p hp
      exact ⟨(hs.2 p.1 ne).trans e, n, ne, nf, d⟩
  · have hfn : X.fn x = true := by
      rcases hf with z | z
      · exact z
      · rw [z] at hk; cases hk
    obtain ⟨c, hc⟩ := I.ok.has x (.inl hk)
    obtain ⟨w', z⟩ := I.cell x c hc
    refine wpAny_storeName_cell I.ok.kind hk hc z (fun h' hc' hs => ?_)
    obtain ⟨oc, hoc, hocd⟩ := id z
    refine h { s with heap := h' } ⟨I.ok, I.os, I.bare, ⟨fun b o e n hb hx => ?_, fun b o e n hb hx => ?_, I.base.free, fun b o e hx => ?_, I.base.tups, I.base.frzs, I.base.tbls⟩, ⟨m, hn.sameBut hs (Ne.symm (cne x c hc)), fun j y v' e1 e2 e3 => ?_⟩, fun y c' e => ?_, I.free, I.freeC, fun p hp => ?_, tracked ⟨oc, hoc, I.freeC x c hc⟩ hs, by simpa using I.len⟩ ⟨c, hs, .inr hc⟩
    · exact (hs.2 b (Nat.ne_of_lt (Nat.lt_of_lt_of_le (Heap.lt_size e) (I.ok.cab x c hfn hc)))).trans (I.base.keep b o e n hb hx)
    · obtain ⟨sl, e1⟩ := I.base.slot b o e n hb hx
      exact ⟨sl, (hs.2 b (Nat.ne_of_lt (Nat.lt_of_lt_of_le (Heap.lt_size e) (I.ok.cab x c hfn hc)))).trans e1⟩
    · obtain ⟨o', e1⟩ := I.base.there b o e hx
      exact ⟨o', (hs.2 b (Nat.ne_of_lt (Nat.lt_of_lt_of_le (Heap.lt_size e) (I.ok.cab x c hfn hc)))).trans e1⟩
    · by_cases hj : j = i
      · subst hj
        rw [hi] at e1; cases e1
        rw [List.getElem?_set_self hiσ] at e2
        cases e2
        exact ⟨u, r, .inr ⟨.inl hk, c, hc, hc'⟩⟩
      · rw [List.getElem?_set_ne (Ne.symm hj)] at e2
        obtain ⟨u', r', q⟩ := hl j y v' e1 e2 e3
        refine ⟨u', r', ?_⟩
        rcases q with q | ⟨k, c', e, z'⟩
        · exact .inl q
        · refine .inr ⟨k, c', e, z'.sameBut hs ?_⟩
          rintro rfl
          exact hj (nodup_ix hN e1 (I.ok.inj _ _ _ e hc ▸ hi))
    · by_cases hcc : c' = c
      · subst hcc; exact ⟨_, hc'⟩
      · obtain ⟨w2, z2⟩ := I.cell y c' e
        exact ⟨w2, z2.sameBut hs hcc⟩
    · obtain ⟨e, n, ne, nf, d⟩ := I.pin p hp
      refine ⟨(hs.2 p.1 ?_).trans e, n, ne, nf, d⟩
      intro q
      rw [q, hoc] at e
      have q' : oc = p.2 := Option.some.inj e
      exact d w' (by rw [← q']; exact hocd)
theorem store_ok {M : Model} {A : Around} {E : Value → Shared → Prop} {i : Nat} {x : Str} {v : V} {u : Value} {Q : Unit → Shared → Prop} (I : Inv X pins σ H s) (hN : X.N.Nodup) (hi : X.N[i]? = some x) (hx : Loc X.env.scope x) (r : RelV v u)
    (h : ∀ s', Inv X pins (σ.set i (some v)) H s' → Q () s') (hf : X.fn x = true ∨ X.env.scope.names.lookup x = some .local := by first | exact .inl rfl | exact .inr rfl | assumption) : wpAny M A (storeName X.env x u) Q E s :=
  store_ok2 I hN hi hx r (fun s' I' _ => h s' I') hf
/-- behind a call or a block, the state as it is -/
theorem Inv.call' {s' : Shared} {ch : List Addr} (I : Inv X pins σ H s) (ho : s'.os = s.os) (u : Un (frs X.stack) ch H H' s.heap s'.heap) (hok : HOk X.prog X.w H' s'.heap) (hg : AllBare s'.gens)
    (hch : ∀ b ∈ ch, (b ∈ X.ex ∨ X.s₀.heap.objs.size ≤ b) ∧ b ≠ X.env.locals ∧ (∀ x c, X.env.cells.lookup x = some c → c ≠ b) ∧ ∀ p ∈ X.pn ++ pins, p.1 ≠ b) : Inv X pins σ H' s' := by
  obtain ⟨h', g', d', t', o'⟩ := s'
  have e : o' = s.os := ho
  subst e
  exact I.call (g' := g') (t' := t') (d' := d') u hok hg hch
end

/-! ### the judgements -/
/-- an exception: its class, its own dict's address (where it has one), the abstract heap behind it -/
abbrev XK := Value → Option Addr → Hp → Prop
abbrev St := List (Option V)
abbrev VK := V → Hp → Prop
/-- an expression's reading; a test's; an argument list's -/
abbrev TE := St → Hp → VK → Prop
abbrev TT := St → Hp → (Bool → Hp → Prop) → Prop
abbrev TA := St → Hp → (List V → Hp → Prop) → Prop
/-- what is wanted behind a statement -/
structure Ends where
  nx : St → Hp → Prop
  rt : VK
  bk : St → Hp → Prop := fun _ _ => False
  ct : St → Hp → Prop := fun _ _ => False
abbrev TS := Ends → St → Hp → Prop

def EP (X : Cx) (pins : List (Addr × Obj)) (σ : St) (Q : VK) (u : Value) (s' : Shared) : Prop := ∃ v H', Inv X pins σ H' s' ∧ RelV v u ∧ Q v H'
def TP (X : Cx) (pins : List (Addr × Obj)) (σ : St) (Q : Bool → Hp → Prop) (b : Bool) (s' : Shared) : Prop := ∃ H', Inv X pins σ H' s' ∧ Q b H'
def AP (X : Cx) (pins : List (Addr × Obj)) (σ : St) (Q : List V → Hp → Prop) (us : List Value) (s' : Shared) : Prop := ∃ vs H', Inv X pins σ H' s' ∧ Vals vs us ∧ Q vs H'
def SP (X : Cx) (pins : List (Addr × Obj)) (D : Ends) (f : Flow) (s' : Shared) : Prop :=
  match f with
  | .next => ∃ σ' H', Inv X pins σ' H' s' ∧ D.nx σ' H'
  | .brk => ∃ σ' H', Inv X pins σ' H' s' ∧ D.bk σ' H'
  | .cont => ∃ σ' H', Inv X pins σ' H' s' ∧ D.ct σ' H'
  | .ret u => ∃ v σ' H', Inv X pins σ' H' s' ∧ RelV v u ∧ D.rt v H'

def PE (X : Cx) (e : Expr) (t : TE) : Prop :=
  ∀ (pins : List (Addr × Obj)) (s : Shared) (σ : St) (H : Hp) (Q : VK), Inv X pins σ H s → t σ H Q → wpAny (model X.prog X.w) X.A (eval e X.env) (EP X pins σ Q) X.xe s
def PT (X : Cx) (e : Expr) (t : TT) : Prop :=
  ∀ (pins : List (Addr × Obj)) (s : Shared) (σ : St) (H : Hp) (Q : Bool → Hp → Prop), Inv X pins σ H s → t σ H Q → wpAny (model X.prog X.w) X.A (isTrue e X.env (eval e X.env)) (TP X pins σ Q) X.xe s
/-- a test whatever its 'whole' is (and, or) -/
def PW (X : Cx) (e : Expr) (t : TT) : Prop :=
  ∀ (whole : Sem Value) (pins : List (Addr × Obj)) (s : Shared) (σ : St) (H : Hp) (Q : Bool → Hp → Prop), Inv X pins σ H s → t σ H Q → wpAny (model X.prog X.w) X.A (isTrue e X.env whole) (TP X pins σ Q) X.xe s
theorem PW.pt {X : Cx} {e : Expr} {t : TT} (h : PW X e t) : PT X e t := h _
/-- an argument list (no star), from the left -/
def PA (X : Cx) (es : List Expr) (t : TA) : Prop :=
  ∀ (pos : Pos) (pins : List (Addr × Obj)) (s : Shared) (σ : St) (H : Hp) (Q : List V → Hp → Prop), Inv X pins σ H s → t σ H Q → wpAny (model X.prog X.w) X.A (spliced (backTo pos (starEach es X.env))) (AP X pins σ Q) X.xe s
def PS (X : Cx) (st : Stmt) (t : TS) : Prop :=
  ∀ (pins : List (Addr × Obj)) (s : Shared) (σ : St) (H : Hp) (D : Ends), Inv X pins σ H s → t D σ H → wpAny (model X.prog X.w) X.A (exec st X.env) (SP X pins D) X.xe s
def PSs (X : Cx) (st : List Stmt) (t : TS) : Prop :=
  ∀ (pins : List (Addr × Obj)) (s : Shared) (σ : St) (H : Hp) (D : Ends), Inv X pins σ H s → t D σ H → wpAny (model X.prog X.w) X.A (execs st X.env) (SP X pins D) X.xe s
/-- weaken the end -/
theorem thn {α : Type} {t : Sem α} {Q Q' : α → Shared → Prop} {M : Model} {A : Around} {E : Value → Shared → Prop} {s : Shared} (h : wpAny M A t Q E s) (hQ : ∀ a s, Q a s → Q' a s) : wpAny M A t Q' E s := wpAny_mono h hQ fun _ _ x => x
end L2

namespace L2
open PySem PySem.Spec PyProof.Rows
section
variable {X : Cx}

/-- two expressions in a row -/
theorem bin {a b : Expr} {ta tb : TE} (ha : PE X a ta) (hb : PE X b tb) {pins : List (Addr × Obj)} {s : Shared} {σ : St} {H : Hp} {R : V → V → Hp → Prop} (I : Inv X pins σ H s) (h : ta σ H fun x H1 => tb σ H1 fun y H2 => R x y H2)
    {α : Type} {Q : α → Shared → Prop} {f : Value → Value → Sem α}
    (hf : ∀ v u s2 x y H2, Inv X pins σ H2 s2 → RelV x v → RelV y u → R x y H2 → wpAny (model X.prog X.w) X.A (f v u) Q X.xe s2) :
    wpAny (model X.prog X.w) X.A (eval a X.env) (fun v s₁ => wpAny (model X.prog X.w) X.A (eval b X.env) (fun u s₂ => wpAny (model X.prog X.w) X.A (f v u) Q X.xe s₂) X.xe s₁) X.xe s := by
  refine thn (ha pins s σ H _ I h) fun v s1 ⟨x, H1, I1, r1, q1⟩ => ?_
  refine thn (hb pins s1 σ H1 _ I1 q1) fun u s2 ⟨y, H2, I2, r2, q2⟩ => ?_
  exact hf v u s2 x y H2 I2 r1 r2 q2

/-! ### names and constants -/
def tVar (i : Nat) : TE := fun σ H Q => ∃ v, σ[i]? = some (some v) ∧ Q v H
def tC (v : V) : TE := fun _ H Q => Q v H
theorem pe_var {i : Nat} {x : Str} {pos : Pos} (hN : X.N[i]? = some x) (hv : Vis X.env.scope x) (hd : (x == ("__debug__" : Str)) = false := by decide) (hcd : (x == ("__classdict__" : Str)) = false := by decide) : PE X (.Name x pos) (tVar i) := by
  intro pins s σ H Q I h
  obtain ⟨v, e, h⟩ := h
  obtain ⟨m, hn, hl⟩ := I.loc
  obtain ⟨u, r, l⟩ := hl i x v hN e hv
  have fin : EP X pins σ Q u s := ⟨v, H, I, r, h⟩
  rcases l with ⟨hk, hm⟩ | ⟨hk, c, hc, hcell⟩
  · exact wpAny_Name (wpAny_loadName_local I.ok.kind hk hn hm fin) hd
  · rcases hk with hk | hk
    · exact wpAny_Name (wpAny_loadName_cell I.ok.kind hk hc hcell fin) hd
    · exact wpAny_Name (wpAny_loadName_free I.ok.kind hk hc hcell fin hcd) hd
theorem pe_int {i j pos} : PE X (.Constant (.int i) j pos) (tC (.int i)) := fun _ _ _ H _ I h => wpAny_Constant_int ⟨.int i, H, I.tok _, ⟨_, rfl⟩, h⟩
theorem pe_bl {b j pos} : PE X (.Constant (.bool b) j pos) (tC (.bl b)) := fun _ _ _ H _ I h => Constant_bool ⟨.bl b, H, I, rfl, h⟩
theorem pe_non {j pos} : PE X (.Constant .none j pos) (tC .non) := fun _ _ _ H _ I h => Constant_none ⟨.non, H, I, rfl, h⟩
theorem pe_str {x j pos} : PE X (.Constant (.str x) j pos) (tC (.str x)) := fun _ _ _ H _ I h => Calls.Constant_str ⟨.str x, H, I.tok _, ⟨_, rfl⟩, h⟩

/-- a global name of the def -/
def Gl (X : Cx) (x : Str) : Prop := X.env.kindOf x = some .globalImplicit
theorem ld_glob {E : Value → Shared → Prop} {pins : List (Addr × Obj)} {s : Shared} {σ : St} {H : Hp} {x : Str} {u : Value} {pos : Pos} {Q : Value → Shared → Prop} (I : Inv X pins σ H s) (hg : Gl X x) (hm : X.mg x = some u) (h : Q u s)
    (hd : (x == ("__debug__" : Str)) = false := by decide) : wpAny (model X.prog X.w) X.A (eval (.Name x pos) X.env) Q E s :=
  Calls.Name_function_global I.ok.kind hg (Calls.loadGlobal_global (by rw [I.ok.glob]; exact I.mod.glob.keeps I.bk) hm h) hd
theorem ld_blt {E : Value → Shared → Prop} {pins : List (Addr × Obj)} {s : Shared} {σ : St} {H : Hp} {x : Str} {u : Value} {pos : Pos} {Q : Value → Shared → Prop} (I : Inv X pins σ H s) (hg : Gl X x) (hm : X.mg x = none) (hv : bootBuiltins x = some u) (h : Q u s)
    (hn : x ≠ "__name__" := by decide) (hd : (x == ("__debug__" : Str)) = false := by decide) : wpAny (model X.prog X.w) X.A (eval (.Name x pos) X.env) Q E s := by
  obtain ⟨mb, h1, h2⟩ := I.mod.blt
  exact Calls.Name_function_global I.ok.kind hg (Calls.loadGlobal_builtin (by rw [I.ok.glob]; exact I.mod.glob.keeps I.bk) hm (by rw [I.ok.blt]; exact h1.keeps I.bk) ((h2 x hn).trans hv) h) hd
/-- a module's constant, a class, a function, as a value -/
theorem pe_glob {x : Str} {v : V} {u : Value} {pos : Pos} (hg : Gl X x) (hm : X.mg x = some u) (r : RelV v u) (hd : (x == ("__debug__" : Str)) = false := by decide) : PE X (.Name x pos) (tC v) :=
  fun _ _ _ H _ I h => ld_glob I hg hm ⟨v, H, I, r, h⟩ hd
theorem pe_bltn {x : Str} {v : V} {u : Value} {pos : Pos} (hg : Gl X x) (hm : X.mg x = none) (hv : bootBuiltins x = some u) (r : RelV v u) (hn : x ≠ "__name__" := by decide) (hd : (x == ("__debug__" : Str)) = false := by decide) : PE X (.Name x pos) (tC v) :=
  fun _ _ _ H _ I h => ld_blt I hg hm hv ⟨v, H, I, r, h⟩ hn hd

/-! ### arithmetic -/
/-- two ints -/
def t2I (ta tb : TE) (k : Int → Int → Hp → Prop) : St → Hp → Prop := fun σ H => ta σ H fun x H1 => tb σ H1 fun y H2 => ∃ i j, x = .int i ∧ y = .int j ∧ k i j H2
def tAdd (ta tb : TE) : TE := fun σ H Q => t2I ta tb (fun i j H2 => Q (.int (i + j)) H2) σ H
def tSub (ta tb : TE) : TE := fun σ H Q => t2I ta tb (fun i j H2 => Q (.int (i - j)) H2) σ H
/-- the left factor below 2^64 -/
def tMul (ta tb : TE) : TE := fun σ H Q => t2I ta tb (fun i j H2 => (-(2 ^ 64) < i ∧ i < 2 ^ 64) ∧ Q (.int (i * j)) H2) σ H
variable {a b : Expr} {ta tb : TE} {pos : Pos}
theorem pe_add (ha : PE X a ta) (hb : PE X b tb) : PE X (.BinOp a .Add b pos) (tAdd ta tb) := by
  intro pins s σ H Q I h
  refine wpAny_BinOp (bin ha hb I h fun v u s2 x y H2 I2 rx ry q => ?_)
  obtain ⟨i, j, rfl, rfl, q⟩ := q
  obtain ⟨t, rfl⟩ := rx
  obtain ⟨t', rfl⟩ := ry
  exact add_int ⟨.int _, H2, I2.tok _, ⟨_, rfl⟩, q⟩
theorem pe_sub (ha : PE X a ta) (hb : PE X b tb) : PE X (.BinOp a .Sub b pos) (tSub ta tb) := by
  intro pins s σ H Q I h
  refine wpAny_BinOp (bin ha hb I h fun v u s2 x y H2 I2 rx ry q => ?_)
  obtain ⟨i, j, rfl, rfl, q⟩ := q
  obtain ⟨t, rfl⟩ := rx
  obtain ⟨t', rfl⟩ := ry
  exact sub_int ⟨.int _, H2, I2.tok _, ⟨_, rfl⟩, q⟩
theorem pe_mul (ha : PE X a ta) (hb : PE X b tb) : PE X (.BinOp a .Mult b pos) (tMul ta tb) := by
  intro pins s σ H Q I h
  refine wpAny_BinOp (bin ha hb I h fun v u s2 x y H2 I2 rx ry q => ?_)
  obtain ⟨i, j, rfl, rfl, ⟨q1, q2⟩, q⟩ := q
  obtain ⟨t, rfl⟩ := rx
  obtain ⟨t', rfl⟩ := ry
  exact mul_int ⟨.int _, H2, I2.tok _, ⟨_, rfl⟩, q⟩ (.of_left (intBits_le_64 q1 q2))

/-! ### comparisons -/
def PC (X : Cx) (op : CmpOp) (a b : Expr) (t : TE) : Prop :=
  ∀ (pins : List (Addr × Obj)) (s : Shared) (σ : St) (H : Hp) (Q : VK), Inv X pins σ H s → t σ H Q →
    wpAny (model X.prog X.w) X.A (eval a X.env) (fun v s₁ => wpAny (model X.prog X.w) X.A (eval b X.env) (fun u s₂ => wpAny (model X.prog X.w) X.A (compareOp op v u) (EP X pins σ Q) X.xe s₂) X.xe s₁) X.xe s
theorem nobehind (b : Expr) {op : CmpOp} (h : op ≠ .In) (h2 : op ≠ .NotIn) : behindInMarks op b = false := by
  have e1 : (op == CmpOp.In) = false := by cases op <;> first | rfl | exact absurd rfl h
  have e2 : (op == CmpOp.NotIn) = false := by cases op <;> first | rfl | exact absurd rfl h2
  cases b <;> simp [behindInMarks, e1, e2]
def tCmp (p : Int → Int → Bool) (ta tb : TE) : TE := fun σ H Q => t2I ta tb (fun i j H2 => Q (.bl (p i j)) H2) σ H
abbrev tLt : TE → TE → TE := tCmp fun i j => decide (i < j)
abbrev tLe : TE → TE → TE := tCmp fun i j => decide (i ≤ j)
abbrev tGt : TE → TE → TE := tCmp fun i j => decide (j < i)
abbrev tGe : TE → TE → TE := tCmp fun i j => decide (j ≤ i)
abbrev tEqI : TE → TE → TE := tCmp fun i j => decide (i = j)
abbrev tNeI : TE → TE → TE := tCmp fun i j => !decide (i = j)
/-- a comparison of two ints, by its rule -/
theorem pc_int {op : CmpOp} {p : Int → Int → Bool} (ha : PE X a ta) (hb : PE X b tb)
    (rule : ∀ (i j : Int) (t u : Tok) (Q : Value → Shared → Prop) (s : Shared), Q (.bool (p i j)) s → wpAny (model X.prog X.w) X.A (compareOp op (.int i t) (.int j u)) Q X.xe s) : PC X op a b (tCmp p ta tb) := by
  intro pins s σ H Q I h
  refine bin ha hb I h fun v u s2 x y H2 I2 rx ry q => ?_
  obtain ⟨i, j, rfl, rfl, q⟩ := q
  obtain ⟨t, rfl⟩ := rx
  obtain ⟨t', rfl⟩ := ry
  exact rule i j t t' _ s2 ⟨.bl _, H2, I2, rfl, q⟩
theorem pc_lt (ha : PE X a ta) (hb : PE X b tb) : PC X .Lt a b (tLt ta tb) := pc_int ha hb fun _ _ _ _ _ _ h => lt_int h
theorem pc_le (ha : PE X a ta) (hb : PE X b tb) : PC X .LtE a b (tLe ta tb) := pc_int ha hb fun _ _ _ _ _ _ h => le_int h
theorem pc_gt (ha : PE X a ta) (hb : PE X b tb) : PC X .Gt a b (tGt ta tb) := pc_int ha hb fun _ _ _ _ _ _ h => gt_int h
theorem pc_ge (ha : PE X a ta) (hb : PE X b tb) : PC X .GtE a b (tGe ta tb) := pc_int ha hb fun _ _ _ _ _ _ h => ge_int h
theorem pc_eqI (ha : PE X a ta) (hb : PE X b tb) : PC X .Eq a b (tEqI ta tb) := pc_int ha hb fun _ _ _ _ _ _ h => eq_int (by rw [Bool.beq_eq_decide_eq]; exact h)
theorem pc_neI (ha : PE X a ta) (hb : PE X b tb) : PC X .NotEq a b (tNeI ta tb) := pc_int ha hb fun _ _ _ _ _ _ h => ne_int (by rw [bne, Bool.beq_eq_decide_eq]; exact h)
/-- is None -/
def tIsN (ta : TE) : TE := fun σ H Q => ta σ H fun x H1 => Q (.bl (decide (x = .non))) H1
def tNotN (ta : TE) : TE := fun σ H Q => ta σ H fun x H1 => Q (.bl (!decide (x = .non))) H1
theorem RelV.none_iff {x : V} {v : Value} (r : RelV x v) : (v == Value.none) = decide (x = .non) := by
  cases x with
  | non => cases r; rfl
  | bl _ => cases r; rfl
  | int _ => obtain ⟨t, rfl⟩ := r; rfl
  | str _ => obtain ⟨t, rfl⟩ := r; rfl
  | byt _ => obtain ⟨t, rfl⟩ := r; rfl
  | flt _ => obtain ⟨t, rfl⟩ := r; rfl
  | ref _ => cases r; rfl
  | ty _ => cases r; rfl
theorem pc_isN {j pos'} (ha : PE X a ta) : PC X .Is a (.Constant .none j pos') (tIsN ta) := by
  intro pins s σ H Q I h
  refine thn (ha pins s σ H _ I h) fun v s1 ⟨x, H1, I1, r1, q1⟩ => ?_
  exact Constant_none (is_none_gen ⟨.bl _, H1, I1, by rw [r1.none_iff]; rfl, q1⟩)
theorem pc_notN {j pos'} (ha : PE X a ta) : PC X .IsNot a (.Constant .none j pos') (tNotN ta) := by
  intro pins s σ H Q I h
  refine thn (ha pins s σ H _ I h) fun v s1 ⟨x, H1, I1, r1, q1⟩ => ?_
  exact Constant_none (isnot_none_gen ⟨.bl _, H1, I1, by rw [r1.none_iff]; rfl, q1⟩)
/-- a comparison as a value, as a test -/
def tB (t : TE) : TT := fun σ H Q => t σ H fun x H1 => ∃ c, x = .bl c ∧ Q c H1
theorem pe_cmp {op : CmpOp} {t : TE} (h : PC X op a b t) (h1 : behindInMarks op b = false := by first | exact nobehind _ (by decide) (by decide) | rfl) : PE X (.Compare a [op] [b] pos) t := fun pins s σ H Q I hw => wpAny_Compare1 (h pins s σ H Q I hw) h1
theorem pt_cmp {op : CmpOp} {t : TE} (h : PC X op a b t) (h1 : behindInMarks op b = false := by first | exact nobehind _ (by decide) (by decide) | rfl) : PT X (.Compare a [op] [b] pos) (tB t) := by
  intro pins s σ H Q I hw
  refine wpAny_isTrue_Compare1 (thn (h pins s σ H _ I hw) fun v s1 h1 => thn h1 fun u s2 h2 => thn h2 fun c s3 ⟨x, H1, I1, r1, q1⟩ => ?_) h1
  obtain ⟨d, rfl, q⟩ := q1
  cases r1
  exact wpAny_truthy_bool ⟨H1, I1, q⟩
/-- an expression whose value is a bool, as a test -/
theorem pt_val {e : Expr} {t : TE} (h : PE X e t) (he : ∀ whole, isTrue e X.env whole = (do let v ← whole; standAt e.pos; holding [v] (truthy v)) := by intro _; rfl) : PT X e (tB t) := by
  intro pins s σ H Q I hw
  refine isTrue_plain (thn (h pins s σ H _ I hw) fun v s1 ⟨x, H1, I1, r1, q1⟩ => ?_) (he _)
  obtain ⟨d, rfl, q⟩ := q1
  cases r1
  exact wpAny_truthy_bool ⟨H1, I1, q⟩

/-! ### and, or, not -/
variable {tA tB' : TT} {rest : List Expr}
def tAnd (t u : TT) : TT := fun σ H Q => t σ H fun c H1 => if c = true then u σ H1 Q else Q false H1
def tOr (t u : TT) : TT := fun σ H Q => t σ H fun c H1 => if c = true then Q true H1 else u σ H1 Q
def tNot (t : TT) : TT := fun σ H Q => t σ H fun c H1 => Q (!c) H1
theorem pw_and1 (ha : PT X a tA) : PW X (.BoolOp .And [a] pos) tA := by
  intro wh pins s σ H Q I h
  refine isTrue_and (thn (ha pins s σ H Q I h) fun c s1 e => ?_)
  cases c with
  | true => exact isTrue_and_nil e
  | false => exact e
theorem pw_or1 (ha : PT X a tA) : PW X (.BoolOp .Or [a] pos) tA := by
  intro wh pins s σ H Q I h
  refine isTrue_or (thn (ha pins s σ H Q I h) fun c s1 e => ?_)
  cases c with
  | false => exact isTrue_or_nil e
  | true => exact e
theorem pw_and (ha : PT X a tA) (hb : PW X (.BoolOp .And (b :: rest) pos) tB') : PW X (.BoolOp .And (a :: b :: rest) pos) (tAnd tA tB') := by
  intro wh pins s σ H Q I h
  refine isTrue_and (thn (ha pins s σ H _ I h) fun c s1 ⟨H1, I1, q1⟩ => ?_)
  cases c with
  | true => exact hb wh pins s1 σ H1 Q I1 q1
  | false => exact ⟨H1, I1, q1⟩
theorem pw_or (ha : PT X a tA) (hb : PW X (.BoolOp .Or (b :: rest) pos) tB') : PW X (.BoolOp .Or (a :: b :: rest) pos) (tOr tA tB') := by
  intro wh pins s σ H Q I h
  refine isTrue_or (thn (ha pins s σ H _ I h) fun c s1 ⟨H1, I1, q1⟩ => ?_)
  cases c with
  | true => exact ⟨H1, I1, q1⟩
  | false => exact hb wh pins s1 σ H1 Q I1 q1
theorem pt_not (ha : PT X a tA) : PT X (.UnaryOp .Not a pos) (tNot tA) := by
  intro pins s σ H Q I h
  exact isTrue_not (ha pins s σ H (fun c H1 => Q (!c) H1) I h)
/-- .. as values (bools) -/
def tAndV (ta tb : TE) : TE := fun σ H Q => ta σ H fun x H1 => ∃ c, x = .bl c ∧ if c = true then tb σ H1 Q else Q (.bl false) H1
def tOrV (ta tb : TE) : TE := fun σ H Q => ta σ H fun x H1 => ∃ c, x = .bl c ∧ if c = true then Q (.bl true) H1 else tb σ H1 Q
def tNotV (ta : TE) : TE := fun σ H Q => ta σ H fun x H1 => ∃ c, x = .bl c ∧ Q (.bl (!c)) H1
theorem pe_one {op} {t : TE} (h : PE X a t) : PE X (.BoolOp op [a] pos) t := fun pins s σ H Q I hw => BoolOp_one (h pins s σ H Q I hw)
theorem pe_and (ha : PE X a ta) (hb : PE X (.BoolOp .And (b :: rest) pos) tb) : PE X (.BoolOp .And (a :: b :: rest) pos) (tAndV ta tb) := by
  intro pins s σ H Q I h
  refine BoolOp_and (thn (ha pins s σ H _ I h) fun v s1 ⟨x, H1, I1, r1, q1⟩ => ?_)
  obtain ⟨c, rfl, q1⟩ := q1
  cases r1
  refine wpAny_truthy_bool ?_
  cases c with
  | true => exact hb pins s1 σ H1 Q I1 q1
  | false => exact ⟨.bl false, H1, I1, rfl, q1⟩
theorem pe_or (ha : PE X a ta) (hb : PE X (.BoolOp .Or (b :: rest) pos) tb) : PE X (.BoolOp .Or (a :: b :: rest) pos) (tOrV ta tb) := by
  intro pins s σ H Q I h
  refine BoolOp_or (thn (ha pins s σ H _ I h) fun v s1 ⟨x, H1, I1, r1, q1⟩ => ?_)
  obtain ⟨c, rfl, q1⟩ := q1
  cases r1
  refine wpAny_truthy_bool ?_
  cases c with
  | false => exact hb pins s1 σ H1 Q I1 q1
  | true => exact ⟨.bl true, H1, I1, rfl, q1⟩
theorem pe_not (ha : PE X a ta) : PE X (.UnaryOp .Not a pos) (tNotV ta) := by
  intro pins s σ H Q I h
  refine UnaryOp_ (thn (ha pins s σ H _ I h) fun v s1 ⟨x, H1, I1, r1, q1⟩ => ?_)
  obtain ⟨c, rfl, q1⟩ := q1
  cases r1
  exact not_of (wpAny_truthy_bool ⟨.bl (!c), H1, I1, rfl, q1⟩)
/-- a if t else b -/
def tIf (t : TT) (ta tb : TE) : TE := fun σ H Q => t σ H fun c H1 => if c = true then ta σ H1 Q else tb σ H1 Q
theorem pe_ifExp {c : Expr} (hc : PT X c tA) (ha : PE X a ta) (hb : PE X b tb) : PE X (.IfExp c a b pos) (tIf tA ta tb) := by
  intro pins s σ H Q I h
  refine wpAny_IfExp (thn (hc pins s σ H _ I h) fun d s1 ⟨H1, I1, q1⟩ => ?_)
  cases d with
  | true => exact ha pins s1 σ H1 Q I1 q1
  | false => exact hb pins s1 σ H1 Q I1 q1
end
end L2

namespace L2
open PySem PySem.Spec PyProof.Rows

/-! ### a list, a tuple that is read: tracked, frozen, or an object of the module -/
def SqL (K : PySem.W.Frag) (H : Hp) (a : Addr) (xs : List V) : Prop :=
  Rd H a (.lst xs) ∨
    ∃ (o : Obj) (its : Array Value) (n : Nat), K.lookup a = some o ∧ o.cls = .type "list" ∧ o.dict = none ∧ o.data = .seq its n ∧ its.size ≤ sizeLine ∧ Vals xs its.toList
def SqT (K : PySem.W.Frag) (H : Hp) (a : Addr) (xs : List V) : Prop :=
  Rd H a (.tup xs) ∨
    ∃ (o : Obj) (its : Array Value) (n : Nat), K.lookup a = some o ∧ o.cls = .type "tuple" ∧ o.data = .seq its n ∧ its.size ≤ sizeLine ∧ Vals xs its.toList
def absV : Value → Option V
  | .none => some .non
  | .bool b => some (.bl b)
  | .int i _ => some (.int i)
  | .str x _ => some (.str x)
  | .bytes b _ => some (.byt b)
  | .float b _ => some (.flt b)
  | .ref a => some (.ref a)
  | .type n => some (.ty n)
  | _ => none
theorem RelV.abs {x : V} {u : Value} (r : RelV x u) : absV u = some x := by
  cases x with
  | non => cases r; rfl
  | bl _ => cases r; rfl
  | int _ => obtain ⟨t, rfl⟩ := r; rfl
  | str _ => obtain ⟨t, rfl⟩ := r; rfl
  | byt _ => obtain ⟨t, rfl⟩ := r; rfl
  | flt _ => obtain ⟨t, rfl⟩ := r; rfl
  | ref _ => cases r; rfl
  | ty _ => cases r; rfl
theorem RelV.inj {x y : V} {u : Value} (r : RelV x u) (q : RelV y u) : x = y := Option.some.inj (r.abs.symm.trans q.abs)
theorem Vals.inj : ∀ {xs ys : List V} {us : List Value}, Vals xs us → Vals ys us → xs = ys
  | _, _, _, .nil, .nil => rfl
  | _, _, _, .cons r t, .cons r' t' => by rw [r.inj r', Vals.inj t t']
section
variable {X : Cx} {pins : List (Addr × Obj)} {σ : St} {H : Hp} {s : Shared} {a : Addr} {xs ys : List V}
theorem SqL.of {K : PySem.W.Frag} (h : H a = some (.lst xs)) : SqL K H a xs := .inl (.inl h)
theorem SqT.of {K : PySem.W.Frag} (h : H a = some (.tup xs)) : SqT K H a xs := .inl (.inl h)
theorem Inv.list (I : Inv X pins σ H s) (h : SqL X.K H a xs) : ∃ its : List Value, Vals xs its ∧ PlainL s.heap a its.toArray ∧ xs.length ≤ sizeLine := by
  rcases h with h | ⟨o, its, n, hk, hc, hd, hs, hz, r⟩
  · obtain ⟨z, its, n, r, e⟩ := h.ok I.hok
    exact ⟨its, r, ⟨_, n, e, rfl, rfl, rfl⟩, z⟩
  · refine ⟨its.toList, r, ⟨o, n, I.kIn a o hk, hc, hd, by simpa using hs⟩, ?_⟩
    have e := r.length
    simp only [Array.length_toList] at e
    omega
theorem Inv.tuple (I : Inv X pins σ H s) (h : SqT X.K H a xs) : ∃ its : List Value, Vals xs its ∧ IsTup s.heap a its.toArray ∧ xs.length ≤ sizeLine := by
  rcases h with h | ⟨o, its, n, hk, hc, hs, hz, r⟩
  · obtain ⟨z, its, r, p⟩ := h.ok I.hok
    exact ⟨its, r, p, z⟩
  · refine ⟨its.toList, r, ⟨o, I.kIn a o hk, hc, n, by simpa using hs⟩, ?_⟩
    have e := r.length
    simp only [Array.length_toList] at e
    omega
theorem Inv.list_inj (I : Inv X pins σ H s) (h : SqL X.K H a xs) (h' : SqL X.K H a ys) : xs = ys := by
  obtain ⟨its, r, ⟨o, n, e, _, _, d⟩, _⟩ := I.list h
  obtain ⟨its', r', ⟨o', n', e', _, _, d'⟩, _⟩ := I.list h'
  rw [e] at e'; cases e'
  rw [d] at d'
  injection d' with d1 _
  have : its = its' := by simpa using congrArg Array.toList d1
  subst this
  exact r.inj r'
theorem Inv.tuple_inj (I : Inv X pins σ H s) (h : SqT X.K H a xs) (h' : SqT X.K H a ys) : xs = ys := by
  obtain ⟨its, r, ⟨o, e, _, n, d⟩, _⟩ := I.tuple h
  obtain ⟨its', r', ⟨o', e', _, n', d'⟩, _⟩ := I.tuple h'
  rw [e] at e'; cases e'
  rw [d] at d'
  injection d' with d1 _
  have : its = its' := by simpa using congrArg Array.toList d1
  subst this
  exact r.inj r'
end

/-! ### another wish about exceptions -/
abbrev Cx.wish (X : Cx) (E : Value → Shared → Prop) : Cx := { X with xe := E }
/-- no exception leaves -/
abbrev Cx.nox (X : Cx) : Cx := X.wish fun _ _ => False
theorem Cx.Ok.wish {X : Cx} (ok : X.Ok) (E : Value → Shared → Prop) : (X.wish E).Ok :=
  ⟨ok.mod, ok.kind, ok.glob, ok.blt, ok.above, ok.inj, ok.has, ok.cab, ok.hd, ok.frames, ok.stk, ok.exf, ok.bs, ok.bsz, ok.noex, ok.exfs, ok.funs, ok.frf⟩
theorem Cx.Ok.unwish {X : Cx} {E : Value → Shared → Prop} (ok : (X.wish E).Ok) : X.Ok :=
  ⟨ok.mod, ok.kind, ok.glob, ok.blt, ok.above, ok.inj, ok.has, ok.cab, ok.hd, ok.frames, ok.stk, ok.exf, ok.bs, ok.bsz, ok.noex, ok.exfs, ok.funs, ok.frf⟩
section
variable {X : Cx} {pins : List (Addr × Obj)} {σ : St} {H : Hp} {s : Shared} {E : Value → Shared → Prop}
theorem Inv.wish (I : Inv X pins σ H s) (E : Value → Shared → Prop) : Inv (X.wish E) pins σ H s := ⟨I.ok.wish E, I.os, I.bare, I.base, I.loc, I.cell, I.free, I.freeC, I.pin, I.hok, I.len⟩
theorem Inv.unwish (I : Inv (X.wish E) pins σ H s) : Inv X pins σ H s := ⟨I.ok.unwish, I.os, I.bare, I.base, I.loc, I.cell, I.free, I.freeC, I.pin, I.hok, I.len⟩
theorem SP.unwish {D : Ends} {f : Flow} {s' : Shared} (h : SP (X.wish E) pins D f s') : SP X pins D f s' := by
  cases f with
  | next => obtain ⟨σ', H', I, q⟩ := h; exact ⟨σ', H', I.unwish, q⟩
  | brk => obtain ⟨σ', H', I, q⟩ := h; exact ⟨σ', H', I.unwish, q⟩
  | cont => obtain ⟨σ', H', I, q⟩ := h; exact ⟨σ', H', I.unwish, q⟩
  | ret u => obtain ⟨v, σ', H', I, r, q⟩ := h; exact ⟨v, σ', H', I.unwish, r, q⟩
theorem PE.nox {e : Expr} {t : TE} (h : PE X.nox e t) : PE X e t := fun pins s σ H Q I hw =>
  wpAny_mono (h pins s σ H Q (I.wish _) hw) (fun _ _ ⟨v, H', I', r, q⟩ => ⟨v, H', I'.unwish, r, q⟩) fun _ _ z => False.elim z
theorem PT.nox {e : Expr} {t : TT} (h : PT X.nox e t) : PT X e t := fun pins s σ H Q I hw =>
  wpAny_mono (h pins s σ H Q (I.wish _) hw) (fun _ _ ⟨H', I', q⟩ => ⟨H', I'.unwish, q⟩) fun _ _ z => False.elim z
theorem PSs.nox {st : List Stmt} {t : TS} (h : PSs X.nox st t) : PSs X st t := fun pins s σ H D I hw =>
  wpAny_mono (h pins s σ H D (I.wish _) hw) (fun _ _ q => q.unwish) fun _ _ z => False.elim z
end

/-! ### blocks and small statements -/
section
variable {X : Cx} {st : Stmt} {rest : List Stmt} {t u : TS} {e : Expr} {te : TE} {pos : Pos}
def tNext : TS := fun D σ H => D.nx σ H
def tSeq (t u : TS) : TS := fun D σ H => t { D with nx := u D } σ H
theorem pss_nil : PSs X [] tNext := fun _ _ σ H _ I h => wpAny_execs_nil ⟨σ, H, I, h⟩
theorem pss_cons (h1 : PS X st t) (h2 : PSs X rest u) : PSs X (st :: rest) (tSeq t u) := by
  intro pins s σ H D I h
  refine wpAny_execs_cons (thn (h1 pins s σ H { D with nx := u D } I h) fun f s1 q => ?_)
  cases f with
  | next =>
    obtain ⟨σ', H', I', q⟩ := q
    exact h2 pins s1 σ' H' D I' q
  | ret v => exact q
  | brk => exact q
  | cont => exact q
theorem pss_one (h1 : PS X st t) : PSs X [st] t := by
  intro pins s σ H D I h
  refine wpAny_execs_cons (thn (h1 pins s σ H D I h) fun f s1 q => ?_)
  cases f with
  | next => exact wpAny_execs_nil q
  | ret v => exact q
  | brk => exact q
  | cont => exact q
def tBreak : TS := fun D σ H => D.bk σ H
def tCont : TS := fun D σ H => D.ct σ H
theorem ps_pass : PS X (.Pass pos) tNext := fun _ _ σ H _ I h => wpAny_Pass ⟨σ, H, I, h⟩
theorem ps_break : PS X (.Break pos) tBreak := fun _ _ σ H _ I h => wpAny_Break ⟨σ, H, I, h⟩
theorem ps_continue : PS X (.Continue pos) tCont := fun _ _ σ H _ I h => wpAny_Continue ⟨σ, H, I, h⟩
/-- in a def's body nothing is shown -/
theorem Inv.quiet {pins : List (Addr × Obj)} {σ : St} {H : Hp} {s : Shared} (I : Inv X pins σ H s) : interactive X.env = false := by simp [interactive, I.ok.kind]
/-- a docstring -/
theorem ps_doc {x j pos pos'} : PS X (.Expr (.Constant (.str x) j pos) pos') tNext := fun _ s σ H _ I h => wpAny_Expr (Calls.Constant_str (show SP X _ _ .next { s with toks := s.toks + 1 } from ⟨σ, H, I.tok _, h⟩)) I.quiet
/-- an expression whose value is dropped -/
def tDrop (te : TE) : TS := fun D σ H => te σ H fun _ H1 => D.nx σ H1
theorem ps_expr (he : PE X e te) (hs : swapsWith e none pos.line X.env = pure false := by rfl) : PS X (.Expr e pos) (tDrop te) := by
  intro pins s σ H D I h
  exact wpAny_Expr_any (thn (he pins s σ H _ I h) fun v s1 ⟨x, H1, I1, r1, q1⟩ => ⟨σ, H1, I1, q1⟩) I.quiet hs
def tRet (te : TE) : TS := fun D σ H => te σ H D.rt
theorem ps_ret (he : PE X e te) : PS X (.Return (some e) pos) (tRet te) := by
  intro pins s σ H D I h
  exact wpAny_Return_some (thn (he pins s σ H _ I h) fun v s1 ⟨x, H1, I1, r1, q1⟩ => ⟨x, σ, H1, I1, r1, q1⟩)
def tRetN : TS := fun D _ H => D.rt .non H
theorem ps_retN : PS X (.Return none pos) tRetN := fun _ _ σ H _ I h => wpAny_Return_none ⟨.non, σ, H, I, rfl, h⟩
def tIfS (c : TT) (t u : TS) : TS := fun D σ H => c σ H fun b H1 => if b = true then t D σ H1 else u D σ H1
theorem ps_if {c : Expr} {a b : List Stmt} {tc : TT} (hc : PT X c tc) (ha : PSs X a t) (hb : PSs X b u) : PS X (.If c a b pos) (tIfS tc t u) := by
  intro pins s σ H D I h
  refine wpAny_If (thn (hc pins s σ H _ I h) fun d s1 ⟨H1, I1, q1⟩ => ?_)
  cases d with
  | true => exact ha pins s1 σ H1 D I1 q1
  | false => exact hb pins s1 σ H1 D I1 q1
/-- code that the proof never comes to -/
def tNever : TS := fun _ _ _ => False
theorem ps_never : PS X st tNever := fun _ _ _ _ _ _ h => h.elim
theorem pss_never {sts : List Stmt} : PSs X sts tNever := fun _ _ _ _ _ _ h => h.elim
end

/-! ### targets -/
abbrev TG := V → St → Hp → (St → Hp → Prop) → Prop
abbrev TGs := List V → St → Hp → (St → Hp → Prop) → Prop
def PG (X : Cx) (target : Expr) (t : TG) : Prop :=
  ∀ (pins : List (Addr × Obj)) (s : Shared) (σ : St) (H : Hp) (v : V) (u : Value) (Q : St → Hp → Prop), Inv X pins σ H s → RelV v u → t v σ H Q →
    wpAny (model X.prog X.w) X.A (assign target X.env u) (fun _ s' => ∃ σ' H', Inv X pins σ' H' s' ∧ Q σ' H') X.xe s
/-- several targets, one after another -/
def PGs (X : Cx) (ts : List Expr) (t : TGs) : Prop :=
  ∀ (pins : List (Addr × Obj)) (s : Shared) (σ : St) (H : Hp) (vs : List V) (us : List Value) (Q : St → Hp → Prop), Inv X pins σ H s → Vals vs us → t vs σ H Q →
    wpAny (model X.prog X.w) X.A (assignInOrder ((assignEach ts X.env).map (·.2)) us) (fun _ s' => ∃ σ' H', Inv X pins σ' H' s' ∧ Q σ' H') X.xe s
/-- o[i] = v, by values -/
abbrev TSet := V → V → V → Hp → (Hp → Prop) → Prop
def PSet (X : Cx) (t : TSet) : Prop :=
  ∀ (pins : List (Addr × Obj)) (s : Shared) (σ : St) (H : Hp) (o i v : V) (ov iv u : Value) (Q : Hp → Prop), Inv X pins σ H s → RelV o ov → RelV i iv → RelV v u → t o i v H Q →
    wpAny (model X.prog X.w) X.A (setItem ov iv u) (fun _ s' => ∃ H', Inv X pins σ H' s' ∧ Q H') X.xe s
/-- a op= b, by values -/
abbrev TIp := V → V → Hp → VK → Prop
def PIp (X : Cx) (op : Operator) (t : TIp) : Prop :=
  ∀ (pins : List (Addr × Obj)) (s : Shared) (σ : St) (H : Hp) (x y : V) (v u : Value) (Q : VK), Inv X pins σ H s → RelV x v → RelV y u → t x y H Q →
    wpAny (model X.prog X.w) X.A (inplaceOp op v u) (EP X pins σ Q) X.xe s
section
variable {X : Cx} {pos : Pos}
def gName (i : Nat) : TG := fun v σ H Q => Q (σ.set i (some v)) H
theorem pg_name {i : Nat} {x : Str} (hN : X.N.Nodup) (hi : X.N[i]? = some x) (hx : Loc X.env.scope x) (hf : X.fn x = true ∨ X.env.scope.names.lookup x = some .local := by first | exact .inl rfl | exact .inr rfl | assumption) : PG X (.Name x pos) (gName i) := by
  intro pins s σ H v u Q I r h
  exact wpAny_assign_Name (store_ok I hN hi hx r (fun s' I' => ⟨_, H, I', h⟩) hf)
def gNil : TGs := fun vs σ H Q => vs = [] ∧ Q σ H
def gCons (t : TG) (u : TGs) : TGs := fun vs σ H Q => ∃ v r, vs = v :: r ∧ t v σ H fun σ' H' => u r σ' H' Q
theorem pgs_nil : PGs X [] gNil := by
  intro pins s σ H vs us Q I r h
  obtain ⟨e, h⟩ := h
  subst e
  cases r
  exact assignInOrder_nil ⟨σ, H, I, h⟩
theorem pgs_cons {e : Expr} {es : List Expr} {t : TG} {u : TGs} (h1 : PG X e t) (h2 : PGs X es u)
    (hs : (assignEach (e :: es) X.env).map (·.2) = assign e X.env :: (assignEach es X.env).map (·.2) := by rfl) : PGs X (e :: es) (gCons t u) := by
  intro pins s σ H vs us Q I r h
  obtain ⟨v, vr, e1, h⟩ := h
  subst e1
  cases r with
  | cons r rr =>
    rw [hs]
    refine assignInOrder_cons (thn (h1 pins s σ H _ _ _ I r h) fun _ s1 ⟨σ1, H1, I1, q1⟩ => ?_)
    exact h2 pins s1 σ1 H1 _ _ Q I1 rr q1
/-- (a, b, ..) = a tuple of that length -/
def gTup (K : PySem.W.Frag) (n : Nat) (t : TGs) : TG := fun v σ H Q => ∃ a xs, v = .ref a ∧ SqT K H a xs ∧ xs.length = n ∧ t xs σ H Q
theorem pg_tup {es : List Expr} {k : Nat} {t : TGs} {n : Nat} (hc : X.calm = true) (h : PGs X es t)
    (hn : (assignEach es X.env).length = n := by rfl) (hst : (assignEach es X.env).findIdx? (·.1) = none := by rfl) : PG X (.Tuple es k pos) (gTup X.K n t) := by
  intro pins s σ H v u Q I r hw
  obtain ⟨a, xs, e1, hq, hl, hw⟩ := hw
  subst e1
  cases r
  obtain ⟨its, rv, ht, hz⟩ := I.tuple hq
  refine assign_Tuple_tuple (I.ok.hd hc) ht (by simp [hn, ← hl, rv.length]) hst fun h' hx => ?_
  have I1 : Inv X pins σ H { s with heap := h' } := I.kept (t' := s.toks) fun b o e => hx b o (Nat.ne_of_lt (Heap.lt_size e)) e
  exact h pins _ σ H xs _ Q I1 (by simpa using rv) hw
/-- o[i] = .. -/
def gSub (to ti : TE) (t : TSet) : TG := fun v σ H Q => to σ H fun o H1 => ti σ H1 fun i H2 => t o i v H2 fun H3 => Q σ H3
theorem pg_sub {o i : Expr} {to ti : TE} {t : TSet} (ho : PE X o to) (hi : PE X i ti) (hs : PSet X t)
    (ha : ∀ v, assign (.Subscript o i pos) X.env v = (do
      let ov ← holding [v] (eval o X.env)
      let iv ← holding [v, ov] (eval i X.env)
      standAt pos
      holding [v, ov, iv] (setItem ov iv v)
      release [v, ov, iv] []) := by intro _; rfl) : PG X (.Subscript o i pos) (gSub to ti t) := by
  intro pins s σ H v u Q I r h
  rw [ha]
  refine wpAny_bind (wpAny_holding (thn (ho pins s σ H _ I h) fun ov s1 ⟨x, H1, I1, r1, q1⟩ => ?_))
  refine wpAny_bind (wpAny_holding (thn (hi pins s1 σ H1 _ I1 q1) fun iv s2 ⟨y, H2, I2, r2, q2⟩ => ?_))
  refine wpAny_bind (wpAny_standAt (wpAny_bind (wpAny_holding (thn (hs pins s2 σ H2 x y v ov iv u _ I2 r1 r2 r q2) fun _ s3 ⟨H3, I3, q3⟩ => ?_))))
  exact wpAny_release ⟨σ, H3, I3, q3⟩
/-- target = value -/
def tAsg (te : TE) (g : TG) : TS := fun D σ H => te σ H fun x H1 => g x σ H1 D.nx
theorem ps_asg {tg e : Expr} {te : TE} {g : TG} (he : PE X e te) (hg : PG X tg g) (hs : swapsWithSole [tg] e pos.line X.env = pure false := by rfl) (hw : swappedStores [tg] e X.env = pure none := by rfl)
    (h1 : (assignEach [tg] X.env).map (·.2) = [assign tg X.env] := by rfl) : PS X (.Assign [tg] e pos) (tAsg te g) := by
  intro pins s σ H D I h
  refine wpAny_Assign_stores (thn (he pins s σ H _ I h) fun v s1 ⟨x, H1, I1, r1, q1⟩ => ?_) hs hw
  rw [h1]
  exact thn (hg pins s1 σ H1 x v _ I1 r1 q1) fun _ s2 q => q
/-- name = value -/
theorem ps_set {i : Nat} {x : Str} {e : Expr} {te : TE} {pos' : Pos} (hN : X.N.Nodup) (hi : X.N[i]? = some x) (hx : Loc X.env.scope x) (he : PE X e te) (hs : swapsWith e (some (.Name x pos')) pos.line X.env = pure false := by rfl) (hf : X.fn x = true ∨ X.env.scope.names.lookup x = some .local := by first | exact .inl rfl | exact .inr rfl | assumption) :
    PS X (.Assign [.Name x pos'] e pos) (tAsg te (gName i)) := by
  intro pins s σ H D I h
  refine wpAny_Assign_Name (thn (he pins s σ H _ I h) fun v s1 ⟨y, H1, I1, r1, q1⟩ => ?_) hs
  exact store_ok I1 hN hi hx r1 (fun s2 I2 => ⟨_, H1, I2, q1⟩) hf
/-- a, b = x, y with plain local names: stored from the right; the pair itself is not tracked (the opening rows as in PyProof/Rows/TupAssign.lean:23) -/
def tPar (i j : Nat) (ta : TA) : TS := fun D σ H => ta σ H fun vs H1 => ∃ v w, vs = [v, w] ∧ D.nx ((σ.set i (some v)).set j (some w)) H1
theorem ps_par {i j : Nat} {x y : Str} {a b : Expr} {ta : TA} {px py pt : Pos} {kt k2 pt2} (hc : X.calm = true) (hN : X.N.Nodup) (hi : X.N[i]? = some x) (hj : X.N[j]? = some y) (hij : i ≠ j)
    (hx : X.env.scope.names.lookup x = some .local) (hy : X.env.scope.names.lookup y = some .local) (ha : PA X [a, b] ta)
    (hw : swappedStores [.Tuple [.Name x px, .Name y py] kt pt] (.Tuple [a, b] k2 pt2) X.env = pure (some [x, y]))
    (hs : swapsWithSole [.Tuple [.Name x px, .Name y py] kt pt] (.Tuple [a, b] k2 pt2) pos.line X.env = pure false := by rfl) :
    PS X (.Assign [.Tuple [.Name x px, .Name y py] kt pt] (.Tuple [a, b] k2 pt2) pos) (tPar i j ta) := by
  intro pins s σ H D I h
  rw [exec_Assign_arm]
  refine wpAny_bind (wpAny_standAt ?_)
  rw [hs]
  refine wpAny_bind (wpAny_pure ?_)
  rw [if_neg (by decide)]
  refine wpAny_bind (Tuple_ (thn (ha _ pins s σ H _ I h) fun us s1 ⟨vs, H1, I1, r1, q1⟩ => ?_))
  obtain ⟨v, w, e1, q1⟩ := q1
  subst e1
  obtain ⟨u1, u2, rfl, rv, rw'⟩ : ∃ u1 u2, us = [u1, u2] ∧ RelV v u1 ∧ RelV w u2 := by
    cases r1 with
    | cons p q =>
      cases q with
      | cons p' q' =>
        cases q'
        exact ⟨_, _, rfl, p, p'⟩
  refine wpAny_newObj_type ?_ (by show 2 ≤ sizeLine; decide)
  have I2 : Inv X pins σ H1 { s1 with heap := s1.heap.push { cls := .type "tuple", data := .seq [u1, u2].toArray } } := I1.kept (t' := s1.toks) fun b o e => Heap.get?_push_of_some _ e
  rw [hw]
  refine wpAny_bind (wpAny_pure ?_)
  show wpAny (model X.prog X.w) X.A (do rule "assign.swapped-stores"; let items ← unpackItems (.ref s1.heap.objs.size) 2 none; assignInOrder [fun v => bindName X.env y v, fun v => bindName X.env x v] items.reverse; pure Flow.next) _ _ _
  refine wpAny_bind (wpAny_rule (wpAny_bind (unpackItems_tuple (items := #[u1, u2]) (I.ok.hd hc) (IsTup.new s1.heap _) fun h' hx' => ?_)))
  have I3 := I2.kept (h' := h') (t' := s1.toks) fun b o e => hx' b o (Nat.ne_of_lt (Heap.lt_size e)) e
  show wpAny _ _ (assignInOrder [fun v => bindName X.env y v, fun v => bindName X.env x v] [u2, u1] >>= fun _ => pure Flow.next) _ _ _
  refine wpAny_bind (assignInOrder_cons (wpAny_bindName (store_ok I3 hN hj (.inl hy) rw' (fun s2 I4 => ?_) (.inr hy))))
  refine assignInOrder_cons (wpAny_bindName (store_ok I4 hN hi (.inl hx) rv (fun s3 I5 => assignInOrder_nil (wpAny_pure ?_)) (.inr hx)))
  rw [List.set_comm _ _ (Ne.symm hij)] at I5
  exact ⟨_, H1, I5, q1⟩
/-- name op= e -/
def tAug (i : Nat) (te : TE) (ti : TIp) : TS := fun D σ H => ∃ x, σ[i]? = some (some x) ∧ te σ H fun y H1 => ti x y H1 fun z H2 => D.nx (σ.set i (some z)) H2
theorem ps_aug {i : Nat} {x : Str} {e : Expr} {te : TE} {op : Operator} {ti : TIp} {pos' : Pos} (hN : X.N.Nodup) (hi : X.N[i]? = some x) (hx : Loc X.env.scope x) (he : PE X e te) (ho : PIp X op ti) (hf : X.fn x = true ∨ X.env.scope.names.lookup x = some .local := by first | exact .inl rfl | exact .inr rfl | assumption) :
    PS X (.AugAssign (.Name x pos') op e pos) (tAug i te ti) := by
  intro pins s σ H D I h
  obtain ⟨v, e1, h⟩ := h
  obtain ⟨m, hn, hl⟩ := I.loc
  have vis : Vis X.env.scope x := by rcases hx with k | k; exact .inl k; exact .inr (.inl k)
  obtain ⟨u, r, l⟩ := hl i x v hi e1 vis
  refine wpAny_AugAssign_Name ?_
  have go : wpAny (model X.prog X.w) X.A (eval e X.env) (fun w s₂ => wpAny (model X.prog X.w) X.A (inplaceOp op u w) (fun r s₃ => wpAny (model X.prog X.w) X.A (storeName X.env x r) (fun _ => SP X pins D .next) X.xe s₃) X.xe s₂) X.xe s := by
    refine thn (he pins s σ H _ I h) fun w s1 ⟨y, H1, I1, r1, q1⟩ => ?_
    refine thn (ho pins s1 σ H1 v y u w _ I1 r r1 q1) fun z s2 ⟨zv, H2, I2, r2, q2⟩ => ?_
    exact store_ok I2 hN hi hx r2 (fun s3 I3 => ⟨_, H2, I3, q2⟩) hf
  rcases l with ⟨hk, hm⟩ | ⟨hk, c, hc, hcell⟩
  · exact wpAny_loadName_local I.ok.kind hk hn hm go
  · rcases hk with hk | hk
    · exact wpAny_loadName_cell I.ok.kind hk hc hcell go
    · rcases hx with k | k
      · have : X.env.scope.names.lookup x = some .free := hk
        rw [k] at this; cases this
      · have : X.env.scope.names.lookup x = some .free := hk
        rw [k] at this; cases this
/-- o[i] op= e -/
def tAugS (to ti te : TE) (tget : V → V → Hp → VK → Prop) (tip : TIp) (tset : TSet) : TS := fun D σ H => to σ H fun o H1 => ti σ H1 fun i H2 => tget o i H2 fun x H3 => te σ H3 fun y H4 => tip x y H4 fun z H5 => tset o i z H5 fun H6 => D.nx σ H6
/-- o[i], by values -/
def PGet (X : Cx) (t : V → V → Hp → VK → Prop) : Prop :=
  ∀ (pins : List (Addr × Obj)) (s : Shared) (σ : St) (H : Hp) (o i : V) (ov iv : Value) (Q : VK), Inv X pins σ H s → RelV o ov → RelV i iv → t o i H Q →
    wpAny (model X.prog X.w) X.A (getItem ov iv) (EP X pins σ Q) X.xe s
theorem ps_augS {o i e : Expr} {to ti te : TE} {tget : V → V → Hp → VK → Prop} {tip : TIp} {tset : TSet} {op : Operator} {tpos : Pos} (ho : PE X o to) (hi : PE X i ti) (hg : PGet X tget) (he : PE X e te) (hp : PIp X op tip) (hs : PSet X tset)
    (ha : ∀ ov iv new, augStore i ov iv new = (do holding [new, ov, iv] (setItem ov iv new); release [new, ov, iv] []; pure .next) := by intros; rfl) : PS X (.AugAssign (.Subscript o i tpos) op e pos) (tAugS to ti te tget tip tset) := by
  intro pins s σ H D I h
  refine wpAny_AugAssign_SubscriptAny (thn (ho pins s σ H _ I h) fun ov s1 ⟨x1, H1, I1, r1, q1⟩ => ?_) ha
  refine thn (hi pins s1 σ H1 _ I1 q1) fun iv s2 ⟨x2, H2, I2, r2, q2⟩ => ?_
  refine thn (hg pins s2 σ H2 x1 x2 ov iv _ I2 r1 r2 q2) fun old s3 ⟨x3, H3, I3, r3, q3⟩ => ?_
  refine thn (he pins s3 σ H3 _ I3 q3) fun v s4 ⟨x4, H4, I4, r4, q4⟩ => ?_
  refine thn (hp pins s4 σ H4 x3 x4 old v _ I4 r3 r4 q4) fun new s5 ⟨x5, H5, I5, r5, q5⟩ => ?_
  exact thn (hs pins s5 σ H5 x1 x2 x5 ov iv new _ I5 r1 r2 r5 q5) fun _ s6 ⟨H6, I6, q6⟩ => ⟨σ, H6, I6, q6⟩
/-- ints -/
def ipI (f : Int → Int → Int) : TIp := fun x y H Q => ∃ i j, x = .int i ∧ y = .int j ∧ Q (.int (f i j)) H
theorem ip_add : PIp X .Add (ipI fun i j => i + j) := by
  intro pins s σ H x y v u Q I r1 r2 h
  obtain ⟨i, j, e1, e2, q⟩ := h
  subst e1; subst e2
  obtain ⟨t, rfl⟩ := r1
  obtain ⟨t', rfl⟩ := r2
  exact iadd_int ⟨.int _, H, I.tok _, ⟨_, rfl⟩, q⟩
theorem ip_sub : PIp X .Sub (ipI fun i j => i - j) := by
  intro pins s σ H x y v u Q I r1 r2 h
  obtain ⟨i, j, e1, e2, q⟩ := h
  subst e1; subst e2
  obtain ⟨t, rfl⟩ := r1
  obtain ⟨t', rfl⟩ := r2
  exact isub_int ⟨.int _, H, I.tok _, ⟨_, rfl⟩, q⟩
end

/-! ### while -/
section
variable {X : Cx} {pos : Pos}
/-- the invariant W with its measure -/
def tWhile (c : TT) (tb : TS) : TS := fun D σ H => ∃ W : Nat → St → Hp → Prop, (∃ m, W m σ H) ∧ ∀ m σ H, W m σ H →
  c σ H fun b H1 => if b = true then ∃ N : St → Hp → Prop, (∀ σ' H', N σ' H' → ∃ m', m' < m ∧ W m' σ' H') ∧ tb { D with nx := N, ct := N, bk := D.nx } σ H1 else D.nx σ H1
theorem ps_while {c : Expr} {body : List Stmt} {tc : TT} {tb : TS} (hp : PassesOwn (model X.prog X.w) X.A X.env X.xe) (hc : PT X c tc) (hb : PSs X body tb) : PS X (.While c body [] pos) (tWhile tc tb) := by
  intro pins s σ H D I h
  obtain ⟨W, ⟨m0, w0⟩, turn⟩ := h
  refine wpAny_While (codeAny_whileLoop (fun n s' => ∃ σ' H', Inv X pins σ' H' s' ∧ W n σ' H') ?_ m0 ⟨σ, H, I, w0⟩)
  rintro n s1 ⟨σ1, H1, I1, w1⟩
  refine wpAny_passesOwn hp (thn (hc pins s1 σ1 H1 _ I1 (turn n σ1 H1 w1)) fun b s2 ⟨H2, I2, q2⟩ => ?_)
  cases b with
  | true =>
    obtain ⟨N, hN, q2⟩ := q2
    rw [if_pos rfl]
    refine wpAny_passesOwn hp (thn (hb pins s2 σ1 H2 _ I2 q2) fun f s3 q3 => ?_)
    cases f with
    | next =>
      obtain ⟨σ3, H3, I3, n3⟩ := q3
      obtain ⟨m', hm, w3⟩ := hN σ3 H3 n3
      exact ⟨m', hm, σ3, H3, I3, w3⟩
    | cont =>
      obtain ⟨σ3, H3, I3, n3⟩ := q3
      obtain ⟨m', hm, w3⟩ := hN σ3 H3 n3
      exact ⟨m', hm, σ3, H3, I3, w3⟩
    | brk => exact q3
    | ret v => exact q3
  | false =>
    rw [if_neg Bool.false_ne_true]
    exact wpAny_execs_nil ⟨σ1, H2, I2, q2⟩
end

/-! ### what a loop or a comprehension walks -/
/-- at turn i: it yields x (the heap may grow), or it stops -/
structure It where
  go : Nat → Hp → Prop
  yld : Nat → Hp → V → Hp → Prop
  stop : Nat → Hp → Prop
/-- the iterator's own objects may turn: they are not the frame's, not pinned, younger than the entry (or a comprehension's own) -/
def FpOk (X : Cx) (pins : List (Addr × Obj)) (H : Hp) (b : Addr) : Prop :=
  H b = none ∧ b ≠ X.env.locals ∧ b ∉ X.fs ∧ (b ∈ X.ex ∨ X.s₀.heap.objs.size ≤ b) ∧ (∀ x c, X.env.cells.lookup x = some c → c ≠ b) ∧ ∀ p ∈ X.pn ++ pins, p.1 ≠ b
theorem Inv.fpOk {X : Cx} {pins : List (Addr × Obj)} {σ : St} {H H' : Hp} {s : Shared} {b : Addr} (I : Inv X pins σ H s) (hb : s.heap.objs.size ≤ b) (hn : H' b = none) : FpOk X pins H' b := by
  refine ⟨hn, Nat.ne_of_gt (Nat.lt_of_lt_of_le I.lt hb), I.nofs hb, .inr (Nat.le_trans I.sz hb), fun x c e z => ?_, fun p hp z => ?_⟩
  · obtain ⟨v, q⟩ := I.cell x c e
    exact absurd (Nat.lt_of_lt_of_le q.lt (by rw [z]; exact hb)) (Nat.lt_irrefl _)
  · exact absurd (Nat.lt_of_lt_of_le (Heap.lt_size (I.pin p hp).1) (by rw [z]; exact hb)) (Nat.lt_irrefl _)
structure Turn (P : Program) (w : World) (K : PySem.W.Frag) (tg : Expr) (J : It) (fp : List Addr) (it : Addr) (tn : Nat → Heap → Prop) : Prop where
  mem : it ∈ fp
  obj : ∀ i h, tn i h → ∀ b ∈ fp, ∃ o, h.get? b = some o ∧ ∀ v, o.data ≠ .cell v
  keep : ∀ i h h', tn i h → (∀ b ∈ fp, ∀ o, h.get? b = some o → h'.get? b = some o) → tn i h'
  item : ∀ (X : Cx), X.prog = P → X.w = w → X.K = K → X.calm = true → ∀ (i : Nat) (pins : List (Addr × Obj)) (s : Shared) (σ : St) (H : Hp) (E : Value → Shared → Prop), Inv X pins σ H s → (∀ b ∈ fp, FpOk X pins H b) → tn i s.heap → J.go i H →
    wpAny (model P w) X.A (pyNext (.ref it)) (fun r s1 => ∃ u, r = some u ∧
      wpAny (model P w) X.A (letOwnedTupleGo tg (.ref it) u) (fun _ s2 => ∃ x H', Inv X pins σ H' s2 ∧ RelV x u ∧ J.yld i H x H' ∧ tn (i + 1) s2.heap ∧ ∀ b ∈ fp, H' b = none) E s1) E s
  done : ∀ (X : Cx), X.prog = P → X.w = w → X.K = K → X.calm = true → ∀ (i : Nat) (pins : List (Addr × Obj)) (s : Shared) (σ : St) (H : Hp) (E : Value → Shared → Prop), Inv X pins σ H s → (∀ b ∈ fp, FpOk X pins H b) → tn i s.heap → J.stop i H →
    wpAny (model P w) X.A (pyNext (.ref it)) (fun r s1 => r = none ∧ Inv X pins σ H s1) E s
  self : ∀ (A : Around) (i : Nat) (s : Shared) (Q : Value → Shared → Prop) (E : Value → Shared → Prop), tn i s.heap → Q (.ref it) s → wpAny (model P w) A (pyIter (.ref it)) Q E s
abbrev TI := St → Hp → (It → Hp → Prop) → Prop
/-- an iterator has come -/
def PIE (X : Cx) (pins : List (Addr × Obj)) (σ : St) (tg : Expr) (R : It → Hp → Prop) (itv : Value) (s2 : Shared) : Prop :=
  ∃ (it : Addr) (fp : List Addr) (tn : Nat → Heap → Prop) (J : It) (H' : Hp), itv = .ref it ∧ Inv X pins σ H' s2 ∧ Turn X.prog X.w X.K tg J fp it tn ∧ tn 0 s2.heap ∧ (∀ b ∈ fp, FpOk X pins H' b) ∧ R J H'
def PI (X : Cx) (tg iter : Expr) (wi : TI) : Prop :=
  ∀ (pins : List (Addr × Obj)) (s : Shared) (σ : St) (H : Hp) (R : It → Hp → Prop), Inv X pins σ H s → wi σ H R →
    wpAny (model X.prog X.w) X.A (eval iter X.env) (fun v s1 => wpAny (model X.prog X.w) X.A (pyIter v) (PIE X pins σ tg R) X.xe s1) X.xe s

/-- the step ahead of the store is nothing for an iterator that keeps no tuple -/
theorem go_of {M : Model} {A : Around} {E : Value → Shared → Prop} {s : Shared} {tg : Expr} {it : Addr} {u : Value} {o : Obj} {n : String} {vs : Array Value} {Q : Unit → Shared → Prop} (ho : s.heap.get? it = some o) (hc : o.cls = .type n) (hd : o.data = .fields vs)
    (hn : ["enumerate", "zip", "dict_itemiterator", "dict_reverseitemiterator", "odict_iterator", "itertools.zip_longest", "itertools.pairwise"].contains n = false) (hQ : Q () s) : wpAny M A (letOwnedTupleGo tg (.ref it) u) Q E s := by
  unfold letOwnedTupleGo
  cases tg <;> first
    | exact wpAny_pure hQ
    | (cases u <;> first
        | exact wpAny_pure hQ
        | (refine wpAny_bind (wpAny_load ho ?_)
           rw [hc, hd]
           show wpAny M A (if (["enumerate", "zip", "dict_itemiterator", "dict_reverseitemiterator", "odict_iterator", "itertools.zip_longest", "itertools.pairwise"].contains n && vs[0]? == some (rawInt _)) = true then _ else _) Q E s
           rw [if_neg (by intro h; rw [hn, Bool.false_and] at h; cases h)]
           exact wpAny_pure hQ))

/-- the list at a, as it stands at each turn (a loop may append to it) -/
def Itl (K : PySem.W.Frag) (a : Addr) : It :=
  ⟨fun i H => ∃ xs x, SqL K H a xs ∧ xs[i]? = some x, fun i H x H' => H' = H ∧ ∀ xs, SqL K H a xs → xs[i]? = some x, fun i H => ∃ xs, SqL K H a xs ∧ xs.length ≤ i⟩
def Itt (K : PySem.W.Frag) (a : Addr) : It :=
  ⟨fun i H => ∃ xs x, SqT K H a xs ∧ xs[i]? = some x, fun i H x H' => H' = H ∧ ∀ xs, SqT K H a xs → xs[i]? = some x, fun i H => ∃ xs, SqT K H a xs ∧ xs.length ≤ i⟩
/-- lo, lo + 1, .. (n of them) -/
def Itr (lo : Int) (n : Nat) : It := ⟨fun i _ => i < n, fun i H x H' => H' = H ∧ x = .int (lo + i), fun i _ => n ≤ i⟩
theorem turn_list {P : Program} {w : World} {K : PySem.W.Frag} {tg : Expr} (a it : Addr) : Turn P w K tg (Itl K a) [it] it (fun i h => h.IsListIter it a i) where
  mem := by simp
  obj := fun i h st b hb => by
    have e : b = it := by simpa using hb
    subst e
    obtain ⟨o, e, c, d⟩ := st
    exact ⟨o, e, fun v z => by rw [d] at z; cases z⟩
  keep := fun i h h' st k => st.at fun o e => k it (by simp) o e
  item := by
    intro X hP hw hK hc i pins s σ H E I hf st hg
    subst hP hw hK
    obtain ⟨xs, x, hq, hx⟩ := hg
    obtain ⟨its, rv, p, hz⟩ := I.list hq
    obtain ⟨u, hu, ru⟩ := rv.get hx
    obtain ⟨f0, f1, f2, f3, f4, f5⟩ := hf it (by simp)
    refine wpAny_pyNext_list_item st p.isList (x := u) (by simpa using hu) fun h' st' sb => ?_
    have I1 : Inv X pins σ H { s with heap := h' } := I.turned (t' := s.toks) (fun b o hb e => (sb.2 b hb).trans e) f0 f1 f3 f4 f5
    obtain ⟨o, e, c, d⟩ := id st'
    exact ⟨u, rfl, go_of (s := { s with heap := h' }) e c d (by decide) ⟨x, H, I1, ru, ⟨rfl, fun ys hy => by rw [I.list_inj hy hq]; exact hx⟩, st', fun b hb => (hf b hb).1⟩⟩
  done := by
    intro X hP hw hK hc i pins s σ H E I hf st hg
    subst hP hw hK
    obtain ⟨xs, hq, hx⟩ := hg
    obtain ⟨its, rv, p, hz⟩ := I.list hq
    obtain ⟨f0, f1, f2, f3, f4, f5⟩ := hf it (by simp)
    have hl := rv.length
    exact wpAny_pyNext_list_end (I.ok.hd hc) st p.isList (by simp; omega) fun h' eb => ⟨rfl, I.turned (t' := s.toks) (fun b o hb e => eb b o hb e) f0 f1 f3 f4 f5⟩
  self := fun _ _ _ _ _ st h => wpAny_pyIter_listiter st h
theorem turn_tuple {P : Program} {w : World} {K : PySem.W.Frag} {tg : Expr} (a it : Addr) : Turn P w K tg (Itt K a) [it] it (fun i h => h.IsTupleIter it a i) where
  mem := by simp
  obj := fun i h st b hb => by
    have e : b = it := by simpa using hb
    subst e
    obtain ⟨o, e, c, d⟩ := st
    exact ⟨o, e, fun v z => by rw [d] at z; cases z⟩
  keep := fun i h h' st k => st.at fun o e => k it (by simp) o e
  item := by
    intro X hP hw hK hc i pins s σ H E I hf st hg
    subst hP hw hK
    obtain ⟨xs, x, hq, hx⟩ := hg
    obtain ⟨its, rv, p, hz⟩ := I.tuple hq
    obtain ⟨u, hu, ru⟩ := rv.get hx
    obtain ⟨f0, f1, f2, f3, f4, f5⟩ := hf it (by simp)
    refine wpAny_pyNext_tuple_item st (show s.heap.IsTuple a its.toArray from p) (x := u) (by simpa using hu) fun h' st' sb => ?_
    have I1 : Inv X pins σ H { s with heap := h' } := I.turned (t' := s.toks) (fun b o hb e => (sb.2 b hb).trans e) f0 f1 f3 f4 f5
    obtain ⟨o, e, c, d⟩ := id st'
    exact ⟨u, rfl, go_of (s := { s with heap := h' }) e c d (by decide) ⟨x, H, I1, ru, ⟨rfl, fun ys hy => by rw [I.tuple_inj hy hq]; exact hx⟩, st', fun b hb => (hf b hb).1⟩⟩
  done := by
    intro X hP hw hK hc i pins s σ H E I hf st hg
    subst hP hw hK
    obtain ⟨xs, hq, hx⟩ := hg
    obtain ⟨its, rv, p, hz⟩ := I.tuple hq
    obtain ⟨f0, f1, f2, f3, f4, f5⟩ := hf it (by simp)
    have hl := rv.length
    exact wpAny_pyNext_tuple_end (I.ok.hd hc) st (show s.heap.IsTuple a its.toArray from p) (by simp; omega) fun h' eb => ⟨rfl, I.turned (t' := s.toks) (fun b o hb e => eb b o hb e) f0 f1 f3 f4 f5⟩
  self := fun _ _ _ _ _ st h => wpAny_pyIter_tupleiter st h
theorem turn_range {P : Program} {w : World} {K : PySem.W.Frag} {tg : Expr} (it : Addr) (lo : Int) (n : Nat) : Turn P w K tg (Itr lo n) [it] it (fun i h => IsRangeIter h it (lo + (i : Nat) * 1) ((n : Int) - (i : Nat)) 1) where
  mem := by simp
  obj := fun i h st b hb => by
    have e : b = it := by simpa using hb
    subst e
    exact ⟨_, st, fun v z => by
      have z' : Data.fields _ = Data.cell v := z
      cases z'⟩
  keep := fun i h h' st k => k it (by simp) _ st
  item := by
    intro X hP hw hK hc i pins s σ H E I hf st hg
    subst hP hw hK
    obtain ⟨f0, f1, f2, f3, f4, f5⟩ := hf it (by simp)
    have W := Walks.range (prog := X.prog) (w := X.w) (I.ok.hd hc) it lo 1 n
    refine W.item i s _ _ hg st fun v h' tk hv st' kk => ?_
    obtain ⟨t, rfl⟩ := hv
    have I1 : Inv X pins σ H { s with heap := h', toks := tk } := I.turned (fun b o hb e => kk b o (by simpa using hb) e) f0 f1 f3 f4 f5
    refine ⟨_, rfl, go_of (s := { s with heap := h', toks := tk }) (n := "range_iterator") st' rfl rfl (by decide) ⟨.int (lo + i), H, I1, ⟨t, ?_⟩, ⟨rfl, rfl⟩, st', fun b hb => (hf b hb).1⟩⟩
    rw [Int.mul_one]
  done := by
    intro X hP hw hK hc i pins s σ H E I hf st hg
    subst hP hw hK
    obtain ⟨f0, f1, f2, f3, f4, f5⟩ := hf it (by simp)
    exact wpAny_pyNext_range_end (I.ok.hd hc) st (by have : n ≤ i := hg; omega) fun h' eb => ⟨rfl, I.turned (t' := s.toks) (fun b o hb e => eb b o hb e) f0 f1 f3 f4 f5⟩
  self := fun _ _ _ _ _ st h => wpAny_pyIter_rangeiter st h
end L2

namespace L2
open PySem PySem.Spec PyProof.Rows
section
variable {X : Cx} {tg : Expr}
def iList (K : PySem.W.Frag) (tl : TE) : TI := fun σ H R => tl σ H fun x H1 => ∃ a, x = .ref a ∧ (∃ xs, SqL K H1 a xs) ∧ R (Itl K a) H1
def iTup (K : PySem.W.Frag) (tl : TE) : TI := fun σ H R => tl σ H fun x H1 => ∃ a, x = .ref a ∧ (∃ xs, SqT K H1 a xs) ∧ R (Itt K a) H1
theorem pi_list {l : Expr} {tl : TE} (hl : PE X l tl) : PI X tg l (iList X.K tl) := by
  intro pins s σ H R I h
  refine thn (hl pins s σ H _ I h) fun v s1 ⟨x, H1, I1, r1, q1⟩ => ?_
  obtain ⟨a, e, ⟨xs, hq⟩, q⟩ := q1
  subst e
  cases r1
  obtain ⟨its, rv, p, hz⟩ := I1.list hq
  refine wpAny_pyIter_list p.isList ?_
  refine ⟨s1.heap.objs.size, [s1.heap.objs.size], _, _, H1, rfl, I1.kept (t' := s1.toks) fun b o e => Heap.get?_push_of_some _ e, turn_list a _, ⟨_, Heap.get?_push_size _ rfl, rfl, rfl⟩, fun b hb => ?_, q⟩
  have e : b = s1.heap.objs.size := by simpa using hb
  subst e
  exact I1.fpOk (Nat.le_refl _) (I1.hok.fresh (Nat.le_refl _))
theorem pi_tup {l : Expr} {tl : TE} (hl : PE X l tl) : PI X tg l (iTup X.K tl) := by
  intro pins s σ H R I h
  refine thn (hl pins s σ H _ I h) fun v s1 ⟨x, H1, I1, r1, q1⟩ => ?_
  obtain ⟨a, e, ⟨xs, hq⟩, q⟩ := q1
  subst e
  cases r1
  obtain ⟨its, rv, p, hz⟩ := I1.tuple hq
  refine wpAny_pyIter_tuple (show s1.heap.IsTuple a its.toArray from p) ?_
  refine ⟨s1.heap.objs.size, [s1.heap.objs.size], _, _, H1, rfl, I1.kept (t' := s1.toks) fun b o e => Heap.get?_push_of_some _ e, turn_tuple a _, ⟨_, Heap.get?_push_size _ rfl, rfl, rfl⟩, fun b hb => ?_, q⟩
  have e : b = s1.heap.objs.size := by simpa using hb
  subst e
  exact I1.fpOk (Nat.le_refl _) (I1.hok.fresh (Nat.le_refl _))
/-- a range object just made, walked -/
theorem range_it {pins : List (Addr × Obj)} {σ : St} {H : Hp} {s : Shared} {R : It → Hp → Prop} {E : Value → Shared → Prop} {lo hi : Int} {t u v : Tok} {tk : Nat} (I : Inv X pins σ H s) (h1 : -(2 ^ 62) ≤ lo) (h2 : lo < 2 ^ 62) (h3 : -(2 ^ 62) ≤ hi) (h4 : hi < 2 ^ 62)
    (q : R (Itr lo (hi - lo).toNat) H) : wpAny (model X.prog X.w) X.A (pyIter (.ref s.heap.objs.size)) (PIE X pins σ tg R) E { s with heap := s.heap.push { cls := .type "range", data := .fields #[.int lo t, .int hi u, .int 1 v] }, toks := tk } := by
  refine wpAny_pyIter_range (IsRange.new ..) (small_one h1 h2 h3 h4) ?_
  have I1 : Inv X pins σ H { s with heap := s.heap.push { cls := .type "range", data := .fields #[.int lo t, .int hi u, .int 1 v] }, toks := tk } := I.kept fun b o e => Heap.get?_push_of_some _ e
  refine ⟨(s.heap.push { cls := .type "range", data := .fields #[.int lo t, .int hi u, .int 1 v] }).objs.size, [(s.heap.push { cls := .type "range", data := .fields #[.int lo t, .int hi u, .int 1 v] }).objs.size], _, _, H, rfl,
    I1.kept (t' := tk) fun b o e => Heap.get?_push_of_some _ e, turn_range _ lo (hi - lo).toNat, ?_, fun b hb => ?_, q⟩
  · have e1 : lo + ((0 : Nat) : Int) * 1 = lo := by simp
    have e2 : (((hi - lo).toNat : Nat) : Int) - ((0 : Nat) : Int) = Builtin.Range.rangeSize lo hi 1 := by rw [rangeSize_one]; split <;> omega
    show IsRangeIter _ _ (lo + ((0 : Nat) : Int) * 1) ((((hi - lo).toNat : Nat) : Int) - ((0 : Nat) : Int)) 1
    rw [e1, e2]
    exact Heap.get?_push_size _ rfl
  · have e : b = (s.heap.push { cls := .type "range", data := .fields #[.int lo t, .int hi u, .int 1 v] }).objs.size := by simpa using hb
    subst e
    exact I1.fpOk (Nat.le_refl _) (I1.hok.fresh (Nat.le_refl _))
def iRng1 (ta : TA) : TI := fun σ H R => ta σ H fun vs H1 => ∃ j : Int, vs = [.int j] ∧ -(2 ^ 62) ≤ j ∧ j < 2 ^ 62 ∧ R (Itr 0 j.toNat) H1
def iRng2 (ta : TA) : TI := fun σ H R => ta σ H fun vs H1 => ∃ i j : Int, vs = [.int i, .int j] ∧ (-(2 ^ 62) ≤ i ∧ i < 2 ^ 62 ∧ -(2 ^ 62) ≤ j ∧ j < 2 ^ 62) ∧ R (Itr i (j - i).toNat) H1
theorem pi_range1 {a : Expr} {ta : TA} {p pos : Pos} (hg : Gl X "range") (hm : X.mg "range" = none) (ha : PA X [a] ta) (hs : starEach [a] X.env = [(false, eval a X.env)] := by rfl) : PI X tg (.Call (.Name "range" p) [a] [] pos) (iRng1 ta) := by
  intro pins s σ H R I h
  refine Call_ (ld_blt I hg hm boot_range (PyProof.Rows.callWith_type1 (thn (ha pos pins s σ H _ I h) fun us s1 ⟨vs, H1, I1, r1, q1⟩ => ?_) hs rfl))
  obtain ⟨j, e, q1, q2, q⟩ := q1
  subst e
  cases r1 with
  | cons r rr =>
    cases rr
    obtain ⟨t, rfl⟩ := r
    exact call_range_1 (range_it I1 (by omega) (by omega) q1 q2 (by simpa using q))
theorem pi_range2 {a b : Expr} {ta : TA} {p pos : Pos} (hg : Gl X "range") (hm : X.mg "range" = none) (ha : PA X [a, b] ta) (hs : starEach [a, b] X.env = [(false, eval a X.env), (false, eval b X.env)] := by rfl) (hs2 : starEach [b] X.env = [(false, eval b X.env)] := by rfl) :
    PI X tg (.Call (.Name "range" p) [a, b] [] pos) (iRng2 ta) := by
  intro pins s σ H R I h
  refine Call_ (ld_blt I hg hm boot_range (PyProof.Rows.callWith_type1 (thn (ha pos pins s σ H _ I h) fun us s1 ⟨vs, H1, I1, r1, q1⟩ => ?_) (by rw [hs, hs2]) (by rw [hs2]; rfl)))
  obtain ⟨i, j, e, ⟨q1, q2, q3, q4⟩, q⟩ := q1
  subst e
  cases r1 with
  | cons r rr =>
    cases rr with
    | cons r' rr =>
      cases rr
      obtain ⟨t, rfl⟩ := r
      obtain ⟨t', rfl⟩ := r'
      exact call_range_2 (range_it I1 q1 q2 q3 q4 q)

/-! ### for -/
/-- W: the invariant by the turn and a measure; N: what the body is to reach -/
def tFor (wi : TI) (g : TG) (tb : TS) : TS := fun D σ H => wi σ H fun J H1 => ∃ W : Nat → Nat → St → Hp → Prop, (∃ m, W 0 m σ H1) ∧ ∀ i m σ H, W i m σ H →
  (J.stop i H ∧ D.nx σ H) ∨ (J.go i H ∧ ∃ N : St → Hp → Prop, (∀ σ' H', N σ' H' → ∃ m', m' < m ∧ W (i + 1) m' σ' H') ∧ ∀ x H', J.yld i H x H' → g x σ H' fun σ2 H2 => tb { D with nx := N, ct := N, bk := D.nx } σ2 H2)
/-- the records at fp as they stand -/
def pinsAt (fp : List Addr) (h : Heap) : List (Addr × Obj) := fp.filterMap fun b => (h.get? b).map fun o => (b, o)
theorem mem_pinsAt {fp : List Addr} {h : Heap} {b : Addr} {o : Obj} (hb : b ∈ fp) (e : h.get? b = some o) : (b, o) ∈ pinsAt fp h := List.mem_filterMap.mpr ⟨b, hb, by rw [e]; rfl⟩
theorem of_pinsAt {fp : List Addr} {h : Heap} {p : Addr × Obj} (hp : p ∈ pinsAt fp h) : p.1 ∈ fp ∧ h.get? p.1 = some p.2 := by
  obtain ⟨b, hb, e⟩ := List.mem_filterMap.mp hp
  cases q : h.get? b with
  | none => rw [q] at e; cases e
  | some o =>
    rw [q] at e
    have e' : (b, o) = p := Option.some.inj e
    subst e'
    exact ⟨hb, q⟩
theorem Inv.pinned {pins : List (Addr × Obj)} {σ : St} {H : Hp} {s : Shared} {fp : List Addr} (I : Inv X pins σ H s) (hf : ∀ b ∈ fp, FpOk X pins H b) (ho : ∀ b ∈ fp, ∃ o, s.heap.get? b = some o ∧ ∀ v, o.data ≠ .cell v) : Inv X (pins ++ pinsAt fp s.heap) σ H s :=
  I.pins_of fun p hp => (List.mem_append.mp hp).elim (fun z => I.pin p (List.mem_append_right _ z)) fun z => by
    obtain ⟨hb, e⟩ := of_pinsAt z
    obtain ⟨f0, f1, f2, _⟩ := hf p.1 hb
    obtain ⟨o, e', d⟩ := ho p.1 hb
    rw [e] at e'; cases e'
    exact ⟨e, f0, f1, f2, d⟩
theorem Inv.unpinned {pins pl : List (Addr × Obj)} {σ : St} {H : Hp} {s : Shared} (I : Inv X (pins ++ pl) σ H s) : Inv X pins σ H s := I.pins_of fun p hp => I.pin p (List.mem_append_right _ (List.mem_append_left _ hp))
theorem ps_for {iter : Expr} {body : List Stmt} {wi : TI} {g : TG} {tb : TS} {pos : Pos} (hp : PassesOwn (model X.prog X.w) X.A X.env X.xe) (hc : X.calm = true) (hi : PI X tg iter wi) (hg : PG X tg g) (hb : PSs X body tb)
    (hs : ∀ x, foldedSetIterable iter X.env x = pure x := by intro _; rfl) : PS X (.For tg iter body [] pos) (tFor wi g tb) := by
  intro pins s σ H D I h
  refine wpAny_For (thn (hi pins s σ H _ I h) fun v s1 h1 => thn h1 fun itv s2 h2 => ?_) hs
  obtain ⟨it, fp, tn, J, H2, e, I2, T, st2, f2, W, ⟨m0, w0⟩, turn⟩ := h2
  subst e
  -- what stays true of the iterator's objects through the loop
  have stat : ∀ {H' : Hp}, (∀ b ∈ fp, H' b = none) → ∀ b ∈ fp, FpOk X pins H' b := fun hn b hb => ⟨hn b hb, (f2 b hb).2⟩
  refine codeAny_forLoop_any (fun n s' => ∃ i σ' H', Inv X pins σ' H' s' ∧ tn i s'.heap ∧ (∀ b ∈ fp, H' b = none) ∧ W i n σ' H') ?_ m0 ⟨0, σ, H2, I2, st2, fun b hb => (f2 b hb).1, w0⟩
  rintro n s3 ⟨i, σ3, H3, I3, st3, fr3, w3⟩
  rcases turn i n σ3 H3 w3 with ⟨stop, qn⟩ | ⟨go, N, hN, step⟩
  · refine wpAny_passesOwn hp (thn (T.done X rfl rfl rfl hc i pins s3 σ3 H3 X.xe I3 (stat fr3) st3 stop) fun r s4 ⟨hr, I4⟩ => ?_)
    subst hr
    exact wpAny_execs_nil ⟨σ3, H3, I4, qn⟩
  · refine wpAny_passesOwn hp (thn (T.item X rfl rfl rfl hc i pins s3 σ3 H3 X.xe I3 (stat fr3) st3 go) fun r s4 ⟨u, hr, h4⟩ => ?_)
    subst hr
    refine wpAny_passesOwn hp (thn h4 fun _ s5 ⟨x, H5, I5, r5, y5, st5, fr5⟩ => ?_)
    have I5' := I5.pinned (stat fr5) (T.obj _ _ st5)
    refine wpAny_passesOwn hp (thn (hg _ s5 σ3 H5 x u _ I5' r5 (step x H5 y5)) fun _ s6 ⟨σ6, H6, I6, q6⟩ => ?_)
    refine wpAny_passesOwn hp (thn (hb _ s6 σ6 H6 _ I6 q6) fun f s7 q7 => ?_)
    have again : ∀ {σ7 : St} {H7 : Hp}, Inv X (pins ++ pinsAt fp s5.heap) σ7 H7 s7 → N σ7 H7 → ∃ m, m < n ∧ ∃ i σ' H', Inv X pins σ' H' s7 ∧ tn i s7.heap ∧ (∀ b ∈ fp, H' b = none) ∧ W i m σ' H' := fun {σ7 H7} I7 n7 => by
      obtain ⟨m', hm, w7⟩ := hN σ7 H7 n7
      refine ⟨m', hm, i + 1, σ7, H7, I7.unpinned, T.keep _ _ _ st5 fun b hb o e => (I7.pin (b, o) (List.mem_append_right _ (List.mem_append_right _ (mem_pinsAt hb e)))).1, fun b hb => ?_, w7⟩
      obtain ⟨o, e, d⟩ := T.obj _ _ st5 b hb
      exact (I7.pin (b, o) (List.mem_append_right _ (List.mem_append_right _ (mem_pinsAt hb e)))).2.1
    cases f with
    | next => obtain ⟨σ7, H7, I7, n7⟩ := q7; exact again I7 n7
    | cont => obtain ⟨σ7, H7, I7, n7⟩ := q7; exact again I7 n7
    | brk => obtain ⟨σ7, H7, I7, q7⟩ := q7; exact ⟨σ7, H7, I7.unpinned, q7⟩
    | ret v => obtain ⟨x7, σ7, H7, I7, r7, q7⟩ := q7; exact ⟨x7, σ7, H7, I7.unpinned, r7, q7⟩
end

/-! ### the forms one uses -/
/-- over a list that the body leaves as it is -/
theorem for_list {K : PySem.W.Frag} {a : Addr} {xs : List V} {g : TG} {tb : TS} {D : Ends} {σ : St} {H : Hp} (Pv : Nat → St → Hp → Prop) (h0 : Pv 0 σ H) (hl : ∀ i σ H, i ≤ xs.length → Pv i σ H → SqL K H a xs)
    (hs : ∀ i x σ H, xs[i]? = some x → Pv i σ H → g x σ H fun σ2 H2 => tb { D with nx := Pv (i + 1), ct := Pv (i + 1), bk := D.nx } σ2 H2) (hd : ∀ σ H, Pv xs.length σ H → D.nx σ H) :
    ∃ W : Nat → Nat → St → Hp → Prop, (∃ m, W 0 m σ H) ∧ ∀ i m σ H, W i m σ H →
      ((Itl K a).stop i H ∧ D.nx σ H) ∨ ((Itl K a).go i H ∧ ∃ N : St → Hp → Prop, (∀ σ' H', N σ' H' → ∃ m', m' < m ∧ W (i + 1) m' σ' H') ∧ ∀ x H', (Itl K a).yld i H x H' → g x σ H' fun σ2 H2 => tb { D with nx := N, ct := N, bk := D.nx } σ2 H2) := by
  refine ⟨fun i m σ H => m = xs.length - i ∧ i ≤ xs.length ∧ Pv i σ H, ⟨xs.length, by simp, Nat.zero_le _, h0⟩, ?_⟩
  rintro i m σ H ⟨rfl, hi, p⟩
  have q := hl i σ H hi p
  by_cases hlt : i < xs.length
  · refine .inr ⟨⟨xs, xs[i], q, by simp [hlt]⟩, Pv (i + 1), fun σ' H' p' => ⟨xs.length - (i + 1), by omega, rfl, hlt, p'⟩, fun x H' y => ?_⟩
    obtain ⟨e, y⟩ := y
    subst e
    exact hs i x σ _ (y xs q) p
  · have e : i = xs.length := by omega
    subst e
    exact .inl ⟨⟨xs, q, Nat.le_refl _⟩, hd σ H p⟩
theorem for_tup {K : PySem.W.Frag} {a : Addr} {xs : List V} {g : TG} {tb : TS} {D : Ends} {σ : St} {H : Hp} (Pv : Nat → St → Hp → Prop) (h0 : Pv 0 σ H) (hl : ∀ i σ H, i ≤ xs.length → Pv i σ H → SqT K H a xs)
    (hs : ∀ i x σ H, xs[i]? = some x → Pv i σ H → g x σ H fun σ2 H2 => tb { D with nx := Pv (i + 1), ct := Pv (i + 1), bk := D.nx } σ2 H2) (hd : ∀ σ H, Pv xs.length σ H → D.nx σ H) :
    ∃ W : Nat → Nat → St → Hp → Prop, (∃ m, W 0 m σ H) ∧ ∀ i m σ H, W i m σ H →
      ((Itt K a).stop i H ∧ D.nx σ H) ∨ ((Itt K a).go i H ∧ ∃ N : St → Hp → Prop, (∀ σ' H', N σ' H' → ∃ m', m' < m ∧ W (i + 1) m' σ' H') ∧ ∀ x H', (Itt K a).yld i H x H' → g x σ H' fun σ2 H2 => tb { D with nx := N, ct := N, bk := D.nx } σ2 H2) := by
  refine ⟨fun i m σ H => m = xs.length - i ∧ i ≤ xs.length ∧ Pv i σ H, ⟨xs.length, by simp, Nat.zero_le _, h0⟩, ?_⟩
  rintro i m σ H ⟨rfl, hi, p⟩
  have q := hl i σ H hi p
  by_cases hlt : i < xs.length
  · refine .inr ⟨⟨xs, xs[i], q, by simp [hlt]⟩, Pv (i + 1), fun σ' H' p' => ⟨xs.length - (i + 1), by omega, rfl, hlt, p'⟩, fun x H' y => ?_⟩
    obtain ⟨e, y⟩ := y
    subst e
    exact hs i x σ _ (y xs q) p
  · have e : i = xs.length := by omega
    subst e
    exact .inl ⟨⟨xs, q, Nat.le_refl _⟩, hd σ H p⟩
theorem for_range {lo : Int} {n : Nat} {g : TG} {tb : TS} {D : Ends} {σ : St} {H : Hp} (Pv : Nat → St → Hp → Prop) (h0 : Pv 0 σ H)
    (hs : ∀ i σ H, i < n → Pv i σ H → g (.int (lo + i)) σ H fun σ2 H2 => tb { D with nx := Pv (i + 1), ct := Pv (i + 1), bk := D.nx } σ2 H2) (hd : ∀ σ H, Pv n σ H → D.nx σ H) :
    ∃ W : Nat → Nat → St → Hp → Prop, (∃ m, W 0 m σ H) ∧ ∀ i m σ H, W i m σ H →
      ((Itr lo n).stop i H ∧ D.nx σ H) ∨ ((Itr lo n).go i H ∧ ∃ N : St → Hp → Prop, (∀ σ' H', N σ' H' → ∃ m', m' < m ∧ W (i + 1) m' σ' H') ∧ ∀ x H', (Itr lo n).yld i H x H' → g x σ H' fun σ2 H2 => tb { D with nx := N, ct := N, bk := D.nx } σ2 H2) := by
  refine ⟨fun i m σ H => m = n - i ∧ i ≤ n ∧ Pv i σ H, ⟨n, by simp, Nat.zero_le _, h0⟩, ?_⟩
  rintro i m σ H ⟨rfl, hi, p⟩
  by_cases hlt : i < n
  · refine .inr ⟨hlt, Pv (i + 1), fun σ' H' p' => ⟨n - (i + 1), by omega, rfl, hlt, p'⟩, fun x H' y => ?_⟩
    obtain ⟨e, y⟩ := y
    subst e y
    exact hs i σ _ hlt p
  · have e : i = n := by omega
    subst e
    exact .inl ⟨Nat.le_refl _, hd σ H p⟩
/-- while, by a word and a measure of the state -/
theorem while_by {c : TT} {tb : TS} {D : Ends} {σ : St} {H : Hp} (Pv : St → Hp → Prop) (μ : St → Hp → Nat) (h0 : Pv σ H)
    (hs : ∀ σ H, Pv σ H → c σ H fun b H1 => if b = true then tb { D with nx := fun σ' H' => Pv σ' H' ∧ μ σ' H' < μ σ H, ct := fun σ' H' => Pv σ' H' ∧ μ σ' H' < μ σ H, bk := D.nx } σ H1 else D.nx σ H1)
    (mono : ∀ σ H Q Q', (∀ b H1, Q b H1 → Q' b H1) → c σ H Q → c σ H Q') : tWhile c tb D σ H := by
  refine ⟨fun m σ H => m = μ σ H ∧ Pv σ H, ⟨_, rfl, h0⟩, ?_⟩
  rintro m σ H ⟨rfl, p⟩
  refine mono σ H _ _ (fun b H1 q => ?_) (hs σ H p)
  cases b with
  | true => exact ⟨_, fun σ' H' ⟨p', l⟩ => ⟨_, l, rfl, p'⟩, q⟩
  | false => exact q
end L2

namespace L2
open PySem PySem.Spec PyProof.Rows

abbrev R2 := V → V → Hp → VK → Prop
/-- a two-place operation on values: f is binaryOp op, inplaceOp op or compareOp op -/
def OpR (X : Cx) (f : Value → Value → Sem Value) (r : R2) : Prop :=
  ∀ (pins : List (Addr × Obj)) (s : Shared) (σ : St) (H : Hp) (x y : V) (v u : Value) (Q : VK), Inv X pins σ H s → RelV x v → RelV y u → r x y H Q →
    wpAny (model X.prog X.w) X.A (f v u) (EP X pins σ Q) X.xe s
/-- a one-place operation -/
def UnR (X : Cx) (f : Value → Sem Value) (r : V → Hp → VK → Prop) : Prop :=
  ∀ (pins : List (Addr × Obj)) (s : Shared) (σ : St) (H : Hp) (x : V) (v : Value) (Q : VK), Inv X pins σ H s → RelV x v → r x H Q →
    wpAny (model X.prog X.w) X.A (f v) (EP X pins σ Q) X.xe s
/-- a call of a value that is known (a builtin, a type) with values -/
def CallR (X : Cx) (f : Value) (r : List V → Hp → VK → Prop) : Prop :=
  ∀ (pins : List (Addr × Obj)) (s : Shared) (σ : St) (H : Hp) (xs : List V) (us : List Value) (Q : VK), Inv X pins σ H s → Vals xs us → r xs H Q →
    wpAny (model X.prog X.w) X.A (call f us) (EP X pins σ Q) X.xe s
/-- a value's truth -/
def TruR (X : Cx) (r : V → Hp → (Bool → Hp → Prop) → Prop) : Prop :=
  ∀ (pins : List (Addr × Obj)) (s : Shared) (σ : St) (H : Hp) (x : V) (v : Value) (Q : Bool → Hp → Prop), Inv X pins σ H s → RelV x v → r x H Q →
    wpAny (model X.prog X.w) X.A (truthy v) (TP X pins σ Q) X.xe s

def tOp (r : R2) (ta tb : TE) : TE := fun σ H Q => ta σ H fun x H1 => tb σ H1 fun y H2 => r x y H2 Q
def tUn (r : V → Hp → VK → Prop) (ta : TE) : TE := fun σ H Q => ta σ H fun x H1 => r x H1 Q
/-- ints in, under C, and a value out -/
def rI (C : Int → Int → Prop) (g : Int → Int → V) : R2 := fun x y H Q => ∃ i j, x = .int i ∧ y = .int j ∧ C i j ∧ Q (g i j) H
def rI0 (g : Int → Int → V) : R2 := fun x y H Q => ∃ i j, x = .int i ∧ y = .int j ∧ Q (g i j) H
def rU (g : Int → V) : V → Hp → VK → Prop := fun x H Q => ∃ i, x = .int i ∧ Q (g i) H

section
variable {X : Cx} {a b c : Expr} {ta tb tc : TE} {pos : Pos}

theorem binT (ha : PE X a ta) (hb : PE X b tb) {pins : List (Addr × Obj)} {s : Shared} {σ : St} {H : Hp} {R : V → V → Hp → Prop} (I : Inv X pins σ H s)
    (h : ta σ H fun x H1 => tb σ H1 fun y H2 => R x y H2) {Q : Value → Shared → Prop} {f : Value → Value → Sem Value}
    (hf : ∀ v u s2 x y H2, Inv X pins σ H2 s2 → RelV x v → RelV y u → R x y H2 → wpAny (model X.prog X.w) X.A (f v u) Q X.xe s2) :
    wpAny (model X.prog X.w) X.A (eval a X.env) (fun v s₁ => wpAny (model X.prog X.w) X.A (eval b X.env) (fun u s₂ => wpAny (model X.prog X.w) X.A (f v u) Q X.xe s₂) X.xe s₁) X.xe s := by
  refine thn (ha pins s σ H _ I h) fun v s1 ⟨x, H1, I1, r1, q1⟩ => ?_
  refine thn (hb pins s1 σ H1 _ I1 q1) fun u s2 ⟨y, H2, I2, r2, q2⟩ => ?_
  exact hf v u s2 x y H2 I2 r1 r2 q2

theorem pe_op {op : Operator} {r : R2} (ho : OpR X (binaryOp op) r) (ha : PE X a ta) (hb : PE X b tb) : PE X (.BinOp a op b pos) (tOp r ta tb) := by
  intro pins s σ H Q I h
  exact wpAny_BinOp (binT ha hb I h fun v u s2 x y H2 I2 rx ry q => ho pins s2 σ H2 x y v u Q I2 rx ry q)
theorem pe_un {op : UnaryOp} {r : V → Hp → VK → Prop} (ho : UnR X (unaryOp op) r) (ha : PE X a ta) : PE X (.UnaryOp op a pos) (tUn r ta) := by
  intro pins s σ H Q I h
  exact UnaryOp_ (thn (ha pins s σ H _ I h) fun v s1 ⟨x, H1, I1, r1, q1⟩ => ho pins s1 σ H1 x v Q I1 r1 q1)
/-- a op= e at a name: the name's slot i -/
theorem augR {op : Operator} {r : R2} (ho : OpR X (inplaceOp op) r) {pins : List (Addr × Obj)} {s : Shared} {σ : St} {H : Hp} {x y : V} {v u : Value} {Q : VK} (I : Inv X pins σ H s)
    (rx : RelV x v) (ry : RelV y u) (q : r x y H Q) : wpAny (model X.prog X.w) X.A (inplaceOp op v u) (EP X pins σ Q) X.xe s := ho pins s σ H x y v u Q I rx ry q

/-! ### ints -/
theorem opI {f : Value → Value → Sem Value} {C : Int → Int → Prop} {g : Int → Int → Int}
    (rule : ∀ (i j : Int) (t u : Tok) (s : Shared) (Q : Value → Shared → Prop) (E : Value → Shared → Prop), C i j → Q (.int (g i j) s.toks) { s with toks := s.toks + 1 } → wpAny (model X.prog X.w) X.A (f (.int i t) (.int j u)) Q E s) :
    OpR X f (rI C fun i j => .int (g i j)) := by
  intro pins s σ H x y v u Q I rx ry h
  obtain ⟨i, j, rfl, rfl, hc, q⟩ := h
  obtain ⟨t, rfl⟩ := rx
  obtain ⟨t', rfl⟩ := ry
  exact rule i j t t' s _ _ hc ⟨.int (g i j), H, I.tok _, ⟨_, rfl⟩, q⟩
theorem opI0 {f : Value → Value → Sem Value} {g : Int → Int → Int}
    (rule : ∀ (i j : Int) (t u : Tok) (s : Shared) (Q : Value → Shared → Prop) (E : Value → Shared → Prop), Q (.int (g i j) s.toks) { s with toks := s.toks + 1 } → wpAny (model X.prog X.w) X.A (f (.int i t) (.int j u)) Q E s) :
    OpR X f (rI0 fun i j => .int (g i j)) := by
  intro pins s σ H x y v u Q I rx ry h
  obtain ⟨i, j, rfl, rfl, q⟩ := h
  obtain ⟨t, rfl⟩ := rx
  obtain ⟨t', rfl⟩ := ry
  exact rule i j t t' s _ _ ⟨.int (g i j), H, I.tok _, ⟨_, rfl⟩, q⟩
theorem opB0 {f : Value → Value → Sem Value} {g : Int → Int → Bool}
    (rule : ∀ (i j : Int) (t u : Tok) (s : Shared) (Q : Value → Shared → Prop) (E : Value → Shared → Prop), Q (.bool (g i j)) s → wpAny (model X.prog X.w) X.A (f (.int i t) (.int j u)) Q E s) :
    OpR X f (rI0 fun i j => .bl (g i j)) := by
  intro pins s σ H x y v u Q I rx ry h
  obtain ⟨i, j, rfl, rfl, q⟩ := h
  obtain ⟨t, rfl⟩ := rx
  obtain ⟨t', rfl⟩ := ry
  exact rule i j t t' s _ _ ⟨.bl (g i j), H, I, rfl, q⟩

def CDiv (i j : Int) : Prop := 0 < j ∧ j < 1073741824
def CDivN (i j : Int) : Prop := j ≠ 0 ∧ j.natAbs < 1073741824
def CPow (i j : Int) : Prop := 0 ≤ j ∧ j ≤ 1000000 ∧ i.natAbs < 2 ^ 64
def CMul (i j : Int) : Prop := (-(2 ^ 64) < i ∧ i < 2 ^ 64) ∨ (-(2 ^ 64) < j ∧ j < 2 ^ 64)
theorem CMul.ok {i j : Int} (h : CMul i j) : IntMulOk i j := by
  rcases h with ⟨h1, h2⟩ | ⟨h1, h2⟩
  · exact .of_left (intBits_le_64 h1 h2)
  · exact .of_right (intBits_le_64 h1 h2)
theorem two_pow_nn (k : Nat) : (0 : Int) ≤ 2 ^ k := by
  rw [two_pow_cast]
  exact Int.natCast_nonneg _

theorem op_add : OpR X (binaryOp .Add) (rI0 fun i j => .int (i + j)) := opI0 fun _ _ _ _ _ _ _ q => add_int q
theorem op_sub : OpR X (binaryOp .Sub) (rI0 fun i j => .int (i - j)) := opI0 fun _ _ _ _ _ _ _ q => sub_int q
theorem op_mul : OpR X (binaryOp .Mult) (rI CMul fun i j => .int (i * j)) := opI fun _ _ _ _ _ _ _ hc q => mul_int q hc.ok
/-- // by a positive divisor -/
theorem op_fdiv : OpR X (binaryOp .FloorDiv) (rI CDiv fun i j => .int (i / j)) := opI fun i j _ _ _ _ _ hc q => by
  have h1 : (0 : Int) < j := hc.1
  have h2 : j < 1073741824 := hc.2
  exact floordiv_int (by omega) (by rw [Int.fdiv_eq_ediv_of_nonneg i (by omega)]; exact q) (.inl (PyProof.noPylong_small (by omega)))
theorem op_fdivN : OpR X (binaryOp .FloorDiv) (rI CDivN fun i j => .int (i.fdiv j)) := opI fun _ _ _ _ _ _ _ hc q => floordiv_int hc.1 q (.inl (PyProof.noPylong_small hc.2))
/-- % by a positive divisor of any size -/
theorem op_mod : OpR X (binaryOp .Mod) (rI (fun _ j => 0 < j) fun i j => .int (i % j)) := opI fun i j _ _ _ _ _ hc q => by
  have h1 : (0 : Int) < j := hc
  exact mod_int' (by omega) (by rw [Int.fmod_eq_emod_of_nonneg i (by omega)]; exact q)
theorem op_modN : OpR X (binaryOp .Mod) (rI (fun _ j => j ≠ 0) fun i j => .int (i.fmod j)) := opI fun _ _ _ _ _ _ _ hc q => mod_int' hc q
theorem op_pow : OpR X (binaryOp .Pow) (rI CPow fun i j => .int (i ^ j.toNat)) := opI fun _ _ _ _ _ _ _ hc q => pow_int_small hc.1 hc.2.1 hc.2.2 q
theorem op_shl : OpR X (binaryOp .LShift) (rI CPow fun i j => .int (i * 2 ^ j.toNat)) := opI fun _ _ _ _ _ _ _ hc q => lshift_int_small hc.1 hc.2.1 hc.2.2 q
theorem op_shr : OpR X (binaryOp .RShift) (rI (fun _ j => 0 ≤ j) fun i j => .int (i / 2 ^ j.toNat)) := opI fun i j _ _ _ _ _ hc q =>
  rshift_int hc (by rw [Int.fdiv_eq_ediv_of_nonneg i (two_pow_nn _)]; exact q)
theorem op_and : OpR X (binaryOp .BitAnd) (rI0 fun i j => .int (Builtin.bitAnd i j)) := opI0 fun _ _ _ _ _ _ _ q => and_int q
theorem op_or : OpR X (binaryOp .BitOr) (rI0 fun i j => .int (Builtin.bitOr i j)) := opI0 fun _ _ _ _ _ _ _ q => or_int q
theorem op_xor : OpR X (binaryOp .BitXor) (rI0 fun i j => .int (Builtin.bitXor i j)) := opI0 fun _ _ _ _ _ _ _ q => xor_int q

theorem iop_add : OpR X (inplaceOp .Add) (rI0 fun i j => .int (i + j)) := opI0 fun _ _ _ _ _ _ _ q => iadd_int q
theorem iop_sub : OpR X (inplaceOp .Sub) (rI0 fun i j => .int (i - j)) := opI0 fun _ _ _ _ _ _ _ q => isub_int q
theorem iop_mul : OpR X (inplaceOp .Mult) (rI CMul fun i j => .int (i * j)) := opI fun _ _ _ _ _ _ _ hc q => imul_int q hc.ok
theorem iop_fdiv : OpR X (inplaceOp .FloorDiv) (rI CDiv fun i j => .int (i / j)) := opI fun i j _ _ _ _ _ hc q => by
  have h1 : (0 : Int) < j := hc.1
  have h2 : j < 1073741824 := hc.2
  exact ifloordiv_int (by omega) (by rw [Int.fdiv_eq_ediv_of_nonneg i (by omega)]; exact q) (.inl (PyProof.noPylong_small (by omega)))
theorem iop_mod : OpR X (inplaceOp .Mod) (rI (fun _ j => 0 < j) fun i j => .int (i % j)) := opI fun i j _ _ _ _ _ hc q => by
  have h1 : (0 : Int) < j := hc
  exact imod_int (by omega) (by rw [Int.fmod_eq_emod_of_nonneg i (by omega)]; exact q)
theorem iop_shl : OpR X (inplaceOp .LShift) (rI CPow fun i j => .int (i * 2 ^ j.toNat)) := opI fun _ _ _ _ _ _ _ hc q => ilshift_int_small hc.1 hc.2.1 hc.2.2 q
theorem iop_shr : OpR X (inplaceOp .RShift) (rI (fun _ j => 0 ≤ j) fun i j => .int (i / 2 ^ j.toNat)) := opI fun i j _ _ _ _ _ hc q =>
  irshift_int hc (by rw [Int.fdiv_eq_ediv_of_nonneg i (two_pow_nn _)]; exact q)
theorem iop_and : OpR X (inplaceOp .BitAnd) (rI0 fun i j => .int (Builtin.bitAnd i j)) := opI0 fun _ _ _ _ _ _ _ q => iand_int q
theorem iop_or : OpR X (inplaceOp .BitOr) (rI0 fun i j => .int (Builtin.bitOr i j)) := opI0 fun _ _ _ _ _ _ _ q => ior_int q
theorem iop_xor : OpR X (inplaceOp .BitXor) (rI0 fun i j => .int (Builtin.bitXor i j)) := opI0 fun _ _ _ _ _ _ _ q => ixor_int q

theorem unI {f : Value → Sem Value} {g : Int → Int}
    (rule : ∀ (i : Int) (t : Tok) (s : Shared) (Q : Value → Shared → Prop) (E : Value → Shared → Prop), Q (.int (g i) s.toks) { s with toks := s.toks + 1 } → wpAny (model X.prog X.w) X.A (f (.int i t)) Q E s) :
    UnR X f (rU fun i => .int (g i)) := by
  intro pins s σ H x v Q I rx h
  obtain ⟨i, rfl, q⟩ := h
  obtain ⟨t, rfl⟩ := rx
  exact rule i t s _ _ ⟨.int (g i), H, I.tok _, ⟨_, rfl⟩, q⟩
theorem un_neg : UnR X (unaryOp .USub) (rU fun i => .int (-i)) := unI fun _ _ _ _ _ q => neg_int q
theorem un_inv : UnR X (unaryOp .Invert) (rU fun i => .int (Builtin.bitNot i)) := unI fun _ _ _ _ _ q => invert_int q

/-! ### bools among ints: n += (a < b) -/
theorem op_add_ib : OpR X (binaryOp .Add) (fun x y H Q => ∃ i k, x = .int i ∧ y = .bl k ∧ Q (.int (i + b2i k)) H) := by
  intro pins s σ H x y v u Q I rx ry h
  obtain ⟨i, k, rfl, rfl, q⟩ := h
  obtain ⟨t, rfl⟩ := rx
  cases ry
  exact add_int_bool ⟨.int (i + b2i k), H, I.tok _, ⟨_, rfl⟩, q⟩
end

/-! ### comparisons -/
/-- the scalars that == tells apart as data does -/
def scal : V → V → Bool
  | .non, .non => true | .non, .int _ => true | .int _, .non => true | .non, .bl _ => true | .bl _, .non => true | .non, .str _ => true | .str _, .non => true
  | .int _, .int _ => true | .bl _, .bl _ => true | .str _, .str _ => true | .byt _, .byt _ => true
  | .int _, .str _ => true | .str _, .int _ => true | .bl _, .str _ => true | .str _, .bl _ => true
  | _, _ => false
def rEq : R2 := fun x y H Q => scal x y = true ∧ Q (.bl (decide (x = y))) H
def rNe : R2 := fun x y H Q => scal x y = true ∧ Q (.bl (!decide (x = y))) H

theorem dec_int {i j : Int} : decide (V.int i = V.int j) = (i == j) := by
  rw [Bool.eq_iff_iff]
  simp
theorem dec_bl {i j : Bool} : decide (V.bl i = V.bl j) = (i == j) := by
  rw [Bool.eq_iff_iff]
  simp
theorem dec_str {i j : Str} : decide (V.str i = V.str j) = (i == j) := by
  rw [Bool.eq_iff_iff]
  simp
theorem dec_byt {i j : Array UInt8} : decide (V.byt i = V.byt j) = (i.toList == j.toList) := by
  rw [Bool.eq_iff_iff]
  cases i
  cases j
  simp

section
variable {X : Cx} {a b c : Expr} {ta tb tc : TE} {pos : Pos}
theorem fin_bl {pins : List (Addr × Obj)} {σ : St} {H : Hp} {s : Shared} {Q : VK} {k k' : Bool} (I : Inv X pins σ H s) (q : Q (.bl k) H) (e : k = k') : EP X pins σ Q (.bool k') s := by
  subst e
  exact ⟨.bl k, H, I, rfl, q⟩
theorem op_eq : OpR X (compareOp .Eq) rEq := by
  intro pins s σ H x y v u Q I rx ry h
  obtain ⟨hs, q⟩ := h
  cases x with
  | non =>
    cases rx
    cases y with
    | non => cases ry; exact PySem.EqNone.eq_none_none (fin_bl I q (by simp))
    | bl j => cases ry; exact PySem.EqNone.eq_none_bool (fin_bl I q (by simp))
    | int j => obtain ⟨t', rfl⟩ := ry; exact PySem.EqNone.eq_none_int (fin_bl I q (by simp))
    | str j => obtain ⟨t', rfl⟩ := ry; exact PySem.EqNone.eq_none_str (fin_bl I q (by simp))
    | _ => exact absurd (show false = true from hs) Bool.false_ne_true
  | bl i =>
    cases rx
    cases y with
    | non => cases ry; exact PySem.EqNone.eq_bool_none (fin_bl I q (by simp))
    | bl j => cases ry; exact eq_bool (fin_bl I q dec_bl)
    | str j => obtain ⟨t', rfl⟩ := ry; exact PySem.EqMixed.eq_bool_str (fin_bl I q (by simp))
    | _ => exact absurd (show false = true from hs) Bool.false_ne_true
  | int i =>
    obtain ⟨t, rfl⟩ := rx
    cases y with
    | non => cases ry; exact PySem.EqNone.eq_int_none (fin_bl I q (by simp))
    | int j => obtain ⟨t', rfl⟩ := ry; exact eq_int (fin_bl I q dec_int)
    | str j => obtain ⟨t', rfl⟩ := ry; exact PySem.EqMixed.eq_int_str (fin_bl I q (by simp))
    | _ => exact absurd (show false = true from hs) Bool.false_ne_true
  | str i =>
    obtain ⟨t, rfl⟩ := rx
    cases y with
    | non => cases ry; exact PySem.EqNone.eq_str_none (fin_bl I q (by simp))
    | bl j => cases ry; exact PySem.EqMixed.eq_str_bool (fin_bl I q (by simp))
    | int j => obtain ⟨t', rfl⟩ := ry; exact PySem.EqMixed.eq_str_int (fin_bl I q (by simp))
    | str j => obtain ⟨t', rfl⟩ := ry; exact eq_str (fin_bl I q dec_str)
    | _ => exact absurd (show false = true from hs) Bool.false_ne_true
  | byt i =>
    obtain ⟨t, rfl⟩ := rx
    cases y with
    | byt j => obtain ⟨t', rfl⟩ := ry; exact PySem.W.eq_bytes (fin_bl I q dec_byt)
    | _ => exact absurd (show false = true from hs) Bool.false_ne_true
  | _ => cases y <;> exact absurd (show false = true from hs) Bool.false_ne_true
theorem op_ne : OpR X (compareOp .NotEq) rNe := by
  intro pins s σ H x y v u Q I rx ry h
  obtain ⟨hs, q⟩ := h
  cases x with
  | non =>
    cases rx
    cases y with
    | non => cases ry; exact PySem.EqNone.ne_none_none (fin_bl I q (by simp))
    | bl j => cases ry; exact PySem.EqNone.ne_none_bool (fin_bl I q (by simp))
    | int j => obtain ⟨t', rfl⟩ := ry; exact PySem.EqNone.ne_none_int (fin_bl I q (by simp))
    | str j => obtain ⟨t', rfl⟩ := ry; exact PySem.EqNone.ne_none_str (fin_bl I q (by simp))
    | _ => exact absurd (show false = true from hs) Bool.false_ne_true
  | bl i =>
    cases rx
    cases y with
    | non => cases ry; exact PySem.EqNone.ne_bool_none (fin_bl I q (by simp))
    | bl j => cases ry; exact ne_bool (fin_bl I q (congrArg not dec_bl))
    | str j => obtain ⟨t', rfl⟩ := ry; exact PySem.EqMixed.ne_bool_str (fin_bl I q (by simp))
    | _ => exact absurd (show false = true from hs) Bool.false_ne_true
  | int i =>
    obtain ⟨t, rfl⟩ := rx
    cases y with
    | non => cases ry; exact PySem.EqNone.ne_int_none (fin_bl I q (by simp))
    | int j => obtain ⟨t', rfl⟩ := ry; exact ne_int (fin_bl I q (congrArg not dec_int))
    | str j => obtain ⟨t', rfl⟩ := ry; exact PySem.EqMixed.ne_int_str (fin_bl I q (by simp))
    | _ => exact absurd (show false = true from hs) Bool.false_ne_true
  | str i =>
    obtain ⟨t, rfl⟩ := rx
    cases y with
    | non => cases ry; exact PySem.EqNone.ne_str_none (fin_bl I q (by simp))
    | bl j => cases ry; exact PySem.EqMixed.ne_str_bool (fin_bl I q (by simp))
    | int j => obtain ⟨t', rfl⟩ := ry; exact PySem.EqMixed.ne_str_int (fin_bl I q (by simp))
    | str j => obtain ⟨t', rfl⟩ := ry; exact ne_str (fin_bl I q (congrArg not dec_str))
    | _ => exact absurd (show false = true from hs) Bool.false_ne_true
  | byt i =>
    obtain ⟨t, rfl⟩ := rx
    cases y with
    | byt j => obtain ⟨t', rfl⟩ := ry; exact PySem.W.ne_bytes (fin_bl I q (congrArg not dec_byt))
    | _ => exact absurd (show false = true from hs) Bool.false_ne_true
  | _ => cases y <;> exact absurd (show false = true from hs) Bool.false_ne_true

theorem op_lt : OpR X (compareOp .Lt) (rI0 fun i j => .bl (decide (i < j))) := opB0 fun _ _ _ _ _ _ _ q => lt_int q
theorem op_le : OpR X (compareOp .LtE) (rI0 fun i j => .bl (decide (i ≤ j))) := opB0 fun _ _ _ _ _ _ _ q => le_int q
theorem op_gt : OpR X (compareOp .Gt) (rI0 fun i j => .bl (decide (j < i))) := opB0 fun _ _ _ _ _ _ _ q => gt_int q
theorem op_ge : OpR X (compareOp .GtE) (rI0 fun i j => .bl (decide (j ≤ i))) := opB0 fun _ _ _ _ _ _ _ q => ge_int q
theorem op_lt_str : OpR X (compareOp .Lt) (fun x y H Q => ∃ i j, x = .str i ∧ y = .str j ∧ Q (.bl (decide (i.cps.toList < j.cps.toList))) H) := by
  intro pins s σ H x y v u Q I rx ry h
  obtain ⟨i, j, rfl, rfl, q⟩ := h
  obtain ⟨t, rfl⟩ := rx
  obtain ⟨t', rfl⟩ := ry
  exact lt_str (fin_bl I q rfl)
/-- the one string within the other -/
theorem op_in_str : OpR X (compareOp .In) (fun x y H Q => ∃ i j, x = .str i ∧ y = .str j ∧ Q (.bl (!(Builtin.Str.occurrences j i 0 j.length 1).isEmpty)) H) := by
  intro pins s σ H x y v u Q I rx ry h
  obtain ⟨i, j, rfl, rfl, q⟩ := h
  obtain ⟨t, rfl⟩ := rx
  obtain ⟨t', rfl⟩ := ry
  exact in_str (fin_bl I q rfl)

/-- is None, is not None: the right side a value none -/
theorem op_isN : OpR X (compareOp .Is) (fun x y H Q => y = .non ∧ Q (.bl (decide (x = .non))) H) := by
  intro pins s σ H x y v u Q I rx ry h
  obtain ⟨rfl, q⟩ := h
  cases ry
  refine is_none_gen (fin_bl I q ?_)
  cases x <;> first
    | (cases rx; rfl)
    | (obtain ⟨t, rfl⟩ := rx; rfl)
theorem op_notN : OpR X (compareOp .IsNot) (fun x y H Q => y = .non ∧ Q (.bl (!decide (x = .non))) H) := by
  intro pins s σ H x y v u Q I rx ry h
  obtain ⟨rfl, q⟩ := h
  cases ry
  refine isnot_none_gen (fin_bl I q ?_)
  cases x <;> first
    | (cases rx; rfl)
    | (obtain ⟨t, rfl⟩ := rx; rfl)

theorem op_notin_str : OpR X (compareOp .NotIn) (fun x y H Q => ∃ i j, x = .str i ∧ y = .str j ∧ Q (.bl (!(!(Builtin.Str.occurrences j i 0 j.length 1).isEmpty))) H) := by
  intro pins s σ H x y v u Q I rx ry h
  obtain ⟨i, j, rfl, rfl, q⟩ := h
  obtain ⟨t, rfl⟩ := rx
  obtain ⟨t', rfl⟩ := ry
  exact notIn_str (fin_bl I q rfl)
/-- is, is not of two objects that are tracked lists or instances -/
def isObj : HO → Bool
  | .lst _ => true
  | .ins _ _ _ => true
  | _ => false
theorem obj_there {pins : List (Addr × Obj)} {s : Shared} {σ : St} {H : Hp} {a : Addr} {o : HO} (I : Inv X pins σ H s) (h : H a = some o) (p : isObj o = true) : ∃ ob, s.heap.get? a = some ob ∧ ob.cls ≠ .type "tuple" := by
  cases o with
  | lst xs =>
    obtain ⟨_, its, n, _, e⟩ : xs.length ≤ sizeLine ∧ ∃ (its : List Value) (n : Nat), Vals xs its ∧ s.heap.get? a = some { cls := .type "list", data := .seq its.toArray n } := I.hok a _ h
    exact ⟨_, e, (by show Value.type "list" ≠ .type "tuple"; decide +kernel)⟩
  | ins C dx fs =>
    have x := I.hok a _ h
    obtain ⟨_, _, _, e, _⟩ := x
    exact ⟨_, e, (by show Value.ref C ≠ .type "tuple"; exact fun z => by cases z)⟩
  | _ => exact absurd (show false = true from p) Bool.false_ne_true
theorem op_is_ref : OpR X (compareOp .Is) (fun x y H Q => ∃ a b oa ob, x = .ref a ∧ y = .ref b ∧ H a = some oa ∧ isObj oa = true ∧ H b = some ob ∧ isObj ob = true ∧ Q (.bl (decide (a = b))) H) := by
  intro pins s σ H x y v u Q I rx ry h
  obtain ⟨a, b, oa, ob, rfl, rfl, ha, pa, hb, pb, q⟩ := h
  cases rx
  cases ry
  obtain ⟨o1, e1, n1⟩ := obj_there I ha pa
  obtain ⟨o2, e2, _⟩ := obj_there I hb pb
  by_cases z : a = b
  · subst z
    exact wpAny_is_ref_self (fin_bl I q (by simp))
  · exact wpAny_is_ref_other z e1 e2 n1 (fin_bl I q (by simp [z]))
theorem op_isnot_ref : OpR X (compareOp .IsNot) (fun x y H Q => ∃ a b oa ob, x = .ref a ∧ y = .ref b ∧ H a = some oa ∧ isObj oa = true ∧ H b = some ob ∧ isObj ob = true ∧ Q (.bl (!decide (a = b))) H) := by
  intro pins s σ H x y v u Q I rx ry h
  obtain ⟨a, b, oa, ob, rfl, rfl, ha, pa, hb, pb, q⟩ := h
  cases rx
  cases ry
  obtain ⟨o1, e1, n1⟩ := obj_there I ha pa
  obtain ⟨o2, e2, _⟩ := obj_there I hb pb
  by_cases z : a = b
  · subst z
    exact wpAny_isNot_ref_self (fin_bl I q (by simp))
  · exact wpAny_isNot_ref_other z e1 e2 n1 (fin_bl I q (by simp [z]))

/-- two rules for one operation: by cases -/
theorem OpR.or {f : Value → Value → Sem Value} {r r' : R2} (h : OpR X f r) (h' : OpR X f r') : OpR X f (fun x y H Q => r x y H Q ∨ r' x y H Q) := by
  intro pins s σ H x y v u Q I rx ry q
  rcases q with q | q
  · exact h pins s σ H x y v u Q I rx ry q
  · exact h' pins s σ H x y v u Q I rx ry q

theorem nomark (b : Expr) {op : CmpOp} (h : op ≠ .In := by decide) (h2 : op ≠ .NotIn := by decide) : behindInMarks op b = false := by
  have e1 : (op == CmpOp.In) = false := by cases op <;> first | rfl | exact absurd rfl h
  have e2 : (op == CmpOp.NotIn) = false := by cases op <;> first | rfl | exact absurd rfl h2
  cases b <;> simp [behindInMarks, e1, e2]
/-- a comparison as a value; hm: nomark b, or (for in, not in) by with_unfolding_all rfl -/
theorem pe_cmpR {op : CmpOp} {r : R2} (ho : OpR X (compareOp op) r) (ha : PE X a ta) (hb : PE X b tb) (hm : behindInMarks op b = false) : PE X (.Compare a [op] [b] pos) (tOp r ta tb) := by
  intro pins s σ H Q I h
  exact wpAny_Compare1 (binT ha hb I h fun v u s2 x y H2 I2 rx ry q => ho pins s2 σ H2 x y v u Q I2 rx ry q) hm
/-- a reading of a value as a test -/
def tTest (t : TE) : TT := fun σ H Q => t σ H fun x H' => ∃ k, x = .bl k ∧ Q k H'
theorem pt_cmpR {op : CmpOp} {r : R2} (ho : OpR X (compareOp op) r) (ha : PE X a ta) (hb : PE X b tb) (hm : behindInMarks op b = false) : PT X (.Compare a [op] [b] pos) (tTest (tOp r ta tb)) := by
  intro pins s σ H Q I h
  refine wpAny_isTrue_Compare1 (thn (ha pins s σ H _ I h) fun v s1 ⟨x, H1, I1, r1, q1⟩ => thn (hb pins s1 σ H1 _ I1 q1) fun u s2 ⟨y, H2, I2, r2, q2⟩ =>
    thn (ho pins s2 σ H2 x y v u _ I2 r1 r2 q2) fun c s3 ⟨z, H3, I3, r3, k, e, q3⟩ => ?_) hm
  subst e
  cases r3
  exact wpAny_truthy_bool ⟨H3, I3, q3⟩
/-- a op1 b op2 c -/
def tChain (r r' : R2) (ta tb tc : TE) : TE := fun σ H Q => ta σ H fun x H1 => tb σ H1 fun y H2 => r x y H2 fun z H3 => ∃ k, z = .bl k ∧
  (if k = true then tc σ H3 fun w' H4 => r' y w' H4 Q else Q (.bl false) H3)
theorem pe_chain {op op' : CmpOp} {r r' : R2} (ho : OpR X (compareOp op) r) (ho' : OpR X (compareOp op') r') (ha : PE X a ta) (hb : PE X b tb) (hc : PE X c tc)
    (hm : lastMarks [op, op'] [b, c] = false := by with_unfolding_all rfl) : PE X (.Compare a [op, op'] [b, c] pos) (tChain r r' ta tb tc) := by
  intro pins s σ H Q I h
  refine Compare_chain (thn (ha pins s σ H _ I h) fun v s1 ⟨x, H1, I1, r1, q1⟩ => chain_link (thn (hb pins s1 σ H1 _ I1 q1) fun u s2 ⟨y, H2, I2, r2, q2⟩ =>
    thn (ho pins s2 σ H2 x y v u _ I2 r1 r2 q2) fun d s3 ⟨z, H3, I3, r3, k, e, q3⟩ => ?_)) hm
  subst e
  cases r3
  refine wpAny_truthy_bool ?_
  cases k with
  | false => exact ite_ff ⟨.bl false, H3, I3, rfl, q3⟩
  | true => exact ite_tt (chain_last (thn (hc pins s3 σ H3 _ I3 q3) fun w' s4 ⟨z', H4, I4, r4, q4⟩ => ho' pins s4 σ H4 y z' u w' Q I4 r2 r4 q4))
theorem pt_chain {op op' : CmpOp} {r r' : R2} (ho : OpR X (compareOp op) r) (ho' : OpR X (compareOp op') r') (ha : PE X a ta) (hb : PE X b tb) (hc : PE X c tc)
    (hm : lastMarks [op, op'] [b, c] = false := by with_unfolding_all rfl) : PT X (.Compare a [op, op'] [b, c] pos) (tTest (tChain r r' ta tb tc)) := by
  intro pins s σ H Q I h
  refine isTrue_chain (thn (ha pins s σ H _ I h) fun v s1 ⟨x, H1, I1, r1, q1⟩ => test_link (thn (hb pins s1 σ H1 _ I1 q1) fun u s2 ⟨y, H2, I2, r2, q2⟩ =>
    thn (ho pins s2 σ H2 x y v u _ I2 r1 r2 q2) fun d s3 ⟨z, H3, I3, r3, k, e, q3⟩ => ?_)) hm
  subst e
  cases r3
  refine wpAny_truthy_bool ?_
  cases k with
  | false =>
    obtain ⟨k', e', q'⟩ := q3
    cases e'
    exact ite_ff ⟨H3, I3, q'⟩
  | true =>
    refine ite_tt (test_last (thn (hc pins s3 σ H3 _ I3 q3) fun w' s4 ⟨z', H4, I4, r4, q4⟩ => thn (ho' pins s4 σ H4 y z' u w' _ I4 r2 r4 q4) fun d' s5 ⟨z2, H5, I5, r5, k2, e2, q5⟩ => ?_))
    subst e2
    cases r5
    exact wpAny_truthy_bool ⟨H5, I5, q5⟩

/-! ### truth -/
/-- a value's truth by the abstract heap -/
def TruV (K : PySem.W.Frag) (x : V) (H : Hp) (k : Bool) : Prop :=
  match x with
  | .non => k = false
  | .bl b => k = b
  | .int i => k = (i != 0)
  | .str y => y.length ≤ sizeLine ∧ k = ((y.length : Int) != 0)
  | .byt y => y.size ≤ sizeLine ∧ k = ((y.size : Int) != 0)
  | .ref p => (∃ xs, SqL K H p xs ∧ k = !xs.isEmpty) ∨ (∃ xs, SqT K H p xs ∧ k = !xs.isEmpty) ∨ ∃ kvs, H p = some (.dK kvs) ∧ k = !kvs.isEmpty
  | _ => False
theorem isEmpty_kv {κ : Type} {kvs : List (κ × V)} {vs : List (κ × Value)} (r : KV kvs vs) : (!vs.isEmpty) = !kvs.isEmpty := by
  cases r <;> rfl
theorem isEmpty_of {xs : List V} {its : List Value} (r : Vals xs its) : (!its.toArray.isEmpty) = !xs.isEmpty := by
  cases r <;> simp
theorem line63 : (sizeLine : Nat) < 2 ^ 63 := by rw [sizeLine_eq]; decide
theorem tru_ok : TruR X (fun x H Q => ∃ k, TruV X.K x H k ∧ Q k H) := by
  intro pins s σ H x v Q I rx h
  obtain ⟨k, e, q⟩ := h
  have hl := line63
  have hs : sizeLine = 16777216 := sizeLine_eq
  cases x with
  | non =>
    cases rx
    have e' : k = false := e
    subst e'
    exact truthy_none ⟨H, I, q⟩
  | bl b =>
    cases rx
    have e' : k = b := e
    subst e'
    exact wpAny_truthy_bool ⟨H, I, q⟩
  | int i =>
    obtain ⟨t, rfl⟩ := rx
    have e' : k = (i != 0) := e
    subst e'
    exact PySem.P.truthy_int ⟨H, I, q⟩
  | str y =>
    obtain ⟨t, rfl⟩ := rx
    obtain ⟨hy, e'⟩ : y.length ≤ sizeLine ∧ k = ((y.length : Int) != 0) := e
    subst e'
    exact PySem.P.truthy_str (by omega) ⟨H, I.tok _, q⟩
  | byt y =>
    obtain ⟨t, rfl⟩ := rx
    obtain ⟨hy, e'⟩ : y.size ≤ sizeLine ∧ k = ((y.size : Int) != 0) := e
    subst e'
    exact PySem.W.truthy_bytes (by omega) ⟨H, I.tok _, q⟩
  | ref p =>
    cases rx
    have e' : (∃ xs, SqL X.K H p xs ∧ k = !xs.isEmpty) ∨ (∃ xs, SqT X.K H p xs ∧ k = !xs.isEmpty) ∨ ∃ kvs, H p = some (.dK kvs) ∧ k = !kvs.isEmpty := e
    rcases e' with ⟨xs, hx, e'⟩ | ⟨xs, hx, e'⟩ | ⟨kvs, hx, e'⟩
    · subst e'
      obtain ⟨its, r, pl, hz⟩ := I.list hx
      have hlen := r.length
      exact wpAny_truthy_list pl.isList (by simp only [List.size_toArray]; omega) ⟨H, I.tok _, by rw [isEmpty_of r]; exact q⟩
    · subst e'
      obtain ⟨its, r, pl, hz⟩ := I.tuple hx
      have hlen := r.length
      exact truthy_tuple pl (by simp only [List.size_toArray]; omega) ⟨H, I.tok _, by rw [isEmpty_of r]; exact q⟩
    · subst e'
      obtain ⟨hz, hS, vs, r, m⟩ : kvs.length ≤ sizeLine ∧ (p == sysModules) = false ∧ ∃ vs, KV kvs vs ∧ s.heap.DictOf (mixKind X.prog X.w) p vs := I.hok p _ hx
      have hlen : kvs.length = vs.length := Paired.length r
      exact wpAny_truthy_dict hS m (by omega) ⟨H, I.tok _, by rw [isEmpty_kv r]; exact q⟩
  | _ => exact (show False from e).elim
/-- any expression whose test is its value's truth (a name, a call, a subscript, a field ..: he by fun _ => rfl) -/
theorem pt_truth (ha : PE X a ta) (he : ∀ whole, isTrue a X.env whole = (do let v ← whole; standAt a.pos; holding [v] (truthy v))) :
    PT X a (fun σ H Q => ta σ H fun x H' => ∃ k, TruV X.K x H' k ∧ Q k H') := by
  intro pins s σ H Q I h
  exact isTrue_plain (thn (ha pins s σ H _ I h) fun v s1 ⟨x, H1, I1, r1, q1⟩ => tru_ok pins s1 σ H1 x v Q I1 r1 q1) (he _)

/-! ### strs and bytes -/
theorem pe_byt {x : List UInt8} {k : Nat} : PE X (.Constant (.bytes x) k pos) (fun _ H Q => Q (.byt x.toArray) H) := fun _ _ _ H _ I h => PySem.W.Constant_bytes ⟨.byt x.toArray, H, I.tok _, ⟨_, rfl⟩, h⟩
theorem op_add_str : OpR X (binaryOp .Add) (fun x y H Q => ∃ i j, x = .str i ∧ y = .str j ∧ i.length + j.length ≤ sizeLine ∧ Q (.str (i ++ j)) H) := by
  intro pins s σ H x y v u Q I rx ry h
  obtain ⟨i, j, rfl, rfl, hz, q⟩ := h
  obtain ⟨t, rfl⟩ := rx
  obtain ⟨t', rfl⟩ := ry
  exact add_str (fun t' tk => ⟨.str (i ++ j), H, I.tok _, ⟨_, rfl⟩, q⟩) hz
theorem iop_add_str : OpR X (inplaceOp .Add) (fun x y H Q => ∃ i j, x = .str i ∧ y = .str j ∧ i.length + j.length ≤ sizeLine ∧ Q (.str (i ++ j)) H) := by
  intro pins s σ H x y v u Q I rx ry h
  obtain ⟨i, j, rfl, rfl, hz, q⟩ := h
  obtain ⟨t, rfl⟩ := rx
  obtain ⟨t', rfl⟩ := ry
  exact iadd_str (fun t' tk => ⟨.str (i ++ j), H, I.tok _, ⟨_, rfl⟩, q⟩) hz
theorem op_add_byt : OpR X (binaryOp .Add) (fun x y H Q => ∃ i j, x = .byt i ∧ y = .byt j ∧ i.size + j.size ≤ 16777216 ∧ Q (.byt (i ++ j)) H) := by
  intro pins s σ H x y v u Q I rx ry h
  obtain ⟨i, j, rfl, rfl, hz, q⟩ := h
  obtain ⟨t, rfl⟩ := rx
  obtain ⟨t', rfl⟩ := ry
  exact PySem.W.KBy.add_bytes hz (fun t' tk => ⟨.byt (i ++ j), H, I.tok _, ⟨_, rfl⟩, q⟩)

def PlainIxT (b : Expr) : Prop := ∀ o i, subscripted b false o i = operate [o, i] (getItem o i)
/-- s[i], 0 ≤ i < len -/
theorem pe_item_str (ha : PE X a ta) (hb : PE X b tb) (hs : PlainIxT b) :
    PE X (.Subscript a b pos) (tOp (fun x y H Q => ∃ z i c, x = .str z ∧ y = .int i ∧ 0 ≤ i ∧ i < 2 ^ 63 ∧ i < z.length ∧ z.cps[i.toNat]? = some c ∧ Q (.str ⟨#[c]⟩) H) ta tb) := by
  intro pins s σ H Q I h
  refine Subscript_ (binT ha hb I h fun v u s2 x y H2 I2 rx ry q => ?_)
  obtain ⟨z, i, c, rfl, rfl, h0, h63, h1, hc, q⟩ := q
  obtain ⟨t, rfl⟩ := rx
  obtain ⟨t', rfl⟩ := ry
  have e : seqIndex? i z.length = some i.toNat := PySem.StrLaws.seqIndex_nonneg h0 h1
  exact tail_any (typeIs_str s2 z t) slot_str_getitem.lookup (getItem_str (c := c) (by
    have e1 : decide (i < -(2 ^ 63 : Int)) = false := decide_eq_false (by omega)
    have e2 : decide (i ≥ 2 ^ 63) = false := decide_eq_false (by omega)
    rw [e1, e2] <;> rfl) (by rw [e]; exact hc) ⟨.str ⟨#[c]⟩, H2, I2.tok _, ⟨_, rfl⟩, q⟩) (hs _ _)
/-- b[i], 0 ≤ i < len -/
theorem pe_item_byt (ha : PE X a ta) (hb : PE X b tb) (hs : PlainIxT b) :
    PE X (.Subscript a b pos) (tOp (fun x y H Q => ∃ (z : List UInt8) (i : Int), x = .byt z.toArray ∧ y = .int i ∧ z.length ≤ sizeLine ∧ 0 ≤ i ∧ i < z.length ∧ Q (.int ((z.getD i.toNat 0).toNat : Nat)) H) ta tb) := by
  intro pins s σ H Q I h
  refine Subscript_ (binT ha hb I h fun v u s2 x y H2 I2 rx ry q => ?_)
  obtain ⟨z, i, rfl, rfl, hz, h0, h1, q⟩ := q
  obtain ⟨t, rfl⟩ := rx
  obtain ⟨t', rfl⟩ := ry
  have hl : sizeLine = 16777216 := sizeLine_eq
  exact tail_any (PySem.W.typeIs_bytes s2 z.toArray t) PySem.W.FB.slot_bytes_getitem.lookup (PySem.W.getItem_bytes (by omega) h0 h1 ⟨.int ((z.getD i.toNat 0).toNat : Nat), H2, I2.tok _, ⟨_, rfl⟩, q⟩) (hs _ _)

/-! ### scalar builtins, by CallR -/
theorem vals1 {x : V} {us : List Value} (r : Vals [x] us) : ∃ u, us = [u] ∧ RelV x u := by
  cases r with
  | cons r1 r2 => cases r2; exact ⟨_, rfl, r1⟩
theorem vals2 {x y : V} {us : List Value} (r : Vals [x, y] us) : ∃ u w', us = [u, w'] ∧ RelV x u ∧ RelV y w' := by
  cases r with
  | cons r1 r2 =>
    cases r2 with
    | cons r3 r4 => cases r4; exact ⟨_, _, rfl, r1, r3⟩
theorem call_abs : CallR X (.builtin "abs") (fun xs H Q => ∃ i, xs = [.int i] ∧ Q (.int (if i < 0 then -i else i)) H) := by
  intro pins s σ H xs us Q I r h
  obtain ⟨i, rfl, q⟩ := h
  obtain ⟨u, rfl, t, rfl⟩ := vals1 r
  exact call_abs_int fun u tk => ⟨.int (if i < 0 then -i else i), H, I.tok _, ⟨_, rfl⟩, q⟩
theorem call_max2 (hc : X.calm = true) : CallR X (.builtin "max") (fun xs H Q => ∃ i j, xs = [.int i, .int j] ∧ Q (.int (if j > i then j else i)) H) := by
  intro pins s σ H xs us Q I r h
  obtain ⟨i, j, rfl, q⟩ := h
  obtain ⟨u, w', rfl, ⟨t, rfl⟩, ⟨t', rfl⟩⟩ := vals2 r
  refine max_two_ints (I.ok.hd hc) fun h' tk k => ⟨_, H, I.kept k, ?_, q⟩
  by_cases hj : j > i
  · rw [if_pos hj, if_pos hj]; exact ⟨_, rfl⟩
  · rw [if_neg hj, if_neg hj]; exact ⟨_, rfl⟩
theorem call_min2 (hc : X.calm = true) : CallR X (.builtin "min") (fun xs H Q => ∃ i j, xs = [.int i, .int j] ∧ Q (.int (if j < i then j else i)) H) := by
  intro pins s σ H xs us Q I r h
  obtain ⟨i, j, rfl, q⟩ := h
  obtain ⟨u, w', rfl, ⟨t, rfl⟩, ⟨t', rfl⟩⟩ := vals2 r
  refine min_two_ints (I.ok.hd hc) fun h' tk k => ⟨_, H, I.kept k, ?_, q⟩
  by_cases hj : j < i
  · rw [if_pos hj, if_pos hj]; exact ⟨_, rfl⟩
  · rw [if_neg hj, if_neg hj]; exact ⟨_, rfl⟩
theorem call_int1 : CallR X (.type "int") (fun xs H Q => (∃ i, xs = [.int i] ∧ Q (.int i) H) ∨ ∃ k, xs = [.bl k] ∧ Q (.int (if k then 1 else 0)) H) := by
  intro pins s σ H xs us Q I r h
  rcases h with ⟨i, rfl, q⟩ | ⟨k, rfl, q⟩
  · obtain ⟨u, rfl, t, rfl⟩ := vals1 r
    exact call_int_int ⟨.int i, H, I, ⟨_, rfl⟩, q⟩
  · obtain ⟨u, rfl, r1⟩ := vals1 r
    cases r1
    exact call_int_bool ⟨.int (if k then 1 else 0), H, I.tok _, ⟨_, rfl⟩, q⟩
theorem call_bool1 : CallR X (.type "bool") (fun xs H Q => (∃ i, xs = [.int i] ∧ Q (.bl (i != 0)) H) ∨ ∃ k, xs = [.bl k] ∧ Q (.bl k) H) := by
  intro pins s σ H xs us Q I r h
  rcases h with ⟨i, rfl, q⟩ | ⟨k, rfl, q⟩
  · obtain ⟨u, rfl, t, rfl⟩ := vals1 r
    exact call_bool_int ⟨.bl (i != 0), H, I, rfl, q⟩
  · obtain ⟨u, rfl, r1⟩ := vals1 r
    cases r1
    exact call_bool_bool ⟨.bl k, H, I, rfl, q⟩
theorem call_str_int : CallR X (.type "str") (fun xs H Q => ∃ i, xs = [.int i] ∧ i.natAbs.log2 < 1920 ∧ Q (.str (toString i)) H) := by
  intro pins s σ H xs us Q I r h
  obtain ⟨i, rfl, hz, q⟩ := h
  obtain ⟨u, rfl, t, rfl⟩ := vals1 r
  exact PySem.P.str_of_int hz ⟨.str _, H, I.tok _, ⟨_, rfl⟩, q⟩
theorem call_ord : CallR X (.builtin "ord") (fun xs H Q => ∃ x, xs = [.str x] ∧ x.length = 1 ∧ Q (.int (x.cps.getD 0 0 : Nat)) H) := by
  intro pins s σ H xs us Q I r h
  obtain ⟨x, rfl, hz, q⟩ := h
  obtain ⟨u, rfl, t, rfl⟩ := vals1 r
  exact ord_of_one hz ⟨.int _, H, I.tok _, ⟨_, rfl⟩, q⟩
theorem call_chr : CallR X (.builtin "chr") (fun xs H Q => ∃ i, xs = [.int i] ∧ 0 ≤ i ∧ i ≤ 1114111 ∧ Q (.str ⟨#[i.toNat]⟩) H) := by
  intro pins s σ H xs us Q I r h
  obtain ⟨i, rfl, h0, h1, q⟩ := h
  obtain ⟨u, rfl, t, rfl⟩ := vals1 r
  exact chr_of_range h0 h1 ⟨.str _, H, I.tok _, ⟨_, rfl⟩, q⟩
/-- len of a str, a bytes, a list, a tuple -/
def LenV (K : PySem.W.Frag) (x : V) (H : Hp) (n : Nat) : Prop :=
  match x with
  | .str y => y.length ≤ sizeLine ∧ n = y.length
  | .byt y => y.size ≤ sizeLine ∧ n = y.size
  | .ref p => (∃ xs, SqL K H p xs ∧ n = xs.length) ∨ ∃ xs, SqT K H p xs ∧ n = xs.length
  | _ => False
theorem call_len : CallR X (.builtin "len") (fun xs H Q => ∃ x n, xs = [x] ∧ LenV X.K x H n ∧ Q (.int n) H) := by
  intro pins s σ H xs us Q I r h
  obtain ⟨x, n, rfl, e, q⟩ := h
  obtain ⟨u, rfl, rx⟩ := vals1 r
  have hl := line63
  have hs : sizeLine = 16777216 := sizeLine_eq
  cases x with
  | str y =>
    obtain ⟨t, rfl⟩ := rx
    obtain ⟨hy, e'⟩ : y.length ≤ sizeLine ∧ n = y.length := e
    subst e'
    exact len_str (by omega) ⟨.int _, H, I.tok _, ⟨_, rfl⟩, q⟩
  | byt y =>
    obtain ⟨t, rfl⟩ := rx
    obtain ⟨hy, e'⟩ : y.size ≤ sizeLine ∧ n = y.size := e
    subst e'
    exact PySem.W.len_bytes (by omega) ⟨.int _, H, I.tok _, ⟨_, rfl⟩, q⟩
  | ref p =>
    cases rx
    have e' : (∃ xs, SqL X.K H p xs ∧ n = xs.length) ∨ ∃ xs, SqT X.K H p xs ∧ n = xs.length := e
    rcases e' with ⟨xs, hx, e'⟩ | ⟨xs, hx, e'⟩
    · subst e'
      obtain ⟨its, r', pl, hz⟩ := I.list hx
      have hlen := r'.length
      exact Calls.call_len_list pl.isList (by simp only [List.size_toArray]; omega) ⟨.int xs.length, H, I.tok _, ⟨_, by simp only [List.size_toArray]; rw [hlen]⟩, q⟩
    · subst e'
      obtain ⟨its, r', pl, hz⟩ := I.tuple hx
      have hlen := r'.length
      exact len_tuple pl (by simp only [List.size_toArray]; omega) ⟨.int xs.length, H, I.tok _, ⟨_, by simp only [List.size_toArray]; rw [hlen]⟩, q⟩
  | _ => exact (show False from e).elim
/-- divmod: a new tuple -/
theorem call_divmod : CallR X (.builtin "divmod") (fun xs H Q => ∃ i j, xs = [.int i, .int j] ∧ CDiv i j ∧ ∀ p, H p = none → Q (.ref p) (upd H p (.tup [.int (i / j), .int (i % j)]))) := by
  intro pins s σ H xs us Q I r h
  obtain ⟨i, j, rfl, ⟨h1, h2⟩, q⟩ := h
  obtain ⟨u, w', rfl, ⟨t, rfl⟩, ⟨t', rfl⟩⟩ := vals2 r
  refine divmod_int (by omega) ?_ (.inl (PyProof.noPylong_small (by omega)))
  rw [Int.fdiv_eq_ediv_of_nonneg i (by omega), Int.fmod_eq_emod_of_nonneg i (by omega)]
  have hn : H s.heap.objs.size = none := I.hok.fresh (Nat.le_refl _)
  refine ⟨.ref s.heap.objs.size, _, ?_, rfl, q _ hn⟩
  refine I.laid (fun b o e => Heap.get?_push_of_some _ e) (Nat.le_refl _) ⟨by simp only [List.length_cons, List.length_nil]; rw [sizeLine_eq]; decide, [.int (i / j) s.toks, .int (i % j) (s.toks + 1)], .cons ⟨_, rfl⟩ (.cons ⟨_, rfl⟩ .nil), ?_⟩
  exact ⟨_, Heap.get?_push_size s.heap rfl, rfl, 0, rfl⟩
end
end L2

namespace L2
open PySem PySem.Spec PyProof.Rows

/-! ### an instance, its attributes a map -/
structure ObjM (h : Heap) (x dx C : Addr) (mA : Str → Option Value) : Prop where
  obj : h.get? x = some (PySem.W.instObj C dx)
  ns : h.Ns1 dx mA
  ne : dx ≠ x

theorem lookIn_ns {h : Heap} {dx : Addr} {mA : Str → Option Value} (n : h.Ns1 dx mA) : ∃ od, h.get? dx = some od ∧ ∀ name, PySem.W.lookIn name od = some (mA name) := by
  obtain ⟨o, es, ep, ho, hd, hk, _, hm⟩ := n
  refine ⟨o, ho, fun name => ?_⟩
  have e := hm name
  unfold nsFind findBy at e
  rw [← Array.find?_toList] at e
  unfold PySem.W.lookIn
  rw [hd]
  dsimp only
  split
  · rename_i y q
    rw [q] at e
    exact congrArg some e
  · rename_i q
    rw [q] at e
    have a : es.toList.any (·.refKey) = false := by
      rw [List.any_eq_false]
      intro y hy
      obtain ⟨z, t, hkey⟩ := hk y (Array.mem_toList_iff.mp hy)
      simp [DictEntry.refKey, hkey]
    have a' : ¬ es.toList.any (·.refKey) = true := by rw [a]; exact Bool.false_ne_true
    rw [if_neg a']
    exact congrArg some e

theorem ObjM.look {h : Heap} {x dx C : Addr} {mA : Str → Option Value} (I : ObjM h x dx C mA) : ∃ od, PySem.W.InstAt h x (PySem.W.instObj C dx) C (some od) ∧ ∀ name, PySem.W.lookIn name od = some (mA name) :=
  let ⟨od, ho, hl⟩ := lookIn_ns I.ns
  ⟨od, ⟨I.obj, rfl, rfl, ho⟩, hl⟩

section
variable {prog : Program} {w : World} {A : Around} {E : Value → Shared → Prop} {s : Shared} {K : PySem.W.Frag} {x dx C f : Addr} {mA : Str → Option Value} {name : Str} {v : Value}

theorem get_map {expr : Bool} {Q : Value → Shared → Prop} (X : K.In s.heap) (I : ObjM s.heap x dx C mA) (hg : PySem.W.plainGet K C name = true) (hh : PySem.W.hasDictIn K C = true)
    (ha : PySem.W.findIn K (.ref C) name = some none) (hv : mA name = some v) (hv' : PySem.W.handedIn v = true) (h : Q v { s with toks := s.toks + 1 }) :
    wpAny (model prog w) A (getAttr (.ref x) name expr) Q E s := by
  obtain ⟨od, J, hl⟩ := I.look
  exact PySem.W.get_value X J (PySem.W.plainGet_of hg).1 (PySem.W.findObj_own hh ha rfl (by rw [hl, hv])) hv' h

theorem get_const {expr : Bool} {a : Value} {Q : Value → Shared → Prop} (X : K.In s.heap) (I : ObjM s.heap x dx C mA) (hg : PySem.W.plainGet K C name = true) (hh : PySem.W.hasDictIn K C = true)
    (ha : PySem.W.findIn K (.ref C) name = some (some a)) (hn : PySem.W.specialIn K a "__get__" = some none) (hc : PySem.W.copiedNames.contains name = false) (hv : mA name = none) (hv' : PySem.W.handedIn a = true)
    (h : Q a { s with toks := s.toks + 1 }) : wpAny (model prog w) A (getAttr (.ref x) name expr) Q E s := by
  obtain ⟨od, J, hl⟩ := I.look
  exact PySem.W.get_value X J (PySem.W.plainGet_of hg).1 (PySem.W.findObj_cls hh ha hn hv' hc (by rw [hl, hv])) hv' h

theorem get_meth {pl : Sem Bool} {Q : Value × List Value → Shared → Prop} (X : K.In s.heap) (I : ObjM s.heap x dx C mA) (hg : PySem.W.plainGet K C name = true)
    (hf : PySem.W.findIn K (.ref C) name = some (some (.ref f))) (ht : PySem.W.isFn K (.ref f) = true) (hv : mA name = none) (h : Q (.ref f, [.ref x]) s) :
    wpAny (model prog w) A (getMethod (.ref x) name pl) Q E s := by
  obtain ⟨od, J, hl⟩ := I.look
  exact PySem.W.method_fn X J (PySem.W.plainGet_of hg).1 (PySem.W.plainGet_of hg).2 hf (beq_iff_eq.mp ht) (by show (PySem.W.lookIn name od).map (·.isSome) = some false; rw [hl, hv]; rfl) h

theorem set_map {ns : List Str} {Q : Unit → Shared → Prop} (X : K.In s.heap) (I : ObjM s.heap x dx C mA)
    (hs : PySem.W.findIn K (.ref C) "__setattr__" = some (some (.builtin "object.__setattr__"))) (hp : PySem.W.plainOver K C = true) (ht : PySem.W.takerIn K C name = some none) (hh : PySem.W.hasDictIn K C = true)
    (hw : PySem.Within mA ns) (hsz : ns.length ≤ sizeLine)
    (h : ∀ h', ObjM h' x dx C (fun y => if y = name then some v else mA y) → Heap.SameBut dx s.heap h' → Q () { s with heap := h', toks := s.toks + 2 }) :
    wpAny (model prog w) A (setAttr (.ref x) name v) Q E s := by
  obtain ⟨od, J, hl⟩ := I.look
  refine PySem.W.set_plain X J hs (PySem.W.osa_open (s := { s with toks := s.toks + 1 }) (r := none) X J hp ht fun b => ?_)
  obtain ⟨cd, hc, hd'⟩ := PySem.W.any_some hh
  have hx : s.heap.get? x = some ⟨.ref C, some dx, .plain, #[]⟩ := I.obj
  refine wpAny_bind (wpAny_pure (wpAny_bind (wpAny_bind (wpAny_loadPart hx (wpAny_bind (PySem.W.Looks.here (s := { s with toks := s.toks + 1 }) (PySem.W.looks_clsIn X hc) ?_))))))
  rw [hd']
  refine wpAny_pure (a := some dx) (wpAny_bind (wpAny_pure (wpAny_bind ?_)))
  refine wpAny_nsSet1 (s := { s with toks := s.toks + 1 }) I.ns fun h' hn2 hs2 => ?_
  obtain ⟨oD, esD, epD, hoD, hdD, hcD⟩ := hn2.count (PySem.Within.cons name v hw)
  refine wpAny_bind (wpAny_lookBehind hoD (by rw [hdD]; exact pastItsLine_dict (Nat.le_trans hcD (by rw [List.length_cons]; omega))) ?_)
  exact wpAny_pure (h _ ⟨(hs2.2 _ (Ne.symm I.ne)).trans I.obj, hn2, I.ne⟩ hs2)

/-- C(..): the dict at the heap's end, the instance behind it; then its __init__ -/
theorem make_map {R : Result → Shared → Prop} {vs : List Value} {kw : List (Str × Value)} (X : K.In s.heap) (hm : PySem.W.makesIn K C = true)
    (hi : PySem.W.findIn K (.ref C) "__init__" = some (some (.ref f))) (hf : PySem.W.typeIn K (.ref f) = some (.type "function"))
    (h : codeAny (model prog w) (A.under (.builtin "type.__call__" ⟨.ref C :: vs, kw⟩)) (.call (.ref f) ⟨.ref (s.heap.objs.size + 1) :: vs, kw⟩) (PySem.W.InitBack (s.heap.objs.size + 1) R)
      { s with heap := (s.heap.push PySem.W.emptyDict).push (PySem.W.instObj C s.heap.objs.size) }) :
    codeAny (model prog w) A (.call (.ref C) ⟨vs, kw⟩) R s := by
  obtain ⟨hh, g, d, t, os⟩ := s
  exact PySem.W.make_core (PySem.W.makes_of X hm) (PySem.W.looks_findIn X hi) (fun self => PySem.W.bind_fn X self hf) (.inl rfl) h
/-- C() where there is no __init__ but object's -/
theorem make_map0 {R : Result → Shared → Prop} (X : K.In s.heap) (hm : PySem.W.makesIn K C = true)
    (hi : PySem.W.findIn K (.ref C) "__init__" = some (some (.builtin "object.__init__")))
    (hb : ∀ self, PySem.W.Looks (model prog w) s.heap (bindSpecial (.builtin "object.__init__") self) (.builtin "object.__init__", [self]))
    (h : codeAny (model prog w) (A.under (.builtin "type.__call__" ⟨[.ref C], []⟩)) (.call (.builtin "object.__init__") ⟨[.ref (s.heap.objs.size + 1)], []⟩) (PySem.W.InitBack (s.heap.objs.size + 1) R)
      { s with heap := (s.heap.push PySem.W.emptyDict).push (PySem.W.instObj C s.heap.objs.size) }) :
    codeAny (model prog w) A (.call (.ref C) ⟨[], []⟩) R s := by
  obtain ⟨hh, g, d, t, os⟩ := s
  exact PySem.W.make_core (PySem.W.makes_of X hm) (PySem.W.looks_findIn X hi) hb (.inr ⟨rfl, rfl⟩) h
end

/-! ### the attributes as a list of pairs -/
def putF (f : Str) (v : V) : List (Str × V) → List (Str × V)
  | [] => [(f, v)]
  | (g, x) :: r => if g = f then (g, v) :: r else (g, x) :: putF f v r
theorem lookup_putF (f g : Str) (v : V) : ∀ fs : List (Str × V), (putF f v fs).lookup g = if g = f then some v else fs.lookup g
  | [] => by
    show List.lookup g [(f, v)] = _
    by_cases h : g = f
    · have hb : (g == f) = true := beq_iff_eq.mpr h
      simp only [List.lookup, hb, if_pos h]
    · have hb : (g == f) = false := beq_eq_false_iff_ne.mpr h
      simp only [List.lookup, hb, if_neg h]
  | (k, x) :: r => by
    have ih := lookup_putF f g v r
    rw [show putF f v ((k, x) :: r) = (if k = f then (k, v) :: r else (k, x) :: putF f v r) from rfl]
    by_cases hk : k = f
    · rw [if_pos hk]
      by_cases h : g = k
      · have hb : (g == k) = true := beq_iff_eq.mpr h
        simp only [List.lookup, hb, if_pos (h.trans hk)]
      · have hb : (g == k) = false := beq_eq_false_iff_ne.mpr h
        simp only [List.lookup, hb, if_neg (fun e : g = f => h (e.trans hk.symm))]
    · rw [if_neg hk]
      by_cases h : g = k
      · have hb : (g == k) = true := beq_iff_eq.mpr h
        simp only [List.lookup, hb, if_neg (fun e : g = f => hk (h.symm.trans e))]
      · have hb : (g == k) = false := beq_eq_false_iff_ne.mpr h
        simp only [List.lookup, hb]
        exact ih
theorem keys_putF (f : Str) (v : V) : ∀ fs : List (Str × V), f ∈ (putF f v fs).map (·.1) ∧ ∀ g, g ∈ fs.map (·.1) → g ∈ (putF f v fs).map (·.1)
  | [] => ⟨by simp [putF], fun g h => by simp at h⟩
  | (k, x) :: r => by
    obtain ⟨i1, i2⟩ := keys_putF f v r
    rw [show putF f v ((k, x) :: r) = (if k = f then (k, v) :: r else (k, x) :: putF f v r) from rfl]
    by_cases hk : k = f
    · rw [if_pos hk]
      subst hk
      exact ⟨by simp, fun g h => by simpa using h⟩
    · rw [if_neg hk]
      refine ⟨?_, fun g h => ?_⟩
      · rw [List.map_cons]
        exact List.mem_cons_of_mem _ i1
      · rw [List.map_cons] at h ⊢
        rcases List.mem_cons.mp h with e | e
        · exact List.mem_cons.mpr (.inl e)
        · exact List.mem_cons_of_mem _ (i2 g e)
theorem length_putF (f : Str) (v : V) : ∀ fs : List (Str × V), (putF f v fs).length ≤ fs.length + 1
  | [] => by simp [putF]
  | (k, x) :: r => by
    have ih := length_putF f v r
    rw [show putF f v ((k, x) :: r) = (if k = f then (k, v) :: r else (k, x) :: putF f v r) from rfl]
    by_cases hk : k = f
    · rw [if_pos hk, List.length_cons, List.length_cons]; omega
    · rw [if_neg hk, List.length_cons, List.length_cons]; omega

theorem RelO.some_of {v : V} {o : Option Value} (r : RelO (some v) o) : ∃ u, o = some u ∧ RelV v u := by
  cases o with
  | none => exact (show False from r).elim
  | some u => exact ⟨u, rfl, r⟩
theorem RelO.none_of {o : Option Value} (r : RelO none o) : o = none := by
  cases o with
  | none => rfl
  | some u => exact (show False from r).elim
theorem handed_of {v : V} {u : Value} (r : RelV v u) : PySem.W.handedIn u = true := by
  cases v with
  | non => cases (show u = Value.none from r); rfl
  | bl b => cases (show u = Value.bool b from r); rfl
  | int i => obtain ⟨t, e⟩ := (show ∃ t, u = Value.int i t from r); cases e; rfl
  | str x => obtain ⟨t, e⟩ := (show ∃ t, u = Value.str x t from r); cases e; rfl
  | byt b => obtain ⟨t, e⟩ := (show ∃ t, u = Value.bytes b t from r); cases e; rfl
  | flt b => obtain ⟨t, e⟩ := (show ∃ t, u = Value.float b t from r); cases e; rfl
  | ref a => cases (show u = Value.ref a from r); rfl
  | ty n => cases (show u = Value.type n from r); rfl

section
variable {P : Program} {w : World} {H H' : Hp} {h h' : Heap} {a C dx : Addr} {fs fs' : List (Str × V)}
theorem ins_get (hok : HOk P w H h) (e : H a = some (.ins C dx fs)) : ∃ mA, ObjM h a dx C mA ∧ (∀ f, RelO (fs.lookup f) (mA f)) ∧ PySem.Within mA (fs.map (·.1)) ∧ fs.length ≤ 1000 ∧ H dx = some (.own a) := by
  obtain ⟨d, z, ne, ob, mA, n, r, q⟩ := (show ObjOk P w H h a (.ins C dx fs) from hok a _ e)
  exact ⟨mA, ⟨ob, n, ne⟩, r, q, z, d⟩
end

/-! ### what of the text a class must have -/
structure Cls (K : PySem.W.Frag) (C : Addr) : Prop where
  pg : PySem.W.plainGet K C Str.empty = true
  hd : PySem.W.hasDictIn K C = true
  po : PySem.W.plainOver K C = true
  sa : PySem.W.findIn K (.ref C) "__setattr__" = some (some (.builtin "object.__setattr__"))
theorem Cls.get {K : PySem.W.Frag} {C : Addr} (c : Cls K C) (f : Str) : PySem.W.plainGet K C f = true := c.pg
/-- no class of it has the name -/
def NoAttr (K : PySem.W.Frag) (C : Addr) (f : Str) : Prop := PySem.W.findIn K (.ref C) f = some none
theorem NoAttr.taker {K : PySem.W.Frag} {C : Addr} {f : Str} (n : NoAttr K C f) : PySem.W.takerIn K C f = some none := by
  unfold PySem.W.takerIn
  rw [show PySem.W.findIn K (.ref C) f = some none from n]
  rfl
/-- a constant of the class -/
structure Con (K : PySem.W.Frag) (C : Addr) (f : Str) (v : V) (u : Value) : Prop where
  at_ : PySem.W.findIn K (.ref C) f = some (some u)
  rel : RelV v u
  get : PySem.W.specialIn K u "__get__" = some none
  cp : PySem.W.copiedNames.contains f = false
/-- a method: a plain def of the class or of one above it -/
structure Meth (K : PySem.W.Frag) (C : Addr) (m : Str) (f : Addr) : Prop where
  at_ : PySem.W.findIn K (.ref C) m = some (some (.ref f))
  fn : PySem.W.isFn K (.ref f) = true
  kp : PySem.W.keepIn K (.ref f) = true

section
variable {X : Cx} {pins : List (Addr × Obj)} {σ : St} {H : Hp} {s : Shared} {a C dx : Addr} {fs : List (Str × V)} {f : Str} {v : V} {A : Around} {E : Value → Shared → Prop}

theorem getattr_ok {b : Bool} {Q : Value → Shared → Prop} (I : Inv X pins σ H s) (e : H a = some (.ins C dx fs)) (c : Cls X.K C) (n : NoAttr X.K C f) (l : fs.lookup f = some v)
    (h : ∀ u s', Inv X pins σ H s' → RelV v u → Q u s') : wpAny (model X.prog X.w) A (getAttr (.ref a) f b) Q E s := by
  obtain ⟨mA, O, r, _, _, _⟩ := ins_get I.hok e
  obtain ⟨u, hu, ru⟩ := RelO.some_of (v := v) (o := mA f) (by rw [← l]; exact r f)
  exact get_map I.kIn O (c.get f) c.hd n hu (handed_of ru) (h u _ (I.tok _) ru)

theorem getcon_ok {b : Bool} {u : Value} {Q : Value → Shared → Prop} (I : Inv X pins σ H s) (e : H a = some (.ins C dx fs)) (c : Cls X.K C) (k : Con X.K C f v u) (l : fs.lookup f = none)
    (h : ∀ s', Inv X pins σ H s' → Q u s') : wpAny (model X.prog X.w) A (getAttr (.ref a) f b) Q E s := by
  obtain ⟨mA, O, r, _, _, _⟩ := ins_get I.hok e
  have hn : mA f = none := RelO.none_of (by rw [← l]; exact r f)
  exact get_const I.kIn O (c.get f) c.hd k.at_ k.get k.cp hn (handed_of k.rel) (h _ (I.tok _))

theorem getmeth_ok {m : Str} {g : Addr} {pl : Sem Bool} {Q : Value × List Value → Shared → Prop} (I : Inv X pins σ H s) (e : H a = some (.ins C dx fs)) (c : Cls X.K C) (k : Meth X.K C m g) (l : fs.lookup m = none)
    (h : Q (.ref g, [.ref a]) s) : wpAny (model X.prog X.w) A (getMethod (.ref a) m pl) Q E s := by
  obtain ⟨mA, O, r, _, _, _⟩ := ins_get I.hok e
  have hn : mA m = none := RelO.none_of (by rw [← l]; exact r m)
  exact get_meth I.kIn O (c.get m) k.at_ k.fn hn h

theorem setattr_ok {y : V} {u : Value} {Q : Unit → Shared → Prop} (I : Inv X pins σ H s) (e : H a = some (.ins C dx fs)) (c : Cls X.K C) (n : NoAttr X.K C f) (hl : fs.length < 1000) (ry : RelV y u)
    (h : ∀ s', Inv X pins σ (upd H a (.ins C dx (putF f y fs))) s' → Q () s') : wpAny (model X.prog X.w) A (setAttr (.ref a) f u) Q E s := by
  obtain ⟨mA, O, r, wi, _, ho⟩ := ins_get I.hok e
  have hz : (fs.map (·.1)).length ≤ sizeLine := by rw [List.length_map, sizeLine_eq]; omega
  refine set_map I.kIn O c.sa c.po n.taker c.hd wi hz fun h' O' sb => h _ ?_
  have hd : ∃ o, h'.get? dx = some o := let ⟨o, _, _, e', _⟩ := O'.ns; ⟨o, e'⟩
  refine I.write (x := a) (e := dx) (by rw [e]; exact True.intro) (.inr ho) (fun b q hb z => (sb.2 b hb).trans z) hd ?_
  refine ⟨by rw [upd_ne O.ne]; exact ho, ?_, O.ne, O'.obj, _, O'.ns, fun g => ?_, fun g hg => ?_⟩
  · have := length_putF f y fs; omega
  · show RelO ((putF f y fs).lookup g) (if g = f then some u else mA g)
    rw [lookup_putF]
    by_cases q : g = f
    · rw [if_pos q, if_pos q]; exact ry
    · rw [if_neg q, if_neg q]; exact r g
  · by_cases q : g = f
    · rw [q]; exact (keys_putF f y fs).1
    · refine (keys_putF f y fs).2 g (wi g fun z => hg ?_)
      show (if g = f then some u else mA g) = none
      rw [if_neg q]; exact z

/-- a new instance, tracked, without attributes -/
theorem Inv.made (I : Inv X pins σ H s) : Inv X pins σ (upd (upd H s.heap.objs.size (.own (s.heap.objs.size + 1))) (s.heap.objs.size + 1) (.ins C s.heap.objs.size []))
    { s with heap := (s.heap.push PySem.W.emptyDict).push (PySem.W.instObj C s.heap.objs.size) } := by
  have e1 : (s.heap.push PySem.W.emptyDict).get? s.heap.objs.size = some PySem.W.emptyDict := Heap.get?_push_size s.heap rfl
  have e2 : ((s.heap.push PySem.W.emptyDict).push (PySem.W.instObj C s.heap.objs.size)).get? (s.heap.objs.size + 1) = some (PySem.W.instObj C s.heap.objs.size) := by
    have := Heap.get?_push_size (s.heap.push PySem.W.emptyDict) (o := PySem.W.instObj C s.heap.objs.size) rfl
    rwa [Heap.size_push] at this
  have e3 : (s.heap.push PySem.W.emptyDict).Ns s.heap.objs.size (fun _ => none) := ⟨PySem.W.emptyDict, #[], _, e1, rfl, (fun e he => absurd he (by simp)), fun _ => rfl⟩
  have I1 := I.laid (a := s.heap.objs.size) (o := .own (s.heap.objs.size + 1)) (h' := s.heap.push PySem.W.emptyDict) (t' := s.toks) (fun b u q => Heap.get?_push_of_some _ q) (Nat.le_refl _) ⟨_, e1⟩
  refine I1.laid (a := s.heap.objs.size + 1) (o := .ins C s.heap.objs.size []) (t' := s.toks) (fun b u q => Heap.get?_push_of_some _ q) (Nat.le_of_eq (Heap.size_push _ _)) ?_
  have ne : s.heap.objs.size ≠ s.heap.objs.size + 1 := Nat.ne_of_lt (Nat.lt_succ_self _)
  refine ⟨by rw [upd_ne ne, upd_same], Nat.zero_le _, ne, e2, fun _ => none, (Heap.Ns1.of_empty e3).at fun o q => Heap.get?_push_of_some _ q, fun _ => True.intro, fun y hy => absurd rfl hy⟩

/-- e.f where nothing but the object is asked: through attributeBase (super) and the last hold -/
theorem attr_of {prog : Program} {w : World} {env : Env} {e : Expr} {f : Str} {pos : Pos} {s : Shared} {Q : Value → Shared → Prop} (hb : attributeBase e f env (eval e env) = eval e env)
    (h : wpAny (model prog w) A (eval e env) (fun o s₁ => wpAny (model prog w) A (getAttr o f true) Q E s₁) E s) : wpAny (model prog w) A (eval (.Attribute e f pos) env) Q E s :=
  Attribute_any_ h (by rw [arm_eval_Attribute, hb])
end

/-! ### readings and rules -/
/-- e.f, an attribute of the instance -/
def tFld (K : PySem.W.Frag) (ta : TE) (f : Str) : TE := fun σ H Q => ta σ H fun x H1 => ∃ a C dx fs v, x = .ref a ∧ H1 a = some (.ins C dx fs) ∧ Cls K C ∧ NoAttr K C f ∧ fs.lookup f = some v ∧ Q v H1
/-- e.f, a constant of the class -/
def tCon (K : PySem.W.Frag) (ta : TE) (f : Str) : TE := fun σ H Q => ta σ H fun x H1 => ∃ a C dx fs v u, x = .ref a ∧ H1 a = some (.ins C dx fs) ∧ Cls K C ∧ Con K C f v u ∧ fs.lookup f = none ∧ Q v H1
/-- e.f = value -/
def sFld (K : PySem.W.Frag) (ta tv : TE) (f : Str) : TS := fun D σ H => tv σ H fun y H1 => ta σ H1 fun x H2 => ∃ a C dx fs, x = .ref a ∧ H2 a = some (.ins C dx fs) ∧ Cls K C ∧ NoAttr K C f ∧ fs.length < 1000 ∧
  D.nx σ (upd H2 a (.ins C dx (putF f y fs)))
/-- an augmented operator on two values -/
def InOp (X : Cx) (op : Operator) (rd : V → V → Hp → VK → Prop) : Prop :=
  ∀ (pins : List (Addr × Obj)) (s : Shared) (σ : St) (H : Hp) (x y : V) (u v : Value) (Q : VK), Inv X pins σ H s → RelV x u → RelV y v → rd x y H Q → wpAny (model X.prog X.w) X.A (inplaceOp op u v) (EP X pins σ Q) X.xe s
/-- e.f op= value -/
def sFldAug (K : PySem.W.Frag) (ta tv : TE) (rd : V → V → Hp → VK → Prop) (f : Str) : TS := fun D σ H => ta σ H fun x H1 => ∃ a C dx fs v, x = .ref a ∧ H1 a = some (.ins C dx fs) ∧ Cls K C ∧ NoAttr K C f ∧ fs.lookup f = some v ∧
  tv σ H1 fun y H2 => rd v y H2 fun z H3 => ∃ dx' fs', H3 a = some (.ins C dx' fs') ∧ fs'.length < 1000 ∧ D.nx σ (upd H3 a (.ins C dx' (putF f z fs')))

section
variable {X : Cx} {o e value : Expr} {f : Str} {pos pos' tpos : Pos} {ta tv : TE}
theorem pe_fld (he : PE X e ta) (hb : attributeBase e f X.env (eval e X.env) = eval e X.env) : PE X (.Attribute e f pos) (tFld X.K ta f) := by
  intro pins s σ H Q I h
  refine attr_of hb (thn (he pins s σ H _ I h) fun u s1 ⟨x, H1, I1, rx, a, C, dx, fs, v, ex, ea, c, n, l, q⟩ => ?_)
  subst ex
  obtain rfl : u = Value.ref a := rx
  exact getattr_ok I1 ea c n l fun u' s2 I2 ru => ⟨v, H1, I2, ru, q⟩
theorem pe_con (he : PE X e ta) (hb : attributeBase e f X.env (eval e X.env) = eval e X.env) : PE X (.Attribute e f pos) (tCon X.K ta f) := by
  intro pins s σ H Q I h
  refine attr_of hb (thn (he pins s σ H _ I h) fun u s1 ⟨x, H1, I1, rx, a, C, dx, fs, v, u0, ex, ea, c, k, l, q⟩ => ?_)
  subst ex
  obtain rfl : u = Value.ref a := rx
  exact getcon_ok I1 ea c k l fun s2 I2 => ⟨v, H1, I2, k.rel, q⟩
theorem ps_fld (ha : PE X o ta) (hv : PE X value tv) (hs : swapsWith value (some (.Attribute o f pos')) pos.line X.env = pure false) : PS X (.Assign [.Attribute o f pos'] value pos) (sFld X.K ta tv f) := by
  intro pins s σ H D I h
  refine plainObj_wpAny_Assign_Attribute (thn (hv pins s σ H _ I h) fun u s1 ⟨y, H1, I1, ry, q⟩ => thn (ha pins s1 σ H1 _ I1 q) fun ov s2 ⟨x, H2, I2, rx, a, C, dx, fs, ex, ea, c, n, l, q2⟩ => ?_) hs
  subst ex
  obtain rfl : ov = Value.ref a := rx
  exact setattr_ok I2 ea c n l ry fun s3 I3 => ⟨σ, _, I3, q2⟩
theorem ps_fldaug {op : Operator} {rd : V → V → Hp → VK → Prop} (ha : PE X o ta) (hv : PE X value tv) (hop : InOp X op rd) : PS X (.AugAssign (.Attribute o f tpos) op value pos) (sFldAug X.K ta tv rd f) := by
  intro pins s σ H D I h
  refine wpAny_AugAssign_AttributeAny (thn (ha pins s σ H _ I h) fun ov s1 ⟨x, H1, I1, rx, a, C, dx, fs, v, ex, ea, c, n, l, q⟩ => ?_)
  subst ex
  obtain rfl : ov = Value.ref a := rx
  refine getattr_ok I1 ea c n l fun u s2 I2 ru => thn (hv pins s2 σ H1 _ I2 q) fun w3 s3 ⟨y, H2, I3, ry, q3⟩ => thn (hop pins s3 σ H2 v y u w3 _ I3 ru ry q3) fun w4 s4 ⟨z, H3, I4, rz, dx', fs', ea', l', q4⟩ => ?_
  exact setattr_ok I4 ea' c n l' rz fun s5 I5 => ⟨σ, _, I5, q4⟩
def rAdd : V → V → Hp → VK → Prop := fun x y H Q => ∃ i j, x = .int i ∧ y = .int j ∧ Q (.int (i + j)) H
def rSub : V → V → Hp → VK → Prop := fun x y H Q => ∃ i j, x = .int i ∧ y = .int j ∧ Q (.int (i - j)) H
theorem in_add : InOp X .Add rAdd := by
  rintro pins s σ H x y u v Q I rx ry ⟨i, j, rfl, rfl, q⟩
  obtain ⟨t, rfl⟩ := (show ∃ t, u = Value.int i t from rx)
  obtain ⟨t', rfl⟩ := (show ∃ t', v = Value.int j t' from ry)
  exact PyProof.Rows.iadd_int ⟨.int (i + j), H, I.tok _, ⟨_, rfl⟩, q⟩
theorem in_sub : InOp X .Sub rSub := by
  rintro pins s σ H x y u v Q I rx ry ⟨i, j, rfl, rfl, q⟩
  obtain ⟨t, rfl⟩ := (show ∃ t, u = Value.int i t from rx)
  obtain ⟨t', rfl⟩ := (show ∃ t', v = Value.int j t' from ry)
  exact PyProof.Rows.isub_int ⟨.int (i - j), H, I.tok _, ⟨_, rfl⟩, q⟩

/-- what is between an instance and its method: the tree of a method call -/
theorem methcall_of {pl : Sem Bool} {m : Str} {apos : Pos} {args : List Expr} {pins : List (Addr × Obj)} {s : Shared} {σ : St} {H : Hp} {Q : Value → Shared → Prop} {te : TE} (he : PE X e te) (I : Inv X pins σ H s)
    (h : te σ H fun x H1 => ∃ a C dx fs g, x = .ref a ∧ H1 a = some (.ins C dx fs) ∧ Cls X.K C ∧ Meth X.K C m g ∧ fs.lookup m = none ∧
      ∀ s1, Inv X pins σ H1 s1 → wpAny (model X.prog X.w) X.A (callWith pos (.ref g) [.ref a] (backTo pos (starEach args X.env)) (backToKw pos (keywordEach [] X.env))) Q X.xe s1)
    (ht : eval (.Call (.Attribute e m apos) args [] pos) X.env = (do
      let ov ← eval e X.env
      standAt apos.atName
      let (f, first) ← holding [ov] (getMethod ov m pl)
      callWith pos f first (backTo pos (starEach args X.env)) (backToKw pos (keywordEach [] X.env)))) :
    wpAny (model X.prog X.w) X.A (eval (.Call (.Attribute e m apos) args [] pos) X.env) Q X.xe s := by
  refine PySem.W.methodCall_KW (pl := pl) (thn (he pins s σ H _ I h) fun u s1 ⟨x, H1, I1, rx, a, C, dx, fs, g, ex, ea, c, k, l, q⟩ => ?_) ht
  subst ex
  obtain rfl : u = Value.ref a := rx
  exact getmeth_ok I1 ea c k l (q s1 I1)
end

/-! ### isinstance -/
section
variable {X : Cx} {pins : List (Addr × Obj)} {σ : St} {H : Hp} {s : Shared} {A : Around} {E : Value → Shared → Prop} {Q : Value → Shared → Prop} {c : Value} {b : Bool}
/-- the type of a value, as the fragment's deciders take it; for an instance its class -/
inductive TyOf (K : PySem.W.Frag) (H : Hp) : V → Value → Prop where
  | non : TyOf K H .non (.type "NoneType")
  | bl (x : Bool) : TyOf K H (.bl x) (.type "bool")
  | int (i : Int) : TyOf K H (.int i) (.type "int")
  | str (x : Str) : TyOf K H (.str x) (.type "str")
  | flt (x : UInt64) : TyOf K H (.flt x) (.type "float")
  | lst {a : Addr} {xs : List V} (e : H a = some (.lst xs)) : TyOf K H (.ref a) (.type "list")
  | frz {a : Addr} {o : Obj} {xs : List V} (e : H a = some (.frz o (.lst xs))) : TyOf K H (.ref a) (.type "list")
  | tup {a : Addr} {xs : List V} (e : H a = some (.tup xs)) : TyOf K H (.ref a) (.type "tuple")
  | dK {a : Addr} {kvs : List (Key × V)} (e : H a = some (.dK kvs)) : TyOf K H (.ref a) (.type "dict")
  | dT {a : Addr} {kvs : List (List Key × V)} (e : H a = some (.dT kvs)) : TyOf K H (.ref a) (.type "dict")
  | ins {a C dx : Addr} {fs : List (Str × V)} (e : H a = some (.ins C dx fs)) (cl : Cls K C) (ha : PySem.W.findIn K (.ref C) "__class__" = some (some (.builtin "object.__class__")))
      (hn : PySem.W.specialIn K (.builtin "object.__class__") "__get__" = some (some (.builtin "getset_descriptor.__get__"))) (htk : PySem.W.takesIn K (.builtin "object.__class__") = some true)
      (hm : PySem.W.mroIn K C (.type "object") = some true) : TyOf K H (.ref a) (.ref C)
/-- isinstance(x, c) for one class c, a built-in or an own one: kitOne's answer -/
theorem isinst_ok {x : V} {u t : Value} (I : Inv X pins σ H s) (rx : RelV x u) (ty : TyOf X.K H x t) (e : PySem.W.kitOne X.K t c = some b) (h : ∀ tk, Q (.bool b) { s with toks := tk }) :
    wpAny (model X.prog X.w) A (call (.builtin "isinstance") [u, c]) Q E s := by
  cases ty with
  | non => cases (show u = Value.none from rx); exact PySem.W.kia_one PySem.W.kitx_none I.kIn True.intro e (fun z => nomatch z) h
  | bl y => cases (show u = Value.bool y from rx); exact PySem.W.kia_one PySem.W.kitx_bool I.kIn True.intro e (fun z => nomatch z) h
  | int i => obtain ⟨t, q⟩ := (show ∃ t, u = Value.int i t from rx); cases q; exact PySem.W.kia_one PySem.W.kitx_int I.kIn True.intro e (fun z => nomatch z) h
  | str y => obtain ⟨t, q⟩ := (show ∃ t, u = Value.str y t from rx); cases q; exact PySem.W.kia_one PySem.W.kitx_str I.kIn True.intro e (fun z => nomatch z) h
  | flt y => obtain ⟨t, q⟩ := (show ∃ t, u = Value.float y t from rx); cases q; exact PySem.W.kia_one PySem.W.kitx_float I.kIn True.intro e (fun z => nomatch z) h
  | @lst a xs ea =>
    cases (show u = Value.ref a from rx)
    obtain ⟨_, _, n, _, h1⟩ := (show ObjOk X.prog X.w H s.heap a (.lst xs) from I.hok a _ ea)
    exact PySem.W.kia_one PySem.W.kitx_list I.kIn ⟨_, h1, rfl⟩ e (fun z => nomatch z) h
  | @frz a ob xs ea =>
    cases (show u = Value.ref a from rx)
    obtain ⟨_, _, _, n, _, h1⟩ := (show ObjOk X.prog X.w H s.heap a (.frz ob (.lst xs)) from I.hok a _ ea)
    exact PySem.W.kia_one PySem.W.kitx_list I.kIn ⟨_, h1, rfl⟩ e (fun z => nomatch z) h
  | @tup a xs ea =>
    cases (show u = Value.ref a from rx)
    obtain ⟨_, _, _, p⟩ := (show ObjOk X.prog X.w H s.heap a (.tup xs) from I.hok a _ ea)
    obtain ⟨o, h1, h2, _⟩ := p
    exact PySem.W.kia_one PySem.W.kitx_tuple I.kIn ⟨o, h1, h2⟩ e (fun z => nomatch z) h
  | @dK a kvs ea =>
    cases (show u = Value.ref a from rx)
    obtain ⟨_, _, vs, _, p⟩ := (show ObjOk X.prog X.w H s.heap a (.dK kvs) from I.hok a _ ea)
    obtain ⟨o, es, ep, h1, h2, _⟩ := p
    exact PySem.W.kia_one PySem.W.kitx_dict I.kIn ⟨o, h1, h2.1⟩ e (fun z => nomatch z) h
  | @dT a kvs ea =>
    cases (show u = Value.ref a from rx)
    obtain ⟨_, _, xs, _, o, es, ep, h1, h2, _⟩ := (show ObjOk X.prog X.w H s.heap a (.dT kvs) from I.hok a _ ea)
    exact PySem.W.kia_one PySem.W.kitx_dict I.kIn ⟨o, h1, h2.1⟩ e (fun z => nomatch z) h
  | @ins a C dx fs ea cl ha hn htk hm =>
    cases (show u = Value.ref a from rx)
    obtain ⟨mA, O, _⟩ := ins_get I.hok ea
    obtain ⟨od, J, _⟩ := O.look
    exact PySem.W.kia_one (PySem.W.kitx_own (cl.get _) cl.hd ha hn htk hm) I.kIn J e (fun z => nomatch z) h
end
end L2

namespace L2
open PySem PySem.Spec PyProof.Rows

/-! ### room -/
structure Room (k : Nat) (A : Around) : Prop where
  hd : A.handled = none
  dp : A.depth + 3 * k + 5 < recursionLimit
  un : A.units + 16 * k + 200 < cLine
theorem Room.mono {j k : Nat} {A : Around} (r : Room k A) (h : j ≤ k) : Room j A := ⟨r.hd, by have := r.dp; omega, by have := r.un; omega⟩
theorem Room.deeper {k : Nat} {A : Around} (r : Room (k + 1) A) (env : Env) : Room k (A.deeper env) :=
  ⟨r.hd, by have := r.dp; show A.depth + 1 + 3 * k + 5 < _; omega, by have := r.un; show A.units + 3 + 16 * k + 200 < _; omega⟩
theorem Room.in1 {k : Nat} {A : Around} (r : Room (k + 1) A) : Room k A.in1 :=
  ⟨r.hd, by have := r.dp; show A.depth + 3 * k + 5 < _; omega, by have := r.un; show A.units + 1 + 16 * k + 200 < _; omega⟩
theorem make_depth {A : Around} {C : Addr} {us : List Value} {kw : List (Str × Value)} : (A.under (.builtin "type.__call__" ⟨.ref C :: us, kw⟩)).depth = A.depth + 1 := by
  first | rfl | simp [Around.under, Code.weight, Code.isCreation, Code.isGuard, Code.isCaller, Code.frames, Code.isFrame, guardIds]
theorem make_units {A : Around} {C : Addr} {us : List Value} {kw : List (Str × Value)} : (A.under (.builtin "type.__call__" ⟨.ref C :: us, kw⟩)).units = A.units + 1 := by
  first | rfl | simp [Around.under, Code.cUnits, Code.frames, Code.isFrame]
theorem Room.make {k : Nat} {A : Around} (r : Room (k + 1) A) (C : Addr) (us : List Value) (kw : List (Str × Value)) : Room k (A.under (.builtin "type.__call__" ⟨.ref C :: us, kw⟩)) :=
  ⟨r.hd, by have := r.dp; rw [make_depth]; omega, by have := r.un; rw [make_units]; omega⟩
theorem Room.depth {k : Nat} {A : Around} (r : Room k A) : A.depth < recursionLimit := by have := r.dp; omega
theorem Room.units {k : Nat} {A : Around} (r : Room k A) : A.units + 64 < cLine := by have := r.un; omega
theorem Room.units0 {k : Nat} {A : Around} (r : Room k A) : A.units < cLine := by have := r.un; omega

/-! ### argument lists and displays -/
def tNil : TA := fun _ H Q => Q [] H
def tCons (ta : TE) (tr : TA) : TA := fun σ H Q => ta σ H fun x H1 => tr σ H1 fun xs H2 => Q (x :: xs) H2
section
variable {X : Cx} {e : Expr} {es : List Expr} {te : TE} {t : TA} {pos : Pos}
theorem pa_nil : PA X [] tNil := fun _ _ _ _ H Q I h => Calls.spliced_nil ⟨[], H, I, .nil, h⟩
theorem pa_cons (ha : PE X e te) (hr : PA X es t) (hs : starEach (e :: es) X.env = (false, eval e X.env) :: starEach es X.env := by rfl) : PA X (e :: es) (tCons te t) := by
  intro pos pins s σ H Q I h
  rw [hs]
  show wpAny _ _ (spliced ((false, eval e X.env) :: backTo pos (starEach es X.env))) _ _ s
  refine Calls.spliced_cons (thn (ha pins s σ H _ I h) fun u s1 ⟨x, H1, I1, r1, q1⟩ => ?_)
  exact thn (hr pos pins s1 σ H1 _ I1 q1) fun us s2 ⟨xs, H2, I2, r2, q2⟩ => ⟨x :: xs, H2, I2, .cons r1 r2, q2⟩

/-- a tuple, a list of written items -/
def tTup (t : TA) : TE := fun σ H Q => t σ H fun xs H1 => xs.length ≤ sizeLine ∧ ∀ p, H1 p = none → Q (.ref p) (upd H1 p (.tup xs))
def tLst (t : TA) : TE := fun σ H Q => t σ H fun xs H1 => xs.length ≤ sizeLine ∧ ∀ p, H1 p = none → Q (.ref p) (upd H1 p (.lst xs))
theorem pe_tup {x1} (h : PA X es t) : PE X (.Tuple es x1 pos) (tTup t) := by
  intro pins s σ H Q I hq
  refine wpAny_Tuple_spliced (thn (h pos pins s σ H _ I hq) fun us s1 ⟨xs, H1, I1, r, z, q⟩ => ⟨by rw [← r.length]; exact z, ?_⟩)
  have hf : H1 s1.heap.objs.size = none := I1.hok.fresh (Nat.le_refl _)
  refine ⟨.ref s1.heap.objs.size, upd H1 s1.heap.objs.size (.tup xs), I1.laid (t' := s1.toks) (fun b u e => Heap.get?_push_of_some _ e) (Nat.le_refl _) ?_, rfl, q _ hf⟩
  exact ⟨z, us, r, ⟨_, Heap.get?_push_size _ rfl, rfl, _, rfl⟩⟩
theorem pe_lst (h : PA X es t) : PE X (.List es pos) (tLst t) := by
  intro pins s σ H Q I hq
  refine wpAny_List_spliced (thn (h pos pins s σ H _ I hq) fun us s1 ⟨xs, H1, I1, r, z, q⟩ => ⟨by rw [← r.length]; exact z, ?_⟩)
  have hf : H1 s1.heap.objs.size = none := I1.hok.fresh (Nat.le_refl _)
  refine ⟨.ref s1.heap.objs.size, upd H1 s1.heap.objs.size (.lst xs), I1.laid (t' := s1.toks) (fun b u e => Heap.get?_push_of_some _ e) (Nat.le_refl _) ?_, rfl, q _ hf⟩
  exact ⟨z, us, 0, r, Heap.get?_push_size _ rfl⟩
end

/-! ### what a def promises -/
/-- a def's promise: the bound arguments in the parameters' order, the heap, the wanted end, the wanted exception -/
abbrev Sp := List V → Hp → VK → XK → Prop
/-- how an exception lies behind a call (file 08 gives it): the callers' frames, abstract heap and state ahead of the call, the wish, the exception, the state -/
abbrev CXT := List Env → Hp → Shared → XK → Value → Shared → Prop

/-- the state at a call -/
structure Env0 (P : Program) (w : World) (K : PySem.W.Frag) (mg : Str → Option Value) (base : Heap) (A : Around) (outer : List Env) (s : Shared) (H : Hp) : Prop where
  frames : A.frames = some outer
  mod : Mod K mg base
  bs : ∀ b o, base.get? b = some o → s.heap.get? b = some o ∧ H b = none
  bsz : base.objs.size ≤ s.heap.objs.size
  funs : s.heap.FunFrames base outer
  frf : ∀ b ∈ frs outer, H b = none
  hok : HOk P w H s.heap
  bare : AllBare s.gens
/-- a call's end -/
def CE (outer : List Env) (P : Program) (w : World) (H : Hp) (s : Shared) (Q : VK) (u : Value) (s' : Shared) : Prop :=
  ∃ v H', s'.os = s.os ∧ AllBare s'.gens ∧ Un (frs outer) [] H H' s.heap s'.heap ∧ HOk P w H' s'.heap ∧ RelV v u ∧ Q v H'
def CR (CX : CXT) (outer : List Env) (P : Program) (w : World) (H : Hp) (s : Shared) (Q : VK) (E : XK) (r : Result) (s' : Shared) : Prop :=
  match r with
  | .ok (.ret u) => CE outer P w H s Q u s'
  | .ok _ => False
  | .error e => CX outer H s E e s'
structure FnOk (P : Program) (w : World) (K : PySem.W.Frag) (mg : Str → Option Value) (base : Heap) (CX : CXT) (k : Nat) (f : Addr) (fd : FuncData) (ps : List Str) (sp : Sp) : Prop where
  len : ∀ vs H Q E, sp vs H Q E → vs.length = ps.length
  run : ∀ (A : Around) (outer : List Env) (s : Shared) (H : Hp) (args : Args) (us : List Value) (vs : List V) (Q : VK) (E : XK), Room k A → Env0 P w K mg base A outer s H → BindsTo s fd args (ps.zip us) → Vals vs us → sp vs H Q E →
    codeAny (model P w) A (.call (.ref f) args) (CR CX outer P w H s Q E) s
theorem FnOk.mono {P : Program} {w : World} {K : PySem.W.Frag} {mg : Str → Option Value} {base : Heap} {CX : CXT} {j k : Nat} {f : Addr} {fd : FuncData} {ps : List Str} {sp : Sp} (F : FnOk P w K mg base CX j f fd ps sp) (h : j ≤ k) :
    FnOk P w K mg base CX k f fd ps sp := ⟨F.len, fun A outer s H args us vs Q E hr => F.run A outer s H args us vs Q E (hr.mono h)⟩
/-- a weaker promise -/
theorem FnOk.imp {P : Program} {w : World} {K : PySem.W.Frag} {mg : Str → Option Value} {base : Heap} {CX : CXT} {k : Nat} {f : Addr} {fd : FuncData} {ps : List Str} {sp sp' : Sp} (F : FnOk P w K mg base CX k f fd ps sp)
    (h : ∀ vs H Q E, sp' vs H Q E → sp vs H Q E) : FnOk P w K mg base CX k f fd ps sp' :=
  ⟨fun vs H Q E q => F.len vs H Q E (h _ _ _ _ q), fun A outer s H args us vs Q E hr he hb hv hs => F.run A outer s H args us vs Q E hr he hb hv (h _ _ _ _ hs)⟩

theorem Env0.make {P : Program} {w : World} {K : PySem.W.Frag} {mg : Str → Option Value} {base : Heap} {A : Around} {outer : List Env} {s : Shared} {H : Hp} (e : Env0 P w K mg base A outer s H) (C : Addr) (us : List Value) (kw : List (Str × Value)) :
    Env0 P w K mg base (A.under (.builtin "type.__call__" ⟨.ref C :: us, kw⟩)) outer s H := ⟨by first | exact e.frames | (simpa [Around.under, Code.envs, Code.isFrame, pushEnvs] using e.frames), e.mod, e.bs, e.bsz, e.funs, e.frf, e.hok, e.bare⟩
theorem Env0.in1 {P : Program} {w : World} {K : PySem.W.Frag} {mg : Str → Option Value} {base : Heap} {A : Around} {outer : List Env} {s : Shared} {H : Hp} (e : Env0 P w K mg base A outer s H) :
    Env0 P w K mg base A.in1 outer s H := ⟨e.frames, e.mod, e.bs, e.bsz, e.funs, e.frf, e.hok, e.bare⟩

section
variable {X : Cx} {pins : List (Addr × Obj)} {σ : St} {H : Hp} {s s' : Shared}
/-- from a body: what a callee wants -/
theorem Inv.env0 (I : Inv X pins σ H s) : Env0 X.prog X.w X.K X.mg X.base X.A X.stack s H :=
  ⟨I.ok.frames, I.ok.mod, I.bs, Nat.le_trans I.ok.bsz I.sz, I.stack, I.stkFree, I.hok, I.bare⟩
/-- behind a call -/
theorem Inv.after {Q : VK} {u : Value} (I : Inv X pins σ H s) (h : CE X.stack X.prog X.w H s Q u s') : EP X pins σ Q u s' := by
  obtain ⟨v, H', os, bare, un, hok, r, q⟩ := h
  obtain ⟨hh, g, d, t, os'⟩ := s'
  obtain rfl : os' = s.os := os
  exact ⟨v, H', I.call (h' := hh) (g' := g) (d' := d) (t' := t) (ch := []) un hok bare (fun b z => absurd z (by simp)), r, q⟩
end

/-! ### calls -/
/-- f(..): the written arguments, then the defaults dvs; E: what is wanted of an exception -/
def tCall (sp : Sp) (dvs : List V) (E : XK) (t : TA) : TE := fun σ H Q => t σ H fun vs H1 => sp (vs ++ dvs) H1 Q E
/-- o.m(..) of an instance of the class at C -/
def tMeth (C : Addr) (m : Str) (sp : Sp) (dvs : List V) (E : XK) (ta : TE) (t : TA) : TE := fun σ H Q => ta σ H fun x H1 => ∃ a dx fs, x = .ref a ∧ H1 a = some (.ins C dx fs) ∧ fs.lookup m = none ∧
  t σ H1 fun vs H2 => sp (x :: (vs ++ dvs)) H2 Q E
/-- C(..): a new instance and its dict, then __init__ -/
def tMake (C : Addr) (sp : Sp) (dvs : List V) (E : XK) (t : TA) : TE := fun σ H Q => t σ H fun vs H1 => ∀ x dx, H1 x = none → H1 dx = none → dx ≠ x →
  sp (.ref x :: (vs ++ dvs)) (upd (upd H1 dx (.own x)) x (.ins C dx [])) (fun v H2 => v = .non ∧ Q (.ref x) H2) E

/-- how the parameters are bound: us the positional arguments, kw the keywords' values by name, ds the defaults that fill up -/
def Binds (K : PySem.W.Frag) (fd : FuncData) (ps : List Str) (ds : List Value) : Prop :=
  ∀ (s : Shared) (us : List Value), K.In s.heap → (us ++ ds).length = ps.length → BindsTo s fd ⟨us, []⟩ (ps.zip (us ++ ds))
/-- every parameter is given -/
theorem Binds.all {K : PySem.W.Frag} {fd : FuncData} {ps : List Str} (h : ∀ us : List Value, us.length = ps.length → bindArgs fd ⟨us, []⟩ = pure (ps.zip us)) : Binds K fd ps [] := fun s us _ hl => by
  rw [List.append_nil] at hl ⊢
  exact .of_eq (h us hl)

/-- an exception of a callee reaches what this body wants of exceptions -/
def Passes (CX : CXT) (X : Cx) (E : XK) : Prop := ∀ (pins : List (Addr × Obj)) (σ : St) (H : Hp) (s : Shared) (e : Value) (s' : Shared), Inv X pins σ H s → CX X.stack H s E e s' → X.xe e s'

section
variable {X : Cx} {CX : CXT} {k : Nat} {f C : Addr} {fd : FuncData} {ps : List Str} {sp : Sp} {dvs : List V} {ds : List Value} {E : XK} {x m : Str} {p pos apos : Pos} {e o : Expr} {es : List Expr} {ta : TE} {t : TA}

/-- the callee runs -/
theorem run_fn {pins : List (Addr × Obj)} {σ : St} {H : Hp} {s : Shared} {Q : VK} {us : List Value} {vs : List V} (F : FnOk X.prog X.w X.K X.mg X.base CX k f fd ps sp) (hr : Room k X.A) (hb : Binds X.K fd ps ds) (hd : Vals dvs ds) (hx : Passes CX X E)
    (I : Inv X pins σ H s) (r : Vals vs us) (h : sp (vs ++ dvs) H Q E) : wpAny (model X.prog X.w) X.A (call (.ref f) us) (EP X pins σ Q) X.xe s := by
  have r2 : Vals (vs ++ dvs) (us ++ ds) := r.append hd
  have hl : (us ++ ds).length = ps.length := by rw [← r2.length]; exact F.len _ _ _ _ h
  refine wpAny_call (codeAny_mono (F.run X.A X.stack s H ⟨us, []⟩ (us ++ ds) (vs ++ dvs) Q E hr I.env0 (hb s us I.kIn hl) r2 h) fun r s' hq => ?_)
  cases r with
  | error e => exact hx pins σ H s e s' I hq
  | ok fl =>
    cases fl with
    | ret u => exact I.after hq
    | next => exact False.elim hq
    | brk => exact False.elim hq
    | cont => exact False.elim hq

theorem pe_call (F : FnOk X.prog X.w X.K X.mg X.base CX k f fd ps sp) (hr : Room k X.A) (hg : Gl X x) (hm : X.mg x = some (.ref f)) (hk : PySem.W.keepIn X.K (.ref f) = true) (hb : Binds X.K fd ps ds) (hd : Vals dvs ds) (hx : Passes CX X E)
    (ha : PA X (e :: es) t) (hdb : (x == ("__debug__" : Str)) = false := by decide) (he : starEach (e :: es) X.env = (false, eval e X.env) :: starEach es X.env := by rfl) (hpl : (backTo pos (starEach es X.env)).any (·.1) = false := by rfl) :
    PE X (.Call (.Name x p) (e :: es) [] pos) (tCall sp dvs E t) := by
  intro pins s σ H Q I h
  refine wpAny_Call_Name_kw (ld_glob I hg hm ?_ hdb)
  refine PySem.W.callWith_K (h₀ := X.base) I.ok.mod.kin hk (thn (ha pos pins s σ H _ I h) fun us s1 ⟨vs, H1, I1, r, q⟩ => ⟨I1.kIn, ?_⟩) he hpl
  exact run_fn F hr hb hd hx I1 r q
theorem pe_call0 (F : FnOk X.prog X.w X.K X.mg X.base CX k f fd ps sp) (hr : Room k X.A) (hg : Gl X x) (hm : X.mg x = some (.ref f)) (hk : PySem.W.keepIn X.K (.ref f) = true) (hb : Binds X.K fd ps ds) (hd : Vals dvs ds) (hx : Passes CX X E)
    (hdb : (x == ("__debug__" : Str)) = false := by decide) : PE X (.Call (.Name x p) [] [] pos) (tCall sp dvs E tNil) := by
  intro pins s σ H Q I h
  refine wpAny_Call_Name_kw (ld_glob I hg hm ?_ hdb)
  exact PySem.W.callWith_K0 I.kIn hk (run_fn (us := []) F hr hb hd hx I .nil h)

/-- o.m(e, ..) -/
theorem pe_meth {pl : Sem Bool} (he : PE X o ta) (c : Cls X.K C) (hm : Meth X.K C m f) (F : FnOk X.prog X.w X.K X.mg X.base CX k f fd ps sp) (hr : Room k X.A) (hb : Binds X.K fd ps ds) (hd : Vals dvs ds) (hx : Passes CX X E) (ha : PA X (e :: es) t)
    (hst : starEach (e :: es) X.env = (false, eval e X.env) :: starEach es X.env := by rfl) (hpl : (backTo pos (starEach es X.env)).any (·.1) = false := by rfl)
    (ht : eval (.Call (.Attribute o m apos) (e :: es) [] pos) X.env = (do
      let ov ← eval o X.env
      standAt apos.atName
      let (f, first) ← holding [ov] (getMethod ov m pl)
      callWith pos f first (backTo pos (starEach (e :: es) X.env)) (backToKw pos (keywordEach [] X.env))) := by rfl) :
    PE X (.Call (.Attribute o m apos) (e :: es) [] pos) (tMeth C m sp dvs E ta t) := by
  intro pins s σ H Q I h
  refine PySem.W.methodCall_KW (pl := pl) (thn (he pins s σ H _ I h) fun u s1 ⟨x, H1, I1, rx, a, dx, fs, ex, ea, l, q⟩ => ?_) ht
  subst ex
  obtain rfl : u = Value.ref a := rx
  refine getmeth_ok I1 ea c hm l ?_
  refine PySem.W.callWith_K (first := [.ref a]) (h₀ := X.base) I.ok.mod.kin hm.kp (thn (ha pos pins s1 σ H1 _ I1 q) fun us s2 ⟨vs, H2, I2, r, q2⟩ => ⟨I2.kIn, ?_⟩) hst hpl
  exact run_fn (us := .ref a :: us) (vs := .ref a :: vs) F hr hb hd hx I2 (.cons rfl r) q2
/-- o.m() -/
theorem pe_meth0 {pl : Sem Bool} (he : PE X o ta) (c : Cls X.K C) (hm : Meth X.K C m f) (F : FnOk X.prog X.w X.K X.mg X.base CX k f fd ps sp) (hr : Room k X.A) (hb : Binds X.K fd ps ds) (hd : Vals dvs ds) (hx : Passes CX X E)
    (ht : eval (.Call (.Attribute o m apos) [] [] pos) X.env = (do
      let ov ← eval o X.env
      standAt apos.atName
      let (f, first) ← holding [ov] (getMethod ov m pl)
      callWith pos f first (backTo pos (starEach [] X.env)) (backToKw pos (keywordEach [] X.env))) := by rfl) :
    PE X (.Call (.Attribute o m apos) [] [] pos) (tMeth C m sp dvs E ta tNil) := by
  intro pins s σ H Q I h
  refine PySem.W.methodCall_KW (pl := pl) (thn (he pins s σ H _ I h) fun u s1 ⟨x, H1, I1, rx, a, dx, fs, ex, ea, l, q⟩ => ?_) ht
  subst ex
  obtain rfl : u = Value.ref a := rx
  refine getmeth_ok I1 ea c hm l ?_
  exact PySem.W.callWith_K0 (first := [.ref a]) I1.kIn hm.kp (run_fn (us := [.ref a]) (vs := [.ref a]) F hr hb hd hx I1 (.cons rfl .nil) q)

/-- what a class must have to be made -/
structure Mk (K : PySem.W.Frag) (C f : Addr) : Prop where
  makes : PySem.W.makesIn K C = true
  init : PySem.W.findIn K (.ref C) "__init__" = some (some (.ref f))
  fn : PySem.W.isFn K (.ref f) = true
  kp : PySem.W.keepIn K (.ref C) = true

theorem run_make {pins : List (Addr × Obj)} {σ : St} {H : Hp} {s : Shared} {Q : VK} {us : List Value} {vs : List V} (M : Mk X.K C f) (F : FnOk X.prog X.w X.K X.mg X.base CX k f fd ps sp) (hr : Room (k + 1) X.A) (hb : Binds X.K fd ps ds) (hd : Vals dvs ds)
    (hx : Passes CX X E) (I : Inv X pins σ H s) (r : Vals vs us)
    (h : ∀ x dx, H x = none → H dx = none → dx ≠ x → sp (.ref x :: (vs ++ dvs)) (upd (upd H dx (.own x)) x (.ins C dx [])) (fun v H2 => v = .non ∧ Q (.ref x) H2) E) :
    wpAny (model X.prog X.w) X.A (call (.ref C) us) (EP X pins σ Q) X.xe s := by
  have hq := h (s.heap.objs.size + 1) s.heap.objs.size (I.hok.fresh (Nat.le_succ _)) (I.hok.fresh (Nat.le_refl _)) (Nat.ne_of_lt (Nat.lt_succ_self _))
  have I2 := Inv.made (C := C) I
  have r2 : Vals (V.ref (s.heap.objs.size + 1) :: (vs ++ dvs)) (Value.ref (s.heap.objs.size + 1) :: (us ++ ds)) := .cons rfl (r.append hd)
  have hl : (Value.ref (s.heap.objs.size + 1) :: us ++ ds).length = ps.length := by
    have e := r2.length
    rw [F.len _ _ _ _ hq] at e
    exact e.symm
  refine wpAny_call (make_map (f := f) I.kIn M.makes M.init (beq_iff_eq.mp M.fn) (codeAny_mono (F.run _ X.stack _ _ ⟨Value.ref (s.heap.objs.size + 1) :: us, []⟩ (Value.ref (s.heap.objs.size + 1) :: (us ++ ds)) _ _ E (hr.make C us [])
    (I2.env0.make C us []) (hb _ (Value.ref (s.heap.objs.size + 1) :: us) I2.kIn hl) r2 hq) fun r s' hq' => ?_))
  cases r with
  | error e => exact hx pins σ _ _ e s' I2 hq'
  | ok fl =>
    cases fl with
    | ret u =>
      obtain ⟨v, H', I3, rv, ev, q3⟩ := I2.after hq'
      subst ev
      exact ⟨rv, ⟨V.ref (s.heap.objs.size + 1), H', I3, rfl, q3⟩⟩
    | next => exact False.elim hq'
    | brk => exact False.elim hq'
    | cont => exact False.elim hq'
theorem pe_make (M : Mk X.K C f) (F : FnOk X.prog X.w X.K X.mg X.base CX k f fd ps sp) (hr : Room (k + 1) X.A) (hg : Gl X x) (hm : X.mg x = some (.ref C)) (hb : Binds X.K fd ps ds) (hd : Vals dvs ds) (hx : Passes CX X E)
    (ha : PA X (e :: es) t) (hdb : (x == ("__debug__" : Str)) = false := by decide) (he : starEach (e :: es) X.env = (false, eval e X.env) :: starEach es X.env := by rfl) (hpl : (backTo pos (starEach es X.env)).any (·.1) = false := by rfl) :
    PE X (.Call (.Name x p) (e :: es) [] pos) (tMake C sp dvs E t) := by
  intro pins s σ H Q I h
  refine wpAny_Call_Name_kw (ld_glob I hg hm ?_ hdb)
  refine PySem.W.callWith_K (h₀ := X.base) I.ok.mod.kin M.kp (thn (ha pos pins s σ H _ I h) fun us s1 ⟨vs, H1, I1, r, q⟩ => ⟨I1.kIn, ?_⟩) he hpl
  exact run_make M F hr hb hd hx I1 r q
theorem pe_make0 (M : Mk X.K C f) (F : FnOk X.prog X.w X.K X.mg X.base CX k f fd ps sp) (hr : Room (k + 1) X.A) (hg : Gl X x) (hm : X.mg x = some (.ref C)) (hb : Binds X.K fd ps ds) (hd : Vals dvs ds) (hx : Passes CX X E)
    (hdb : (x == ("__debug__" : Str)) = false := by decide) : PE X (.Call (.Name x p) [] [] pos) (tMake C sp dvs E tNil) := by
  intro pins s σ H Q I h
  refine wpAny_Call_Name_kw (ld_glob I hg hm ?_ hdb)
  exact PySem.W.callWith_K0 I.kIn M.kp (run_make (us := []) M F hr hb hd hx I .nil h)
end

/-! ### keywords -/
/-- the values of the keywords, from the left -/
def PK (X : Cx) (kws : List Keyword) (t : TA) : Prop :=
  ∀ (pos : Pos) (pins : List (Addr × Obj)) (s : Shared) (σ : St) (H : Hp) (Q : List V → Hp → Prop), Inv X pins σ H s → t σ H Q → wpAny (model X.prog X.w) X.A (evalAll ((backToKw pos (keywordEach kws X.env)).map (·.2))) (AP X pins σ Q) X.xe s
section
variable {X : Cx} {CX : CXT} {k : Nat} {f C : Addr} {fd : FuncData} {ps ks : List Str} {sp : Sp} {E : XK} {x m : Str} {p pos apos kpos : Pos} {e o : Expr} {es : List Expr} {kws : List Keyword} {te ta : TE} {t tk : TA} {nm : Option Str}
theorem pk_nil : PK X [] tNil := fun _ _ _ _ H Q I h => wpAny_evalAll_nil ⟨[], H, I, .nil, h⟩
theorem pk_cons (ha : PE X e te) (hr : PK X kws t) : PK X (⟨nm, e, kpos⟩ :: kws) (tCons te t) := by
  intro pos pins s σ H Q I h
  show wpAny _ _ (evalAll ((do let v ← eval e X.env; standAt pos; pure v) :: (backToKw pos (keywordEach kws X.env)).map (·.2))) _ _ s
  refine wpAny_evalAll_cons (wpAny_bind (thn (ha pins s σ H _ I h) fun u s1 ⟨x, H1, I1, r1, q1⟩ => wpAny_bind (wpAny_standAt (wpAny_pure ?_))))
  exact thn (hr pos pins s1 σ H1 _ I1 q1) fun us s2 ⟨xs, H2, I2, r2, q2⟩ => ⟨x :: xs, H2, I2, .cons r1 r2, q2⟩

/-- how a call with keywords binds: g puts the positional values us and the keywords' values ws (names ks) in the parameters' order, defaults among them -/
structure KBinds (K : PySem.W.Frag) (fd : FuncData) (ps ks : List Str) (g : List Value → List Value → List Value) (gV : List V → List V → List V) : Prop where
  to : ∀ (s : Shared) (us ws : List Value), K.In s.heap → (g us ws).length = ps.length → BindsTo s fd ⟨us, ks.zip ws⟩ (ps.zip (g us ws))
  rel : ∀ {vs : List V} {us : List Value} {zs : List V} {ws : List Value}, Vals vs us → Vals zs ws → Vals (gV vs zs) (g us ws)
def tCallK (sp : Sp) (gV : List V → List V → List V) (E : XK) (t tk : TA) : TE := fun σ H Q => t σ H fun vs H1 => tk σ H1 fun zs H2 => sp (gV vs zs) H2 Q E
variable {g : List Value → List Value → List Value} {gV : List V → List V → List V}
theorem run_fnk {pins : List (Addr × Obj)} {σ : St} {H : Hp} {s : Shared} {Q : VK} {us ws : List Value} {vs zs : List V} (F : FnOk X.prog X.w X.K X.mg X.base CX k f fd ps sp) (hr : Room k X.A) (hb : KBinds X.K fd ps ks g gV) (hx : Passes CX X E)
    (I : Inv X pins σ H s) (r : Vals vs us) (rz : Vals zs ws) (h : sp (gV vs zs) H Q E) : wpAny (model X.prog X.w) X.A (call (.ref f) us (ks.zip ws)) (EP X pins σ Q) X.xe s := by
  have r2 := hb.rel r rz
  have hl : (g us ws).length = ps.length := by rw [← r2.length]; exact F.len _ _ _ _ h
  refine wpAny_call (codeAny_mono (F.run X.A X.stack s H ⟨us, ks.zip ws⟩ (g us ws) (gV vs zs) Q E hr I.env0 (hb.to s us ws I.kIn hl) r2 h) fun r s' hq => ?_)
  cases r with
  | error e => exact hx pins σ H s e s' I hq
  | ok fl =>
    cases fl with
    | ret u => exact I.after hq
    | next => exact False.elim hq
    | brk => exact False.elim hq
    | cont => exact False.elim hq
/-- f(e, .., k = v, ..) -/
theorem pe_callK (F : FnOk X.prog X.w X.K X.mg X.base CX k f fd ps sp) (hr : Room k X.A) (hg : Gl X x) (hm : X.mg x = some (.ref f)) (hk : PySem.W.keepIn X.K (.ref f) = true) (hb : KBinds X.K fd ps ks g gV) (hx : Passes CX X E)
    (ha : PA X (e :: es) t) (hkw : PK X kws tk) (hall : (backToKw pos (keywordEach kws X.env)).all (·.1.isSome) = true := by rfl) (hks : (backToKw pos (keywordEach kws X.env)).filterMap (·.1) = ks := by rfl)
    (hdb : (x == ("__debug__" : Str)) = false := by decide) (he : starEach (e :: es) X.env = (false, eval e X.env) :: starEach es X.env := by rfl)
    (hpl : ((backTo pos (starEach (e :: es) X.env)).any (·.1) || (backToKw pos (keywordEach kws X.env)).any (·.1.isNone)) = false := by rfl) :
    PE X (.Call (.Name x p) (e :: es) kws pos) (tCallK sp gV E t tk) := by
  intro pins s σ H Q I h
  refine wpAny_Call_Name_kw (ld_glob I hg hm ?_ hdb)
  refine PySem.W.callWith_KW (h₀ := X.base) I.ok.mod.kin hk hall (thn (ha pos pins s σ H _ I h) fun us s1 ⟨vs, H1, I1, r, q⟩ => ?_) hpl he
  refine thn (hkw pos pins s1 σ H1 _ I1 q) fun ws s2 ⟨zs, H2, I2, rz, q2⟩ => ⟨I2.kIn, ?_⟩
  rw [hks]
  exact run_fnk F hr hb hx I2 r rz q2
end

/-! ### a def's body keeps its promise -/
/-- names: the parameters first -/
structure FnScope (N P : List Str) (sc : Scope) : Prop where
  kind : sc.kind = .function
  co : sc.isCoroutine = false
  gen : sc.isGenerator = false
  nd : N.Nodup
  pre : N.take P.length = P
  par : ∀ x ∈ P, sc.names.lookup x = some .local ∨ sc.names.lookup x = some .cell
  nofree : ∀ y ∈ sc.names, y.2 ≠ .free

theorem bindL_out {kindOf : Str → Option NameKind} {x : Str} : ∀ {binds : List (Str × Value)} {m : Str → Option Value}, (∀ v, (x, v) ∉ binds) → bindL kindOf binds m x = m x
  | [], _, _ => rfl
  | (n, v) :: r, m, h => by
    unfold bindL
    rw [bindL_out fun w hw => h w (List.mem_cons_of_mem _ hw)]
    split
    · have : x ≠ n := by rintro rfl; exact h v List.mem_cons_self
      simp [this]
    · rfl
theorem bindC_out {kindOf : Str → Option NameKind} {x : Str} : ∀ {binds : List (Str × Value)} {m : Str → Option Value}, (∀ v, (x, v) ∉ binds) → bindC kindOf binds m x = m x
  | [], _, _ => rfl
  | (n, v) :: r, m, h => by
    unfold bindC
    rw [bindC_out fun w hw => h w (List.mem_cons_of_mem _ hw)]
    split
    · rfl
    · have : x ≠ n := by rintro rfl; exact h v List.mem_cons_self
      simp [this]
theorem bindL_get {kindOf : Str → Option NameKind} {x : Str} {v : Value} : ∀ {P : List Str} {vs : List Value} {i : Nat} {m : Str → Option Value}, P.Nodup → P[i]? = some x → vs[i]? = some v → kindOf x = some .local →
    bindL kindOf (P.zip vs) m x = some v
  | [], _, _, _, _, h, _, _ => by simp at h
  | _ :: _, [], _, _, _, _, h, _ => by simp at h
  | p :: P, w :: vs, 0, m, nd, h1, h2, hk => by
    simp at h1 h2; subst h1; subst h2
    show bindL kindOf ((p, w) :: P.zip vs) m p = _
    unfold bindL
    rw [bindL_out fun v hv => (List.nodup_cons.mp nd).1 (List.of_mem_zip hv).1, if_pos hk]
    simp
  | p :: P, w :: vs, i + 1, m, nd, h1, h2, hk => by
    show bindL kindOf ((p, w) :: P.zip vs) m x = _
    unfold bindL
    exact bindL_get (i := i) (List.nodup_cons.mp nd).2 (by simpa using h1) (by simpa using h2) hk
theorem bindC_get {kindOf : Str → Option NameKind} {x : Str} {v : Value} : ∀ {P : List Str} {vs : List Value} {i : Nat} {m : Str → Option Value}, P.Nodup → P[i]? = some x → vs[i]? = some v → kindOf x ≠ some .local →
    bindC kindOf (P.zip vs) m x = some v
  | [], _, _, _, _, h, _, _ => by simp at h
  | _ :: _, [], _, _, _, _, h, _ => by simp at h
  | p :: P, w :: vs, 0, m, nd, h1, h2, hk => by
    simp at h1 h2; subst h1; subst h2
    show bindC kindOf ((p, w) :: P.zip vs) m p = _
    unfold bindC
    rw [bindC_out fun v hv => (List.nodup_cons.mp nd).1 (List.of_mem_zip hv).1, if_neg hk]
    simp
  | p :: P, w :: vs, i + 1, m, nd, h1, h2, hk => by
    show bindC kindOf ((p, w) :: P.zip vs) m x = _
    unfold bindC
    exact bindC_get (i := i) (List.nodup_cons.mp nd).2 (by simpa using h1) (by simpa using h2) hk

/-- the names' values at the entry -/
def start (N : List Str) (vs : List V) : St := vs.map some ++ List.replicate (N.length - vs.length) none

/-- the context of a def's body, at its entry; an exception leaves the frame, then lies as CX says -/
def cxOf (CX : CXT) (P : Program) (w : World) (K : PySem.W.Frag) (mg : Str → Option Value) (base : Heap) (N : List Str) (qual : Str) (scope : Scope) (f : Addr) (cd : Value) (A : Around) (outer : List Env) (s : Shared) (H : Hp) (E : XK) : Cx where
  prog := P
  w := w
  K := K
  mg := mg
  base := base
  A := A.deeper (envOfC qual scope s.heap.objs.size f cd)
  N := N
  s₀ := s
  H₀ := H
  env := envOfC qual scope s.heap.objs.size f cd
  outer := outer
  stack := envOfC qual scope s.heap.objs.size f cd :: outer
  ex := []
  calm := true
  fn := fun _ => true
  pn := []
  xe := fun e s' => wpAny (model P w) (A.deeper (envOfC qual scope s.heap.objs.size f cd)) (leaving (envOfC qual scope s.heap.objs.size f cd) e) (fun _ s'' => CX outer H s E e s'') (fun e' s'' => CX outer H s E e' s'') s'

theorem cell_has {sc : Scope} {n : Nat} {x : Str} (h : sc.names.lookup x = some .cell) : ∃ c, (cellsFrom n sc.names []).lookup x = some c := by
  have q := PySem.W.cellsFrom_some sc.names n [] (.inl h)
  exact Option.isSome_iff_exists.mp q

theorem inv_start {CX : CXT} {P : Program} {w : World} {K : PySem.W.Frag} {mg : Str → Option Value} {base : Heap} {N ps : List Str} {qual : Str} {scope : Scope} {f : Addr} {cd : Value} {A : Around} {outer : List Env} {s s1 : Shared} {H : Hp} {E : XK} {us : List Value} {vs : List V}
    (S : FnScope N ps scope) (hd : A.handled = none) (e0 : Env0 P w K mg base A outer s H) (hl : vs.length = ps.length) (r : Vals vs us)
    (x : InCallC s s.heap.objs.size (bindL (envOfC qual scope s.heap.objs.size f cd).kindOf (ps.zip us) fun _ => none) (cellsFrom (s.heap.objs.size + 1) scope.names []) (bindC (envOfC qual scope s.heap.objs.size f cd).kindOf (ps.zip us) fun _ => none) s1) :
    Inv (cxOf CX P w K mg base N qual scope f cd A outer s H E) [] (start N vs) H s1 := by
  have hpl : ps.length ≤ N.length := by have := congrArg List.length S.pre; rw [List.length_take] at this; omega
  obtain ⟨h1, tk, rfl, hk⟩ := x.done
  have noA : ∀ b : Addr, b ∉ (cxOf CX P w K mg base N qual scope f cd A outer s H E).ex := fun b z => absurd (show b ∈ ([] : List Addr) from z) (by simp)
  refine ⟨⟨e0.mod, S.kind, rfl, rfl, Nat.le_refl _, fun y z c h1 h2 => ?_, fun y hy => ?_, fun y c _ h => ?_, fun _ => hd, Around.frames_deeper e0.frames, .inr ⟨rfl, rfl⟩, fun b z => absurd z (noA b), e0.bs, e0.bsz, fun b _ _ => noA b, fun b z => absurd z (noA b), e0.funs, e0.frf⟩,
    rfl, e0.bare, Un.kept hk, ⟨_, x.toInCall.ns, fun i y v h1 h2 h3 => ?_⟩, fun y c h => ⟨_, x.cell y c h⟩, e0.hok.fresh (Nat.le_refl _), fun y c h => ?_, fun p hp => absurd (show p ∈ ([] : List (Addr × Obj)) from hp) (by simp), e0.hok.kept hk, ?_⟩
  · exact name_of_addr x.apart (PySem.mem_of_lookup h1) (PySem.mem_of_lookup h2)
  · have hy : scope.names.lookup y = some .cell ∨ scope.names.lookup y = some .free := hy
    rcases hy with hy | hy
    · exact cell_has hy
    · exact absurd rfl (S.nofree _ (PySem.mem_of_lookup hy))
  · exact Nat.le_of_lt (x.above y c (PySem.mem_of_lookup h))
  · have hi : i < vs.length := by
      unfold start at h2
      by_cases hi : i < vs.length
      · exact hi
      · rw [List.getElem?_append_right (by simpa using hi)] at h2
        rw [List.getElem?_replicate] at h2
        split at h2 <;> cases h2
    have ha : vs[i]? = some v := by
      unfold start at h2
      rw [List.getElem?_append_left (by simpa using hi), List.getElem?_map] at h2
      cases e : vs[i]? with
      | none => rw [e] at h2; cases h2
      | some a => rw [e] at h2; cases h2; rfl
    obtain ⟨u, hu, rv⟩ := r.get ha
    have hp : ps[i]? = some y := by
      rw [← S.pre, List.getElem?_take_of_lt (by omega)]; exact h1
    have ndP : ps.Nodup := by rw [← S.pre]; exact S.nd.sublist (List.take_sublist _ _)
    refine ⟨u, rv, ?_⟩
    rcases S.par y (List.mem_of_getElem? hp) with k | k
    · exact .inl ⟨k, bindL_get ndP hp hu k⟩
    · obtain ⟨c, e⟩ := cell_has (n := s.heap.objs.size + 1) k
      refine .inr ⟨.inl k, c, e, ?_⟩
      have q := x.cell y c e
      rw [bindC_get ndP hp hu (by show scope.names.lookup y ≠ _; rw [k]; decide)] at q
      exact q
  · exact e0.hok.fresh (Nat.le_of_lt (x.above y c (PySem.mem_of_lookup h)))
  · unfold start
    show _ = N.length
    rw [List.length_append, List.length_map, List.length_replicate]
    omega

/-- THE RULE: a def (or a method) of the text, by its body. The body's reading t is chosen for each entry; it is run at the parameters' values -/
theorem fn_of {CX : CXT} {P : Program} {w : World} {K : PySem.W.Frag} {mg : Str → Option Value} {base : Heap} {k : Nat} {f : Addr} {name qual : Str} {params : Arguments} {body : List Stmt} {scope : Scope} {dV kV doc pm cdv ct oc : Value} {an od : Option Addr}
    {osl : Array (Option Value)} {N ps : List Str} {sp : Sp} (lk : K.lookup f = some ⟨oc, od, .func (PySem.W.fnOf name qual params body scope dV kV doc pm an cdv ct), osl⟩) (hcd : PySem.W.codeIn K cdv qual = true) (S : FnScope N ps scope)
    (len : ∀ vs H Q E, sp vs H Q E → vs.length = ps.length)
    (hbody : ∀ (A : Around) (outer : List Env) (s : Shared) (H : Hp) (vs : List V) (Q : VK) (E : XK), Room k (A.deeper (envOfC qual scope s.heap.objs.size f cdv)) → sp vs H Q E →
      ∃ t, PSs (cxOf CX P w K mg base N qual scope f cdv A outer s H E) body t ∧ t { nx := fun _ H' => Q .non H', rt := Q } (start N vs) H) :
    FnOk P w K mg base CX (k + 1) f (PySem.W.fnOf name qual params body scope dV kV doc pm an cdv ct) ps sp := by
  refine ⟨len, fun A outer s H args us vs Q E hr e0 hb r hsp => ?_⟩
  have hl := len _ _ _ _ hsp
  have KX : K.In s.heap := e0.mod.kin.keeps fun b o e => (e0.bs b o e).1
  have lim : s.heap.NoLimit := e0.mod.nolimit.keeps fun b o e => (e0.bs b o e).1
  have hkind : ∀ y ∈ ps.zip us, scope.names.lookup y.1 = some .local ∨ (scope.names.lookup y.1 = some .cell ∧ ((cellsFrom (s.heap.objs.size + 1) scope.names []).lookup y.1).isSome = true) := fun ⟨n, v⟩ hy => by
    rcases S.par n (List.of_mem_zip hy).1 with q | q
    · exact .inl q
    · exact .inr ⟨q, PySem.W.cellsFrom_some _ _ _ (.inl q)⟩
  refine codeAny_call_function hr.depth (KX _ _ lk) rfl S.co S.gen rfl (PySem.W.codeRec_of KX hcd) (hb _ _ _ _ ?_)
  refine wpAny_newFunctionEnv_cells S.kind hkind fun env he s1 x => ?_
  subst he
  refine ⟨lim.keeps x.toInCall.keep, codeAny_func ?_⟩
  obtain ⟨t, ht, hq⟩ := hbody A outer s H vs Q E (hr.deeper _) hsp
  have I : Inv (cxOf CX P w K mg base N qual scope f cdv A outer s H E) [] (start N vs) H s1 := inv_start S hr.hd e0 hl r x
  refine wpAny_mono (ht [] s1 (start N vs) H _ I hq) (fun fl s' hs => ?_) fun e s' hs => hs
  have fin : ∀ {σ' : St} {H' : Hp} {v : V} {u : Value}, Inv (cxOf CX P w K mg base N qual scope f cdv A outer s H E) [] σ' H' s' → RelV v u → Q v H' → CE outer P w H s Q u s' :=
    fun {σ' H' v u} J rv q => ⟨v, H', J.os, J.bare, J.base, J.hok, rv, q⟩
  cases fl with
  | ret u =>
    obtain ⟨v, σ', H', J, rv, q⟩ := hs
    exact fin J rv q
  | next =>
    obtain ⟨σ', H', J, q⟩ := hs
    exact fin (v := V.non) (u := Value.none) J rfl q
  | brk =>
    obtain ⟨_, _, _, q⟩ := hs
    exact False.elim q
  | cont =>
    obtain ⟨_, _, _, q⟩ := hs
    exact False.elim q
end L2

namespace L2
open PySem PySem.Spec PyProof.Rows
section
variable {X : Cx} {x : Str} {p pos : Pos} {e : Expr} {es : List Expr} {t : TA} {id T : String} {r : List V → Hp → VK → Prop}

def tCB (r : List V → Hp → VK → Prop) (t : TA) : TE := fun σ H Q => t σ H fun vs H1 => r vs H1 Q
/-- f(e, ..), f a built-in function -/
theorem pe_callB (hc : CallR X (.builtin id) r) (hg : Gl X x) (hm : X.mg x = none) (hv : bootBuiltins x = some (.builtin id)) (ha : PA X (e :: es) t) (hn : x ≠ "__name__" := by decide) (hdb : (x == ("__debug__" : Str)) = false := by decide)
    (he : starEach (e :: es) X.env = (false, eval e X.env) :: starEach es X.env := by rfl) (hpl : (backTo pos (starEach es X.env)).any (·.1) = false := by rfl) : PE X (.Call (.Name x p) (e :: es) [] pos) (tCB r t) := by
  intro pins s σ H Q I h
  refine wpAny_Call_Name_kw (ld_blt I hg hm hv ?_ hn hdb)
  exact PyProof.Rows.callWith_builtin1 (thn (ha pos pins s σ H _ I h) fun us s1 ⟨vs, H1, I1, r1, q1⟩ => hc pins s1 σ H1 vs us Q I1 r1 q1) he hpl
/-- T(e, ..), T a built-in type -/
theorem pe_callTy (hc : CallR X (.type T) r) (hg : Gl X x) (hm : X.mg x = none) (hv : bootBuiltins x = some (.type T)) (ha : PA X (e :: es) t) (hn : x ≠ "__name__" := by decide) (hdb : (x == ("__debug__" : Str)) = false := by decide)
    (he : starEach (e :: es) X.env = (false, eval e X.env) :: starEach es X.env := by rfl) (hpl : (backTo pos (starEach es X.env)).any (·.1) = false := by rfl) : PE X (.Call (.Name x p) (e :: es) [] pos) (tCB r t) := by
  intro pins s σ H Q I h
  refine wpAny_Call_Name_kw (ld_blt I hg hm hv ?_ hn hdb)
  exact PyProof.Rows.callWith_type1 (thn (ha pos pins s σ H _ I h) fun us s1 ⟨vs, H1, I1, r1, q1⟩ => hc pins s1 σ H1 vs us Q I1 r1 q1) he hpl
/-- T() -/
theorem pe_callTy0 (hc : CallR X (.type T) r) (hg : Gl X x) (hm : X.mg x = none) (hv : bootBuiltins x = some (.type T)) (hn : x ≠ "__name__" := by decide) (hdb : (x == ("__debug__" : Str)) = false := by decide) :
    PE X (.Call (.Name x p) [] [] pos) (tCB r tNil) := by
  intro pins s σ H Q I h
  refine wpAny_Call_Name_kw (ld_blt I hg hm hv ?_ hn hdb)
  exact PyProof.Rows.callWith_type0 (hc pins s σ H [] [] Q I .nil h)
end
end L2

namespace HT
open PySem PyProof.Rows

/-- t < u of tuples of ints -/
def lexLt : List Int → List Int → Bool
  | [], [] => false
  | [], _ :: _ => true
  | _ :: _, [] => false
  | x :: xs, y :: ys => if x = y then lexLt xs ys else decide (x < y)
theorem lexLt_cons (x y : Int) (xs ys : List Int) : lexLt (x :: xs) (y :: ys) = if x = y then lexLt xs ys else decide (x < y) := rfl
theorem lexLt_nil_nil : lexLt [] [] = false := rfl
theorem lexLt_nil_cons (y : Int) (ys : List Int) : lexLt [] (y :: ys) = true := rfl
theorem lexLt_cons_nil (x : Int) (xs : List Int) : lexLt (x :: xs) [] = false := rfl

theorem eqAt_int (A : Around) (s : Shared) (a : Int) (t : Tok) (c : Int) (u : Tok) : ∃ e, SeqAt.EqAt A s (.int a t) (.int c u) e ∧ (e = true ↔ a = c) :=
  ⟨(a == c), SeqAt.EqAt.int_int a t c u, by simp⟩
theorem rcLt_int (A : Around) (s : Shared) (a : Int) (t : Tok) (c : Int) (u : Tok) (prog : Program) (w : World) (E : Value → Shared → Prop) (Q : Value → Shared → Prop) (h : Q (.bool (decide (a < c))) s) :
    wpAny (model prog w) A (richCompare .Lt (.int a t) (.int c u)) Q E s :=
  (PyProof.Rows.lt_int h : wpAny (model prog w) A (compareOp .Lt (.int a t) (.int c u)) Q E s)

section
open PySem.SeqAt
open PySem.AutoSeq1 (wpAny_loadPart')
open PySem.MeetsSeq PySem.MeetsSeq2 PySem.MeetsSeq3

theorem tuple_lt_ints (l b : Addr) (items items2 : Array Value) (n n2 : Nat) (dd dd2 : Option Addr) (sl sl2 : Array (Option Value)) (ns ms : List Int) (hi : IntsAre items.toList ns) (hj : IntsAre items2.toList ms) :
    Meets (Builtin.«tuple.__lt__» ⟨[.ref l, .ref b], []⟩)
      (fun _ R s => s.heap.get? l = some { cls := .type "tuple", dict := dd, data := .seq items n, slots := sl } ∧ s.heap.get? b = some { cls := .type "tuple", dict := dd2, data := .seq items2 n2, slots := sl2 } ∧
        R (.ok (.ret (.bool (lexLt ns ms)))) s) :=
  .of_wp fun prog w A R s h => by
    obtain ⟨hp, g, d, tk, os⟩ := s; obtain ⟨hl, hb, h⟩ := h
    have f2 := AutoSeq1.sub_tuple_tuple
    have z1 : items.size = ns.length := by rw [← hi.length]; simp
    have z2 : items2.size = ms.length := by rw [← hj.length]; simp
    wp_walk using wpAny_loadPart' hl, wpAny_loadPart' hb, wpAny_forIn_list _ (fun rest b s' => b.1 = none ∧ s' = ⟨hp, g, d, tk, os⟩ ∧ ∃ (vs ws : List Value) (ns' ms' : List Int), rest = vs.zip ws ∧
      IntsAre vs ns' ∧ IntsAre ws ms' ∧ ns'.length + items2.size = ms'.length + items.size ∧ R (.ok (.ret (.bool (lexLt ns' ms')))) ⟨hp, g, d, tk, os⟩) _
    case turn =>
      rintro ⟨y, x⟩ rest b s' ⟨hb', rfl, vs, ws, ns', ms', hz, hvi, hwi, hlen, hR⟩
      cases hvi with
      | nil => rw [List.zip_nil_left] at hz; cases hz
      | cons a t hvi' =>
        cases hwi with
        | nil => rw [List.zip_nil_right] at hz; cases hz
        | cons c u hwi' =>
          rw [List.zip_cons_cons] at hz
          injection hz with hyx hrest
          injection hyx with hy hx
          subst hy hx
          rw [lexLt_cons] at hR
          simp only [List.length_cons] at hlen
          obtain ⟨e, he, hiff⟩ := eqAt_int A.in1 ⟨hp, g, d, tk, os⟩ a t c u
          refine wpAny_bind (he prog w _ _ ?_)
          cases e with
          | true =>
            rw [if_pos (hiff.mp rfl)] at hR
            wp_walk
            exact ⟨rfl, rfl, _, _, _, _, hrest, hvi', hwi', by omega, hR⟩
          | false =>
            rw [if_neg (fun q => absurd (hiff.mpr q) Bool.false_ne_true)] at hR
            have hri := rcLt_int A.in1 ⟨hp, g, d, tk, os⟩ a t c u prog w
            wp_walk using hri
            exact ⟨_, rfl, by simpa using hR⟩
    case fin =>
      rintro ⟨b1, b2⟩ s' ⟨hb', rfl, vs, ws, ns', ms', hz, hvi, hwi, hlen, hR⟩
      simp only at hb'
      subst hb'
      have hv : lexLt ns' ms' = decide (items.size < items2.size) := by
        cases hvi with
        | nil =>
          cases hwi with
          | nil =>
            simp only [List.length_nil] at hlen
            rw [lexLt_nil_nil]
            exact (decide_eq_false (by omega)).symm
          | cons c u hw =>
            simp only [List.length_nil, List.length_cons] at hlen
            rw [lexLt_nil_cons]
            exact (decide_eq_true (by omega)).symm
        | cons a t hv =>
          cases hwi with
          | nil =>
            simp only [List.length_nil, List.length_cons] at hlen
            rw [lexLt_cons_nil]
            exact (decide_eq_false (by omega)).symm
          | cons c u hw =>
            rw [List.zip_cons_cons] at hz
            cases hz
      rw [hv] at hR
      wp_walk
      exact ⟨_, rfl, by simpa [Builtin.Tuple.tupleCompareSizes] using hR⟩
    case h =>
      exact ⟨rfl, rfl, items.toList, items2.toList, ns, ms, rfl, hi, hj, by omega, h⟩
end

section
variable {prog : Program} {w : World} {A : Around} {E : Value → Shared → Prop} {s : Shared}

theorem lt_tupInts {l b : Addr} {items items2 : Array Value} {ns ms : List Int} {Q : Value → Shared → Prop} (hl : IsTup s.heap l items) (hb : IsTup s.heap b items2) (hi : IntsAre items.toList ns) (hj : IntsAre items2.toList ms)
    (hu : A.units < cLine) (h : Q (.bool (lexLt ns ms)) s) : wpAny (model prog w) A (compareOp .Lt (.ref l) (.ref b)) Q E s := by
  obtain ⟨⟨cls, dd, data, sl⟩, ho, hc, n, hd⟩ := id hl
  obtain ⟨⟨cls2, dd2, data2, sl2⟩, ho2, hc2, n2, hd2⟩ := id hb
  simp only at hc hd hc2 hd2
  subst hc hd hc2 hd2
  exact richCompare_meets_room (op := .Lt) ⟨_, ho, rfl⟩ ⟨_, ho2, rfl⟩ PySem.F.slot_tuple_lt PySem.F.entry_tuple_lt (PySem.F.args_tuple_lt_2 _ _) (tuple_lt_ints l b items items2 n n2 dd dd2 sl sl2 ns ms hi hj)
    ⟨ho, ho2, show Value.bool (lexLt ns ms) ≠ Value.notImplemented ∧ Q (.bool (lexLt ns ms)) s from ⟨(fun x => nomatch x), h⟩⟩ hu

/-- t + u, t not empty -/
theorem cat_tup {t b : Addr} {vs ws : List Value} {Q : Value → Shared → Prop} (ht : IsTup s.heap t vs.toArray) (hb : IsTup s.heap b ws.toArray) (hv : vs ≠ [])
    (h1 : ws = [] → Q (.ref t) s) (h2 : ws ≠ [] → Q (.ref s.heap.objs.size) { s with heap := s.heap.push { cls := .type "tuple", data := .seq (vs ++ ws).toArray } })
    (hsz : vs.length + ws.length ≤ sizeLine) : wpAny (model prog w) A (binaryOp .Add (.ref t) (.ref b)) Q E s := by
  obtain ⟨⟨cls, dd, data, sl⟩, ho, hc, n, hd⟩ := id ht
  obtain ⟨⟨cls2, dd2, data2, sl2⟩, ho2, hc2, n2, hd2⟩ := id hb
  simp only at hc hd hc2 hd2
  subst hc hd hc2 hd2
  have e : vs.toArray ++ ws.toArray = (vs ++ ws).toArray := by simp
  by_cases hw : ws = []
  · exact concat_meets ⟨_, ho, rfl⟩ ⟨_, ho2, rfl⟩ noFill_tuple_add seq_tuple_add PySem.F.slot_tuple_add PySem.F.entry_tuple_add (PySem.F.args_tuple_add_2 _ _)
      (tuple_addW1 t b vs.toArray ws.toArray n n2 dd dd2 sl sl2 (by simpa using hv) (by simp [hw])) ⟨ho, ho2, h1 hw⟩
  · refine concat_meets ⟨_, ho, rfl⟩ ⟨_, ho2, rfl⟩ noFill_tuple_add seq_tuple_add PySem.F.slot_tuple_add PySem.F.entry_tuple_add (PySem.F.args_tuple_add_2 _ _)
      (tuple_addW2 t b vs.toArray ws.toArray n n2 dd dd2 sl sl2 (by simpa using hv) (by simpa using hw) (by rw [List.size_toArray, List.size_toArray]; exact hsz)) ⟨ho, ho2, ?_⟩
    rw [e]
    exact h2 hw

/-! ### t[a:b], not the whole -/
/-- a slice's bound as a place among n (d where it is left out) -/
def sIx (n d : Nat) : Option Int → Nat
  | none => d
  | some v => if v < 0 then (v + (n : Int)).toNat else min v.toNat n
theorem sIx_none (n d : Nat) : sIx n d none = d := rfl
theorem sIx_nat (n d k : Nat) : sIx n d (some (k : Int)) = min k n := by
  show (if (k : Int) < 0 then ((k : Int) + (n : Int)).toNat else min (k : Int).toNat n) = min k n
  rw [if_neg (by omega), Int.toNat_natCast]
theorem sIx_le (n d : Nat) (hd : d ≤ n) (o : Option Int) : sIx n d o ≤ n := by
  cases o with
  | none => exact hd
  | some v =>
    show (if v < 0 then (v + (n : Int)).toNat else min v.toNat n) ≤ n
    by_cases hv : v < 0
    · rw [if_pos hv]; omega
    · rw [if_neg hv]; exact Nat.min_le_right _ _
theorem clip_eq (v : Int) (n d : Nat) : (if v < 0 then max (v + (n : Int)) 0 else min v (n : Int)) = ((sIx n d (some v) : Nat) : Int) := by
  show (if v < 0 then max (v + (n : Int)) 0 else min v (n : Int)) = (((if v < 0 then (v + (n : Int)).toNat else min v.toNat n) : Nat) : Int)
  by_cases hv : v < 0
  · simp only [if_pos hv]; omega
  · simp only [if_neg hv]; omega
theorem adjust_gen (lo hi : Option Int) (n : Nat) : Builtin.Slice.sliceAdjust lo hi 1 (n : Int) = (((sIx n 0 lo : Nat) : Int), ((sIx n n hi : Nat) : Int)) := by
  have h1 : ¬ ((1 : Int) < 0) := by omega
  unfold Builtin.Slice.sliceAdjust
  simp only [h1, if_false]
  refine Prod.ext ?_ ?_
  · cases lo with
    | none => rfl
    | some v => exact clip_eq v n 0
  · cases hi with
    | none => rfl
    | some v => exact clip_eq v n n
theorem places_gen (i j : Nat) : Builtin.Slice.slicePlaces (i : Int) (j : Int) 1 = j - i := by
  unfold Builtin.Slice.slicePlaces
  have h1 : (1 : Int) > 0 := by omega
  simp only [h1, if_true, Int.ediv_one]
  split <;> omega
theorem slicePart_ {v : Value} {o : Option Int} {Q : Option Int → Shared → Prop} (p : IsPart v o) (h : Q o s) : wpAny (model prog w) A (Builtin.Slice.slicePartIndex v) Q E s := by
  cases p with
  | none => exact slicePart_none h
  | int i t => exact slicePart_int h
theorem sliceApplied_gen {sl : Addr} {vl vu : Value} {lo hi : Option Int} {n : Nat} {Q : Int × Int × Nat → Shared → Prop} (hs : s.heap.IsSliceOf sl vl vu .none) (pl : IsPart vl lo) (pu : IsPart vu hi)
    (h : Q (((sIx n 0 lo : Nat) : Int), 1, sIx n n hi - sIx n 0 lo) s) : wpAny (model prog w) A (Builtin.Slice.sliceApplied (.ref sl) (pure (n : Int))) Q E s := by
  obtain ⟨os, hos, hcs, hds⟩ := id hs
  unfold Builtin.Slice.sliceApplied Builtin.Slice.sliceFields
  refine wpAny_bind (wpAny_bind (wpAny_field hos hds (x := vl) rfl (wpAny_bind (wpAny_field hos hds (x := vu) rfl (wpAny_bind (wpAny_field hos hds (x := .none) rfl (wpAny_pure ?_)))))))
  refine wpAny_bind (slicePart_none ?_)
  show wpAny _ _ (if ((1 : Int) == 0) = true then _ else _) _ _ s
  rw [if_neg (by decide)]
  refine wpAny_bind (slicePart_ pl (wpAny_bind (slicePart_ pu (wpAny_bind (wpAny_pure ?_)))))
  show wpAny _ _ (match Builtin.Slice.sliceAdjust lo hi 1 (n : Int) with | (lo, hi) => pure (lo, (1 : Int), Builtin.Slice.slicePlaces lo hi 1)) _ _ s
  rw [adjust_gen lo hi n]
  show wpAny _ _ (pure (((sIx n 0 lo : Nat) : Int), (1 : Int), Builtin.Slice.slicePlaces ((sIx n 0 lo : Nat) : Int) ((sIx n n hi : Nat) : Int) 1)) _ _ s
  rw [places_gen]
  exact wpAny_pure h
theorem pick_gen (xs : Array Value) (i k : Nat) : ((List.range k).filterMap fun (m : Nat) => xs[((i : Int) + (m : Int) * 1).toNat]?).toArray = ((xs.toList.drop i).take k).toArray := by
  have e : (fun (m : Nat) => xs[((i : Int) + (m : Int) * 1).toNat]?) = fun m => xs[i + m]? := by
    funext m
    have : ((i : Int) + (m : Int) * 1).toNat = i + m := by omega
    rw [this]
  rw [e]
  have := pick_run xs i k
  rw [List.filterMap_map] at this
  have e2 : ((fun x => xs[x]?) ∘ fun x => i + x) = fun m => xs[i + m]? := rfl
  rw [e2] at this
  rw [this]

theorem getItem_tuple_cut {t sl : Addr} {items : Array Value} {vl vu : Value} {lo hi : Option Int} {Q : Value → Shared → Prop} (ht : IsTup s.heap t items) (hs : s.heap.IsSliceOf sl vl vu .none) (pl : IsPart vl lo) (pu : IsPart vu hi)
    (hw : ¬ (sIx items.size 0 lo = 0 ∧ sIx items.size items.size hi = items.size))
    (h : Q (.ref s.heap.objs.size) { s with heap := s.heap.push { cls := .type "tuple", data := .seq ((items.toList.drop (sIx items.size 0 lo)).take (sIx items.size items.size hi - sIx items.size 0 lo)).toArray } })
    (hsz : items.size ≤ sizeLine) : wpAny (model prog w) A (getItem (.ref t) (.ref sl)) Q E s := by
  have htake : sizeOk (.seq ((items.toList.drop (sIx items.size 0 lo)).take (sIx items.size items.size hi - sIx items.size 0 lo)).toArray) := by
    show ((items.toList.drop (sIx items.size 0 lo)).take (sIx items.size items.size hi - sIx items.size 0 lo)).toArray.size ≤ sizeLine
    rw [List.size_toArray, List.length_take, List.length_drop, Array.length_toList]
    omega
  have hj : sIx items.size items.size hi ≤ items.size := sIx_le _ _ (Nat.le_refl _) hi
  obtain ⟨os, hos, hcs, hds⟩ := id hs
  have hTs : s.TypeIs (.ref sl) "slice" := ⟨os, hos, hcs⟩
  unfold getItem
  try with_reducible refine wpAny_holding ?_
  first | refine wpAny_bind (wpAny_pure ?_) | skip
  refine wpAny_bind (wpAny_sequenceKey ht.typeIs (by decide) ?_)
  refine wpAny_bind (wpAny_callSpecial?_slot (name := Str.ofString "__getitem__") ht.typeIs PyProof.Rows.slot_tuple_getitem
    (wpAny_call_entry PyProof.Rows.slot_tuple_getitem ht.typeIs entry_tuple_getitem ?_ (args_tuple_getitem _ _)))
  show wpAny _ _ (Builtin.Tuple.tupleItemsOf (.ref t) >>= _) _ _ s
  refine wpAny_bind (tupleItemsOf_ ht ?_)
  refine wpAny_bind (wpAny_typeOf hTs ?_)
  rw [if_pos (by decide)]
  refine wpAny_bind (sliceApplied_gen hs pl pu ?_)
  have hno : ¬ ((((sIx items.size 0 lo : Nat) : Int) == 0 && (1 : Int) == 1 && (sIx items.size items.size hi - sIx items.size 0 lo) == items.size) = true) := by
    intro q
    rw [Bool.and_eq_true, Bool.and_eq_true] at q
    have q1 : ((sIx items.size 0 lo : Nat) : Int) = 0 := eq_of_beq q.1.1
    have q2 : sIx items.size items.size hi - sIx items.size 0 lo = items.size := eq_of_beq q.2
    exact hw ⟨by omega, by omega⟩
  show wpAny _ _ (if (((sIx items.size 0 lo : Nat) : Int) == 0 && (1 : Int) == 1 && (sIx items.size items.size hi - sIx items.size 0 lo) == items.size) = true then _ else _) _ _ s
  rw [if_neg hno, pick_gen]
  first
    | exact wpAny_bind (m := Builtin.Tuple.tupleExact _) (wpAny_newObj_type (wpAny_pure ⟨_, rfl, wpAny_pure h⟩) htake)
    | exact wpAny_bind (m := Builtin.Tuple.tupleExact _) (wpAny_newObj_type (wpAny_bind (wpAny_pure (wpAny_pure ⟨_, rfl, wpAny_pure h⟩))) htake)
    | exact wpAny_bind (wpAny_bind (m := Builtin.Tuple.tupleExact _) (wpAny_newObj_type (wpAny_pure (wpAny_pure ⟨_, rfl, wpAny_pure h⟩)) htake))
    | exact wpAny_bind (wpAny_bind (m := Builtin.Tuple.tupleExact _) (wpAny_newObj_type (wpAny_pure ⟨_, rfl, wpAny_pure h⟩) htake))
end
end HT

namespace L2
open PySem PySem.Spec PyProof.Rows

/-! ### the parts of a slice -/
abbrev TO := St → Hp → (Option Int → Hp → Prop) → Prop
/-- a slice's part (left out, or an int) -/
def PO (X : Cx) (e : Option Expr) (t : TO) : Prop :=
  ∀ (pins : List (Addr × Obj)) (s : Shared) (σ : St) (H : Hp) (Q : Option Int → Hp → Prop), Inv X pins σ H s → t σ H Q →
    wpAny (model X.prog X.w) X.A (evalPart e X.env) (fun u s' => ∃ o H', Inv X pins σ H' s' ∧ IsPart u o ∧ Q o H') X.xe s
def tNoPart : TO := fun _ H Q => Q none H
def tPart (t : TE) : TO := fun σ H Q => t σ H fun x H1 => ∃ i, x = .int i ∧ Q (some i) H1

theorem intsAre_of {ns : List Int} : ∀ {us : List Value}, Vals (ns.map V.int) us → IntsAre us ns := by
  induction ns with
  | nil => intro us r; rw [List.map_nil] at r; cases r; exact .nil
  | cons n ns ih =>
    intro us r
    rw [List.map_cons] at r
    cases r with
    | cons r1 r2 =>
      obtain ⟨t, e⟩ := r1
      subst e
      exact .cons n t (ih r2)

section
variable {X : Cx} {e : Expr} {te : TE} {lo hi : Option Expr} {tl th : TO} {pos p2 : Pos}

theorem po_none : PO X none tNoPart := by
  intro pins s σ H Q I h
  rw [evalPart_none]
  exact wpAny_pure ⟨none, H, I, .none, h⟩
theorem po_some (h : PE X e te) : PO X (some e) (tPart te) := by
  intro pins s σ H Q I hw
  rw [evalPart_some]
  refine thn (h pins s σ H _ I hw) fun u s1 ⟨x, H1, I1, r1, q1⟩ => ?_
  obtain ⟨i, rfl, q⟩ := q1
  obtain ⟨t, rfl⟩ := r1
  exact ⟨some i, H1, I1, .int i t, q⟩

/-- what a slice of a value is, by values: the slice object stands at sl -/
def SlR (X : Cx) (r : V → Option Int → Option Int → Hp → VK → Prop) : Prop :=
  ∀ (pins : List (Addr × Obj)) (s : Shared) (σ : St) (H : Hp) (x : V) (v vl vu : Value) (lo hi : Option Int) (sl : Addr) (Q : VK), Inv X pins σ H s → RelV x v → s.heap.IsSliceOf sl vl vu .none → IsPart vl lo → IsPart vu hi → r x lo hi H Q →
    ∃ T id, typeLookup (.type T) "__getitem__" = pure (some (.builtin id)) ∧ s.TypeIs v T ∧ wpAny (model X.prog X.w) X.A (getItem v (.ref sl)) (EP X pins σ Q) X.xe s
theorem SlR.or {r r' : V → Option Int → Option Int → Hp → VK → Prop} (h : SlR X r) (h' : SlR X r') : SlR X (fun x lo hi H Q => r x lo hi H Q ∨ r' x lo hi H Q) := by
  intro pins s σ H x v vl vu lo hi sl Q I rx hs pl pu q
  rcases q with q | q
  · exact h pins s σ H x v vl vu lo hi sl Q I rx hs pl pu q
  · exact h' pins s σ H x v vl vu lo hi sl Q I rx hs pl pu q
def tSl (r : V → Option Int → Option Int → Hp → VK → Prop) (te : TE) (tl th : TO) : TE := fun σ H Q => te σ H fun x H1 => tl σ H1 fun l H2 => th σ H2 fun u H3 => r x l u H3 Q
/-- a[lo:hi], any a -/
theorem pe_slice {r : V → Option Int → Option Int → Hp → VK → Prop} (hr : SlR X r) (he : PE X e te) (hl : PO X lo tl) (hu : PO X hi th) : PE X (.Subscript e (.Slice lo hi none p2) pos) (tSl r te tl th) := by
  intro pins s σ H Q I h
  refine Subscript_ (thn (he pins s σ H _ I h) fun v s1 ⟨x, H1, I1, r1, q1⟩ => ?_)
  refine wpAny_Slice (thn (hl pins s1 σ H1 _ I1 q1) fun vl s2 ⟨l, H2, I2, pl, q2⟩ => thn (hu pins s2 σ H2 _ I2 q2) fun vu s3 ⟨u, H3, I3, pu, q3⟩ => ?_)
  rw [evalPart_none]
  refine wpAny_pure ?_
  have I4 : Inv X pins σ H3 { s3 with heap := s3.heap.push { cls := .type "slice", data := .fields #[vl, vu, .none] } } := I3.kept (t' := s3.toks) fun b ob q => Heap.get?_push_of_some _ q
  obtain ⟨T, id, hT, ht, hg⟩ := hr pins { s3 with heap := s3.heap.push { cls := .type "slice", data := .fields #[vl, vu, .none] } } σ H3 x v vl vu l u s3.heap.objs.size Q I4 r1 (Heap.IsSliceOf.new ..) pl pu q3
  show wpAny (model X.prog X.w) X.A (subscriptTail e (.Slice lo hi none p2) v (.ref s3.heap.objs.size)) (EP X pins σ Q) X.xe { s3 with heap := s3.heap.push { cls := .type "slice", data := .fields #[vl, vu, .none] } }
  exact tail_any (ops := [.ref s3.heap.objs.size, v]) ht hT hg (by with_unfolding_all rfl)

/-- the items of xs[lo:hi] -/
def cutV (xs : List V) (lo hi : Option Int) : List V := (xs.drop (HT.sIx xs.length 0 lo)).take (HT.sIx xs.length xs.length hi - HT.sIx xs.length 0 lo)
theorem cutV_length (xs : List V) (lo hi : Option Int) : (cutV xs lo hi).length ≤ xs.length := by
  unfold cutV
  rw [List.length_take, List.length_drop]
  omega
/-- t[lo:hi], not the whole of it (the whole would be t itself) -/
def rSlT (K : PySem.W.Frag) : V → Option Int → Option Int → Hp → VK → Prop := fun x lo hi H Q => ∃ a xs, x = .ref a ∧ SqT K H a xs ∧
  ¬ (HT.sIx xs.length 0 lo = 0 ∧ HT.sIx xs.length xs.length hi = xs.length) ∧ ∀ p, H p = none → Q (.ref p) (upd H p (.tup (cutV xs lo hi)))
theorem sl_tup : SlR X (rSlT X.K) := by
  intro pins s σ H x v vl vu lo hi sl Q I rx hs pl pu h
  obtain ⟨a, xs, rfl, hx, hw, q⟩ := h
  cases rx
  obtain ⟨its, r, ht, hz⟩ := I.tuple hx
  have hlen : its.toArray.size = xs.length := by rw [List.size_toArray]; exact r.length.symm
  refine ⟨"tuple", _, PyProof.Rows.slot_tuple_getitem.lookup, ht.typeIs, ?_⟩
  refine HT.getItem_tuple_cut ht hs pl pu (by rw [hlen]; exact hw) ?_ (by rw [hlen]; exact hz)
  rw [hlen]
  refine ⟨.ref s.heap.objs.size, _, I.laid (t' := s.toks) (o := .tup (cutV xs lo hi)) (fun b ob q => Heap.get?_push_of_some _ q) (Nat.le_refl _) ?_, rfl, q _ (I.hok.fresh (Nat.le_refl _))⟩
  exact ⟨Nat.le_trans (cutV_length xs lo hi) hz, _, (r.drop (HT.sIx xs.length 0 lo)).take (HT.sIx xs.length xs.length hi - HT.sIx xs.length 0 lo), IsTup.new _ _⟩

/-! ### t < u, t + u -/
def rLtT (K : PySem.W.Frag) : R2 := fun x y H Q => ∃ a b ns ms, x = .ref a ∧ y = .ref b ∧ SqT K H a (ns.map V.int) ∧ SqT K H b (ms.map V.int) ∧ Q (.bl (HT.lexLt ns ms)) H
theorem op_ltT (hu : X.A.units < cLine) : OpR X (compareOp .Lt) (rLtT X.K) := by
  intro pins s σ H x y v u Q I rx ry h
  obtain ⟨a, b, ns, ms, rfl, rfl, ha, hb, q⟩ := h
  cases rx
  cases ry
  obtain ⟨its, r1, p1, _⟩ := I.tuple ha
  obtain ⟨its2, r2, p2, _⟩ := I.tuple hb
  have i1 : IntsAre its.toArray.toList ns := intsAre_of r1
  have i2 : IntsAre its2.toArray.toList ms := intsAre_of r2
  exact HT.lt_tupInts p1 p2 i1 i2 hu ⟨.bl (HT.lexLt ns ms), H, I, rfl, q⟩
/-- t + u, t not empty: u empty gives t itself -/
def rCatT (K : PySem.W.Frag) : R2 := fun x y H Q => ∃ a b xs ys, x = .ref a ∧ y = .ref b ∧ SqT K H a xs ∧ SqT K H b ys ∧ xs ≠ [] ∧ xs.length + ys.length ≤ sizeLine ∧
  (ys = [] → Q (.ref a) H) ∧ (ys ≠ [] → ∀ p, H p = none → Q (.ref p) (upd H p (.tup (xs ++ ys))))
theorem Vals.nil_iff {xs : List V} {us : List Value} (r : Vals xs us) : us = [] ↔ xs = [] := by
  cases r with
  | nil => simp
  | cons _ _ => simp
theorem op_catT : OpR X (binaryOp .Add) (rCatT X.K) := by
  intro pins s σ H x y v u Q I rx ry h
  obtain ⟨a, b, xs, ys, rfl, rfl, ha, hb, hx, hz, q1, q2⟩ := h
  cases rx
  cases ry
  obtain ⟨its, r1, p1, _⟩ := I.tuple ha
  obtain ⟨its2, r2, p2, _⟩ := I.tuple hb
  refine HT.cat_tup p1 p2 (fun z => hx (r1.nil_iff.mp z)) (fun z => ⟨.ref a, H, I, rfl, q1 (r2.nil_iff.mp z)⟩) (fun z => ?_) (by rw [← r1.length, ← r2.length]; exact hz)
  refine ⟨.ref s.heap.objs.size, _, I.laid (t' := s.toks) (o := .tup (xs ++ ys)) (fun b ob q => Heap.get?_push_of_some _ q) (Nat.le_refl _) ?_, rfl, q2 (fun w => z (r2.nil_iff.mpr w)) _ (I.hok.fresh (Nat.le_refl _))⟩
  exact ⟨by rw [List.length_append]; exact hz, _, r1.append r2, IsTup.new _ _⟩
/-- tuple(t) -/
theorem call_tupleT : CallR X (.type "tuple") (fun xs H Q => ∃ a ys, xs = [.ref a] ∧ SqT X.K H a ys ∧ Q (.ref a) H) := by
  intro pins s σ H xs us Q I r h
  obtain ⟨a, ys, rfl, ha, q⟩ := h
  obtain ⟨u, rfl, ru⟩ := vals1 r
  cases ru
  obtain ⟨its, _, p1, _⟩ := I.tuple ha
  exact call_tuple_same (items := its.toArray) p1 ⟨.ref a, H, I, rfl, q⟩
end
end L2

namespace L2
open PySem PySem.Spec PyProof.Rows

/-! ### places -/
/-- the place that an index of any sign means -/
def ixN (n : Nat) (i : Int) : Option Nat := if 0 ≤ i then (if i < n then some i.toNat else none) else if -(n : Int) ≤ i then some (i + n).toNat else none
def atI {α : Type} (xs : List α) (i : Int) : Option α := (ixN xs.length i).bind fun j => xs[j]?
theorem ixN_seq {n : Nat} {i : Int} {j : Nat} (h : ixN n i = some j) : seqIndex? i n = some j ∧ j < n ∧ -(n : Int) ≤ i ∧ i < n := by
  unfold ixN at h
  by_cases h0 : 0 ≤ i
  · rw [if_pos h0] at h
    by_cases h1 : i < n
    · rw [if_pos h1] at h
      have e : i.toNat = j := Option.some.inj h
      exact ⟨by rw [seqIndex_of h0 h1, e], by omega, by omega, h1⟩
    · rw [if_neg h1] at h; cases h
  · rw [if_neg h0] at h
    by_cases h1 : -(n : Int) ≤ i
    · rw [if_pos h1] at h
      have e : (i + n).toNat = j := Option.some.inj h
      exact ⟨by rw [seqIndex_neg (by omega) h1, e], by omega, h1, by omega⟩
    · rw [if_neg h1] at h; cases h
theorem atI_get {α : Type} {xs : List α} {i : Int} {v : α} (h : atI xs i = some v) : ∃ j, seqIndex? i xs.length = some j ∧ xs[j]? = some v ∧ j < xs.length ∧ -(xs.length : Int) ≤ i ∧ i < xs.length := by
  unfold atI at h
  cases e : ixN xs.length i with
  | none => rw [e] at h; cases h
  | some j =>
    rw [e] at h
    obtain ⟨h1, h2, h3, h4⟩ := ixN_seq e
    exact ⟨j, h1, h, h2, h3, h4⟩
theorem atI_nat {α : Type} {xs : List α} {j : Nat} {v : α} (h : xs[j]? = some v) : atI xs (j : Int) = some v := by
  have hj : j < xs.length := (List.getElem?_eq_some_iff.mp h).1
  have e : ixN xs.length (j : Int) = some j := by
    unfold ixN
    rw [if_pos (by omega), if_pos (by omega)]; simp
  unfold atI; rw [e]; exact h
theorem atI_last {α : Type} (xs : List α) (v : α) : atI (xs ++ [v]) (-1) = some v := by
  have hl : (xs ++ [v]).length = xs.length + 1 := by simp
  have e : ixN (xs ++ [v]).length (-1) = some xs.length := by
    unfold ixN
    rw [hl, if_neg (by decide), if_pos (by omega)]
    congr 1
    omega
  unfold atI
  rw [e]
  show (xs ++ [v])[xs.length]? = some v
  simp

/-! ### what may be subscripted -/
/-- what stands as an index of a plain subscript -/
def PlainIx (b : Expr) : Prop := ∀ o i, subscripted b false o i = operate [o, i] (getItem o i)
/-- a subscript by values -/
def IxR (X : Cx) (r : R2) : Prop :=
  ∀ (value slice : Expr) (pins : List (Addr × Obj)) (s : Shared) (σ : St) (H : Hp) (x y : V) (v u : Value) (Q : VK), Inv X pins σ H s → RelV x v → RelV y u → r x y H Q →
    subscripted slice false v u = operate [v, u] (getItem v u) → wpAny (model X.prog X.w) X.A (subscriptTail value slice v u) (EP X pins σ Q) X.xe s
/-- a call of a builtin's method by values: the receiver, the arguments -/
def MtR (X : Cx) (id : String) (r : V → List V → Hp → VK → Prop) : Prop :=
  ∀ (pins : List (Addr × Obj)) (s : Shared) (σ : St) (H : Hp) (x : V) (xs : List V) (v : Value) (us : List Value) (Q : VK), Inv X pins σ H s → RelV x v → Vals xs us → r x xs H Q →
    wpAny (model X.prog X.w) X.A (call (.builtin id) (v :: us)) (EP X pins σ Q) X.xe s
section
variable {X : Cx} {a b : Expr} {ta tb : TE} {pos : Pos}
theorem IxR.or {r r' : R2} (h : IxR X r) (h' : IxR X r') : IxR X (fun x y H Q => r x y H Q ∨ r' x y H Q) := by
  intro value slice pins s σ H x y v u Q I rx ry q hs
  rcases q with q | q
  · exact h value slice pins s σ H x y v u Q I rx ry q hs
  · exact h' value slice pins s σ H x y v u Q I rx ry q hs
theorem MtR.or {id : String} {r r' : V → List V → Hp → VK → Prop} (h : MtR X id r) (h' : MtR X id r') : MtR X id (fun x xs H Q => r x xs H Q ∨ r' x xs H Q) := by
  intro pins s σ H x xs v us Q I rx rs q
  rcases q with q | q
  · exact h pins s σ H x xs v us Q I rx rs q
  · exact h' pins s σ H x xs v us Q I rx rs q
/-- a[b] -/
theorem pe_ix {r : R2} (hr : IxR X r) (ha : PE X a ta) (hb : PE X b tb) (hs : PlainIx b) : PE X (.Subscript a b pos) (tOp r ta tb) := by
  intro pins s σ H Q I h
  exact Subscript_ (binT ha hb I h fun v u s2 x y H2 I2 rx ry q => hr a b pins s2 σ H2 x y v u Q I2 rx ry q (hs _ _))

def rIxL (K : PySem.W.Frag) : R2 := fun x y H Q => ∃ p xs i v, x = .ref p ∧ y = .int i ∧ SqL K H p xs ∧ atI xs i = some v ∧ Q v H
def rIxT (K : PySem.W.Frag) : R2 := fun x y H Q => ∃ p xs i v, x = .ref p ∧ y = .int i ∧ SqT K H p xs ∧ atI xs i = some v ∧ Q v H
def rIxS : R2 := fun x y H Q => ∃ z i c, x = .str z ∧ y = .int i ∧ z.length ≤ sizeLine ∧ atI z.cps.toList i = some c ∧ Q (.str ⟨#[c]⟩) H
theorem ix_list : IxR X (rIxL X.K) := by
  intro value slice pins s σ H x y v u Q I rx ry h hs
  obtain ⟨p, xs, i, z, rfl, rfl, hq, he, q⟩ := h
  cases rx
  obtain ⟨t, rfl⟩ := ry
  obtain ⟨its, r, pl, hz⟩ := I.list hq
  obtain ⟨j, h1, h2, h3, h4, h5⟩ := atI_get he
  obtain ⟨w, ew, rw'⟩ := r.get h2
  have hl := r.length
  have hn := line63
  have fin : EP X pins σ Q w s := ⟨z, H, I, rw', q⟩
  by_cases h0 : 0 ≤ i
  · have hj : i.toNat = j := by
      rw [seqIndex_of h0 h5] at h1
      exact Option.some.inj h1
    exact item_listR pl.isList h0 (by omega) (by rw [hj]; simpa using ew) fin hs
  · have hj : (i + (its.toArray.size : Int)).toNat = j := by
      rw [seqIndex_neg (by omega) h4] at h1
      rw [List.size_toArray, ← hl]
      exact Option.some.inj h1
    exact subscriptTail_builtinR (x := w) pl.isList.typeIs slot_list_getitem.lookup
      (wpAny_getItem_list_neg (Q := fun r s' => r = w ∧ EP X pins σ Q r s') pl.isList (by omega) (by rw [List.size_toArray] <;> omega) (by omega) (by rw [hj]; simpa using ew) ⟨rfl, fin⟩) hs
theorem ix_tup : IxR X (rIxT X.K) := by
  intro value slice pins s σ H x y v u Q I rx ry h hs
  obtain ⟨p, xs, i, z, rfl, rfl, hq, he, q⟩ := h
  cases rx
  obtain ⟨t, rfl⟩ := ry
  obtain ⟨its, r, pl, hz⟩ := I.tuple hq
  obtain ⟨j, h1, h2, h3, h4, h5⟩ := atI_get he
  obtain ⟨w, ew, rw'⟩ := r.get h2
  have hl := r.length
  have hn := line63
  have fin : EP X pins σ Q w s := ⟨z, H, I, rw', q⟩
  exact subscriptTail_builtinR (x := w) pl.typeIs slot_tuple_getitem.lookup
    (getItem_tuple (j := j) (Q := fun r s' => r = w ∧ EP X pins σ Q r s') pl (by omega) (by omega) (by rw [List.size_toArray, ← hl]; exact h1) (by simpa using ew) ⟨rfl, fin⟩) hs
theorem ix_str : IxR X rIxS := by
  intro value slice pins s σ H x y v u Q I rx ry h hs
  obtain ⟨z, i, c, rfl, rfl, hz, he, q⟩ := h
  obtain ⟨t, rfl⟩ := rx
  obtain ⟨t', rfl⟩ := ry
  obtain ⟨j, h1, h2, h3, h4, h5⟩ := atI_get he
  have hl : z.cps.toList.length = z.length := by simp [Str.length]
  rw [hl] at h1 h4 h5
  have hn := line63
  exact tail_any (typeIs_str s z t) slot_str_getitem.lookup (getItem_str (c := c) (by
    have e1 : decide (i < -(2 ^ 63 : Int)) = false := decide_eq_false (by omega)
    have e2 : decide (i ≥ 2 ^ 63) = false := decide_eq_false (by omega)
    rw [e1, e2, Bool.or_false]) (by rw [h1]; simpa using h2) ⟨.str ⟨#[c]⟩, H, I.tok _, ⟨_, rfl⟩, q⟩) hs
/-- list, tuple or str -/
def rIx (K : PySem.W.Frag) : R2 := fun x y H Q => rIxL K x y H Q ∨ rIxT K x y H Q ∨ rIxS x y H Q
theorem ix_seq : IxR X (rIx X.K) := ix_list.or (ix_tup.or ix_str)

/-! ### xs[i] = v, any sign -/
/-- the list's object behind a store -/
theorem mapSeq_set (its : List Value) (n j : Nat) (u : Value) : Obj.mapSeq (·.setIfInBounds j u) { cls := .type "list", data := .seq its.toArray n } = { cls := .type "list", data := .seq (its.set j u).toArray n } := by
  simp [Obj.mapSeq]
theorem Inv.lst {pins : List (Addr × Obj)} {σ : St} {H : Hp} {s : Shared} {p : Addr} {xs : List V} (I : Inv X pins σ H s) (h : H p = some (.lst xs)) :
    ∃ (its : List Value) (n : Nat), Vals xs its ∧ s.heap.get? p = some { cls := .type "list", data := .seq its.toArray n } ∧ xs.length ≤ sizeLine := by
  obtain ⟨z, its, n, r, e⟩ := I.hok p _ h
  exact ⟨its, n, r, e, z⟩
/-- the list at p is written by an update of its object -/
theorem Inv.lstUpd {pins : List (Addr × Obj)} {σ : St} {H : Hp} {s : Shared} {p : Addr} {xs ys : List V} {its its' : List Value} {n n' : Nat} {f : Obj → Obj} (I : Inv X pins σ H s) (h : H p = some (.lst xs))
    (ho : s.heap.get? p = some { cls := .type "list", data := .seq its.toArray n }) (hf : f { cls := .type "list", data := .seq its.toArray n } = { cls := .type "list", data := .seq its'.toArray n' }) (r : Vals ys its') (hz : ys.length ≤ sizeLine) (t : Nat) :
    Inv X pins σ (upd H p (.lst ys)) { s with heap := s.heap.update p f, toks := t } := by
  have e : (s.heap.update p f).get? p = some { cls := .type "list", data := .seq its'.toArray n' } := by
    rw [Heap.get?_update_self f ho (by rw [hf] <;> rfl), hf]
  refine I.write (x := p) (e := p) (by rw [h]; trivial) (.inl rfl) (fun b u hb q => (Heap.get?_update_other _ _ (Ne.symm hb)).trans q) ⟨_, e⟩ ?_
  exact ⟨hz, its', n', r, e⟩
def rSetL : V → V → V → Hp → (Hp → Prop) → Prop := fun o i v H Q => ∃ p xs k j, o = .ref p ∧ i = .int k ∧ H p = some (.lst xs) ∧ ixN xs.length k = some j ∧ Q (upd H p (.lst (xs.set j v)))
theorem set_list : PSet X rSetL := by
  intro pins s σ H o i v ov iv u Q I ro ri rv h
  obtain ⟨p, xs, k, j, rfl, rfl, hp, hj, q⟩ := h
  cases ro
  obtain ⟨t, rfl⟩ := ri
  obtain ⟨its, n, r, ho, hz⟩ := I.lst hp
  obtain ⟨h1, h2, h3, h4⟩ := ixN_seq hj
  have hl := r.length
  have hn := line63
  have I' : Inv X pins σ (upd H p (.lst (xs.set j v))) { s with heap := s.heap.update p (Obj.mapSeq (·.setIfInBounds j u)) } :=
    I.lstUpd hp ho (mapSeq_set its n j u) (r.set rv j) (by rw [List.length_set]; exact hz) s.toks
  by_cases h0 : 0 ≤ k
  · have hk : k.toNat = j := by
      rw [seqIndex_of h0 h4] at h1
      exact Option.some.inj h1
    exact PySem.W.ki_setAt ho h0 (by omega) (by rw [List.size_toArray, ← hl]; exact h4) (by rw [hk]; exact ⟨_, I', q⟩)
  · have hk : (k + (its.toArray.size : Int)).toNat = j := by
      rw [seqIndex_neg (by omega) h3] at h1
      rw [List.size_toArray, ← hl]
      exact Option.some.inj h1
    exact PySem.W.ki_setBack ho (by omega) (by rw [List.size_toArray, ← hl]; exact h3) (by omega) (by rw [hk]; exact ⟨_, I', q⟩)

/-! ### slices -/
theorem slice_bounds (lo hi : Option Int) (n : Nat) : (sliceBounds lo hi none n).1 = ((HT.sIx n 0 lo : Nat) : Int) ∧ (sliceBounds lo hi none n).2.1 = ((HT.sIx n n hi : Nat) : Int) ∧ (sliceBounds lo hi none n).2.2 = 1 := by
  refine ⟨?_, ?_, rfl⟩
  · cases lo with
    | none => simp [sliceBounds, HT.sIx]
    | some i =>
      simp only [sliceBounds, HT.sIx, Option.getD_none, show (1 : Int) > 0 by decide, if_true]
      by_cases h : i < 0
      · simp only [h, if_true] <;> omega
      · simp only [h, if_false] <;> omega
  · cases hi with
    | none => simp [sliceBounds, HT.sIx]
    | some i =>
      simp only [sliceBounds, HT.sIx, Option.getD_none, show (1 : Int) > 0 by decide, if_true]
      by_cases h : i < 0
      · simp only [h, if_true] <;> omega
      · simp only [h, if_false] <;> omega
theorem slicePick_cut (its : List Value) (lo hi : Option Int) : slicePick its.toArray lo hi none = ((its.drop (HT.sIx its.length 0 lo)).take (HT.sIx its.length its.length hi - HT.sIx its.length 0 lo)).toArray := by
  obtain ⟨h1, h2, h3⟩ := slice_bounds lo hi its.toArray.size
  unfold slicePick
  rw [h1, h2, h3]
  simp only [sliceRange_one, pick_run, List.size_toArray] <;> rfl
/-- xs[lo:hi] of a list: a new list -/
def rSlL (K : PySem.W.Frag) : V → Option Int → Option Int → Hp → VK → Prop := fun x lo hi H Q => ∃ a xs, x = .ref a ∧ SqL K H a xs ∧ ∀ p, H p = none → Q (.ref p) (upd H p (.lst (cutV xs lo hi)))
theorem sl_list : SlR X (rSlL X.K) := by
  intro pins s σ H x v vl vu lo hi sl Q I rx hs pl pu h
  obtain ⟨a, xs, rfl, hx, q⟩ := h
  cases rx
  obtain ⟨its, r, ht, hz⟩ := I.list hx
  have hlen := r.length
  refine ⟨"list", _, slot_list_getitem.lookup, ht.isList.typeIs, ?_⟩
  refine wpAny_getItem_list_slice ht.isList hs pl pu .none (by simp) ?_ (by rw [List.size_toArray] <;> omega)
  rw [slicePick_cut, ← hlen]
  refine ⟨.ref s.heap.objs.size, _, I.laid (t' := s.toks) (o := .lst (cutV xs lo hi)) (fun b ob q => Heap.get?_push_of_some _ q) (Nat.le_refl _) ?_, rfl, q _ (I.hok.fresh (Nat.le_refl _))⟩
  exact ⟨Nat.le_trans (cutV_length xs lo hi) hz, _, 0, (r.drop (HT.sIx xs.length 0 lo)).take (HT.sIx xs.length xs.length hi - HT.sIx xs.length 0 lo), Heap.get?_push_size _ rfl⟩

/-! ### in, not in: flat items -/
def flatV : V → Bool
  | .non => true
  | .bl _ => true
  | .int _ => true
  | .str _ => true
  | _ => false
/-- == of flat values -/
def eqV : V → V → Bool
  | .non, .non => true
  | .bl a, .bl b => a == b
  | .bl a, .int b => (if a then 1 else 0) == b
  | .int a, .bl b => a == (if b then 1 else 0)
  | .int a, .int b => a == b
  | .str a, .str b => a == b
  | _, _ => false
theorem eqAt_V {A : Around} {s : Shared} {y x : V} {u v : Value} (ry : RelV y u) (rx : RelV x v) (fy : flatV y = true) (fx : flatV x = true) : SeqAt.EqAt A s u v (eqV y x) := by
  cases y with
  | non =>
    cases ry
    cases x with
    | non => cases rx; exact SeqAt.EqAt.same _
    | bl b => cases rx; exact SeqAt.EqAt.none_bool b
    | int b => obtain ⟨t, rfl⟩ := rx; exact SeqAt.EqAt.none_int b t
    | str b => obtain ⟨t, rfl⟩ := rx; exact SeqAt.EqAt.none_str b t
    | _ => exact absurd (show false = true from fx) Bool.false_ne_true
  | bl a =>
    cases ry
    cases x with
    | non => cases rx; exact SeqAt.EqAt.bool_none a
    | bl b => cases rx; exact SeqAt.EqAt.bool_bool a b
    | int b => obtain ⟨t, rfl⟩ := rx; exact SeqAt.EqAt.bool_int a b t
    | str b => obtain ⟨t, rfl⟩ := rx; exact SeqAt.EqAt.bool_str a b t
    | _ => exact absurd (show false = true from fx) Bool.false_ne_true
  | int a =>
    obtain ⟨t', rfl⟩ := ry
    cases x with
    | non => cases rx; exact SeqAt.EqAt.int_none a t'
    | bl b => cases rx; exact SeqAt.EqAt.int_bool a t' b
    | int b => obtain ⟨t, rfl⟩ := rx; exact SeqAt.EqAt.int_int a t' b t
    | str b => obtain ⟨t, rfl⟩ := rx; exact SeqAt.EqAt.int_str a t' b t
    | _ => exact absurd (show false = true from fx) Bool.false_ne_true
  | str a =>
    obtain ⟨t', rfl⟩ := ry
    cases x with
    | non => cases rx; exact SeqAt.EqAt.str_none a t'
    | bl b => cases rx; exact SeqAt.EqAt.str_bool a t' b
    | int b => obtain ⟨t, rfl⟩ := rx; exact SeqAt.EqAt.str_int a t' b t
    | str b => obtain ⟨t, rfl⟩ := rx; exact SeqAt.EqAt.str_str a t' b t
    | _ => exact absurd (show false = true from fx) Bool.false_ne_true
  | _ => exact absurd (show false = true from fy) Bool.false_ne_true
/-- the items' answers, read off the values (a value's own answer does not lean on its token) -/
def eqU (x : V) (u : Value) : Bool := match u with
  | .none => eqV .non x
  | .bool b => eqV (.bl b) x
  | .int i _ => eqV (.int i) x
  | .str z _ => eqV (.str z) x
  | _ => false
theorem eqU_of {x y : V} {u : Value} (r : RelV y u) (f : flatV y = true) : eqU x u = eqV y x := by
  cases y with
  | non => cases r; rfl
  | bl b => cases r; rfl
  | int i => obtain ⟨t, rfl⟩ := r; rfl
  | str z => obtain ⟨t, rfl⟩ := r; rfl
  | _ => exact absurd (show false = true from f) Bool.false_ne_true
theorem any_eqU {x : V} : ∀ {xs : List V} {us : List Value}, Vals xs us → xs.all flatV = true → us.any (eqU x) = xs.any fun y => eqV y x
  | _, _, .nil, _ => rfl
  | y :: xs, u :: us, .cons r t, f => by
    rw [List.all_cons, Bool.and_eq_true] at f
    rw [List.any_cons, List.any_cons, eqU_of r f.1, any_eqU t f.2]
theorem mem_eqAt {A : Around} {s : Shared} {x : V} {v : Value} (rx : RelV x v) (fx : flatV x = true) : ∀ {xs : List V} {us : List Value}, Vals xs us → xs.all flatV = true → ∀ u ∈ us, SeqAt.EqAt A s u v (eqU x u)
  | _, _, .nil, _ => fun u hu => by cases hu
  | y :: xs, u :: us, .cons r t, f => fun u' hu => by
    rw [List.all_cons, Bool.and_eq_true] at f
    rcases List.mem_cons.mp hu with rfl | hu
    · rw [eqU_of r f.1]; exact eqAt_V r rx f.1 fx
    · exact mem_eqAt rx fx t f.2 u' hu
def inV (x : V) (xs : List V) : Bool := xs.any fun y => eqV y x
/-- x in a list or tuple of flat items -/
def rIn (K : PySem.W.Frag) (neg : Bool) : R2 := fun x y H Q => ∃ p xs, y = .ref p ∧ (SqL K H p xs ∨ SqT K H p xs) ∧ flatV x = true ∧ xs.all flatV = true ∧ Q (.bl (if neg then !inV x xs else inV x xs)) H
theorem op_in_seq : OpR X (compareOp .In) (rIn X.K false) := by
  intro pins s σ H x y v u Q I rx ry h
  obtain ⟨p, xs, rfl, hq, fx, fs, q⟩ := h
  cases ry
  rcases hq with hq | hq
  · obtain ⟨its, r, pl, hz⟩ := I.list hq
    refine SeqAt.in_listAt (eqU x) pl.isList (fun w hw => mem_eqAt rx fx r fs w (by simpa using hw)) ⟨.bl _, H, I, rfl, ?_⟩
    rw [show its.toArray.any (eqU x) = its.any (eqU x) by simp, any_eqU r fs]
    exact q
  · obtain ⟨its, r, pl, hz⟩ := I.tuple hq
    refine SeqAt.in_tupleAt (eqU x) pl (fun w hw => mem_eqAt rx fx r fs w (by simpa using hw)) ⟨.bl _, H, I, rfl, ?_⟩
    rw [show its.toArray.any (eqU x) = its.any (eqU x) by simp, any_eqU r fs]
    exact q
theorem op_notIn_seq : OpR X (compareOp .NotIn) (rIn X.K true) := by
  intro pins s σ H x y v u Q I rx ry h
  obtain ⟨p, xs, rfl, hq, fx, fs, q⟩ := h
  cases ry
  rcases hq with hq | hq
  · obtain ⟨its, r, pl, hz⟩ := I.list hq
    refine SeqAt.notIn_listAt (eqU x) pl.isList (fun w hw => mem_eqAt rx fx r fs w (by simpa using hw)) ⟨.bl _, H, I, rfl, ?_⟩
    rw [show its.toArray.any (eqU x) = its.any (eqU x) by simp, any_eqU r fs]
    exact q
  · obtain ⟨its, r, pl, hz⟩ := I.tuple hq
    refine SeqAt.notIn_tupleAt (eqU x) pl (fun w hw => mem_eqAt rx fx r fs w (by simpa using hw)) ⟨.bl _, H, I, rfl, ?_⟩
    rw [show its.toArray.any (eqU x) = its.any (eqU x) by simp, any_eqU r fs]
    exact q
theorem op_notIn_str : OpR X (compareOp .NotIn) (fun x y H Q => ∃ i j, x = .str i ∧ y = .str j ∧ Q (.bl (!(!(Builtin.Str.occurrences j i 0 j.length 1).isEmpty))) H) := by
  intro pins s σ H x y v u Q I rx ry h
  obtain ⟨i, j, rfl, rfl, q⟩ := h
  obtain ⟨t, rfl⟩ := rx
  obtain ⟨t', rfl⟩ := ry
  exact notIn_str ⟨.bl _, H, I, rfl, q⟩

/-! ### len, list(x), tuple(x) of any list or tuple that is read -/
theorem call_len_seq : CallR X (.builtin "len") (fun xs H Q => ∃ p ys, xs = [.ref p] ∧ (SqL X.K H p ys ∨ SqT X.K H p ys) ∧ Q (.int ys.length) H) := by
  intro pins s σ H xs us Q I r h
  obtain ⟨p, ys, rfl, hq, q⟩ := h
  obtain ⟨u, rfl, rx⟩ := vals1 r
  cases rx
  have hn := line63
  rcases hq with hq | hq
  · obtain ⟨its, r', pl, hz⟩ := I.list hq
    have hlen := r'.length
    exact Calls.call_len_list pl.isList (by simp only [List.size_toArray] <;> omega) ⟨.int ys.length, H, I.tok _, ⟨s.toks + 1, by rw [List.size_toArray, hlen]⟩, q⟩
  · obtain ⟨its, r', pl, hz⟩ := I.tuple hq
    have hlen := r'.length
    exact len_tuple pl (by simp only [List.size_toArray] <;> omega) ⟨.int ys.length, H, I.tok _, ⟨s.toks + 1, by rw [List.size_toArray, hlen]⟩, q⟩
theorem call_len_str : CallR X (.builtin "len") (fun xs H Q => ∃ z, xs = [.str z] ∧ z.length ≤ sizeLine ∧ Q (.int z.length) H) := by
  intro pins s σ H xs us Q I r h
  obtain ⟨z, rfl, hz, q⟩ := h
  obtain ⟨u, rfl, t, rfl⟩ := vals1 r
  have hn := line63
  exact len_str (by omega) ⟨.int z.length, H, I.tok _, ⟨_, rfl⟩, q⟩
theorem CallR.or {f : Value} {r r' : List V → Hp → VK → Prop} (h : CallR X f r) (h' : CallR X f r') : CallR X f (fun xs H Q => r xs H Q ∨ r' xs H Q) := by
  intro pins s σ H xs us Q I rs q
  rcases q with q | q
  · exact h pins s σ H xs us Q I rs q
  · exact h' pins s σ H xs us Q I rs q
theorem call_list_of : CallR X (.type "list") (fun xs H Q => ∃ p ys, xs = [.ref p] ∧ (SqL X.K H p ys ∨ SqT X.K H p ys) ∧ ∀ l, H l = none → Q (.ref l) (upd H l (.lst ys))) := by
  intro pins s σ H xs us Q I r h
  obtain ⟨p, ys, rfl, hq, q⟩ := h
  obtain ⟨u, rfl, rx⟩ := vals1 r
  cases rx
  have fin : ∀ (its : List Value), Vals ys its → ys.length ≤ sizeLine → ∀ (h' : Heap) (c' : Nat), (∀ b o', s.heap.get? b = some o' → h'.get? b = some o') →
      h'.get? s.heap.objs.size = some { cls := .type "list", dict := none, data := .seq its.toArray c', slots := #[] } → EP X pins σ Q (.ref s.heap.objs.size) { s with heap := h' } := fun its r' hz h' c' kp e =>
    ⟨.ref s.heap.objs.size, _, I.laid (t' := s.toks) kp (Nat.le_refl _) (show ObjOk X.prog X.w _ h' _ (.lst ys) from ⟨hz, its, c', r', e⟩), rfl, q _ (I.hok.fresh (Nat.le_refl _))⟩
  rcases hq with hq | hq
  · obtain ⟨its, r', pl, hz⟩ := I.list hq
    have hlen := r'.length
    obtain ⟨o, ho, hc, n, hd⟩ := pl.isList
    exact call_list_seq p (.inl rfl) ho hc hd (fun h' c' kp e => fin its r' hz h' c' kp e) (by simp only [List.size_toArray] <;> omega)
  · obtain ⟨its, r', pl, hz⟩ := I.tuple hq
    have hlen := r'.length
    obtain ⟨o, ho, hc, n, hd⟩ := pl
    exact call_list_seq p (.inr rfl) ho hc hd (fun h' c' kp e => fin its r' hz h' c' kp e) (by simp only [List.size_toArray] <;> omega)
theorem call_tuple_of : CallR X (.type "tuple") (fun xs H Q => ∃ p ys, xs = [.ref p] ∧ ((SqL X.K H p ys ∧ ∀ l, H l = none → Q (.ref l) (upd H l (.tup ys))) ∨ (SqT X.K H p ys ∧ Q (.ref p) H))) := by
  intro pins s σ H xs us Q I r h
  obtain ⟨p, ys, rfl, h⟩ := h
  obtain ⟨u, rfl, rx⟩ := vals1 r
  cases rx
  rcases h with ⟨hq, q⟩ | ⟨hq, q⟩
  · obtain ⟨its, r', pl, hz⟩ := I.list hq
    have hlen := r'.length
    refine call_tuple_list pl.isList (fun h' kp => ?_) (by simp only [List.size_toArray] <;> omega)
    have I1 : Inv X pins σ H { s with heap := h' } := I.kept (t' := s.toks) kp
    have I2 : Inv X pins σ (upd H h'.objs.size (.tup ys)) { s with heap := h'.push { cls := .type "tuple", data := .seq its.toArray } } :=
      I1.laid (t' := s.toks) (fun b o e => Heap.get?_push_of_some _ e) (Nat.le_refl _) (show ObjOk X.prog X.w _ _ _ (.tup ys) from ⟨hz, its, r', IsTup.new _ _⟩)
    exact ⟨.ref h'.objs.size, _, I2, rfl, q _ (I1.hok.fresh (Nat.le_refl _))⟩
  · obtain ⟨its, r', pl, hz⟩ := I.tuple hq
    exact call_tuple_same pl ⟨.ref p, H, I, rfl, q⟩

/-! ### the call of a builtin's method: o.m(..) -/
/-- the value is of that builtin type -/
def tyV (K : PySem.W.Frag) (T : String) (x : V) (H : Hp) : Prop := match x with
  | .str _ => T = "str"
  | .int _ => T = "int"
  | .ref p => (T = "list" ∧ ∃ xs, SqL K H p xs) ∨ (T = "tuple" ∧ ∃ o, K.lookup p = some o ∧ o.cls = .type "tuple" ∧ o.dict = none) ∨
      (T = "dict" ∧ ((∃ kvs, H p = some (.dK kvs)) ∨ ∃ kvs, H p = some (.dT kvs))) ∨ (T = "set" ∧ ∃ S n, H p = some (.set S n))
  | _ => False
theorem tyV_is {pins : List (Addr × Obj)} {σ : St} {H : Hp} {s : Shared} {T : String} {x : V} {v : Value} (I : Inv X pins σ H s) (r : RelV x v) (ty : tyV X.K T x H) :
    s.TypeIs v T ∧ ∀ a, v = .ref a → ∃ ob, s.heap.get? a = some ob ∧ ob.dict = none := by
  cases x with
  | str z =>
    obtain ⟨t, rfl⟩ := r
    cases (show T = "str" from ty)
    exact ⟨typeIs_str s z t, fun _ e => nomatch e⟩
  | int i =>
    obtain ⟨t, rfl⟩ := r
    cases (show T = "int" from ty)
    exact ⟨typeIs_int s i t, fun _ e => nomatch e⟩
  | ref p =>
    cases r
    rcases ty with ⟨rfl, xs, hq⟩ | ⟨rfl, o, hk, hc, hd⟩ | ⟨rfl, hk⟩ | ⟨rfl, S, n, hk⟩
    · obtain ⟨its, _, pl, _⟩ := I.list hq
      refine ⟨pl.isList.typeIs, fun a e => ?_⟩
      cases e
      obtain ⟨o, n, e, c, hd, _⟩ := pl
      exact ⟨o, e, hd⟩
    · refine ⟨⟨o, I.kIn p o hk, hc⟩, fun a e => ?_⟩
      cases e
      exact ⟨o, I.kIn _ o hk, hd⟩
    · have z : ∃ o, s.heap.get? p = some o ∧ o.ExactDict := by
        rcases hk with ⟨kvs, hk⟩ | ⟨kvs, hk⟩
        · obtain ⟨_, _, _, _, o, _, _, e, ex, _⟩ := I.hok p _ hk
          exact ⟨o, e, ex⟩
        · obtain ⟨_, _, _, _, o, _, _, e, ex, _⟩ := I.hok p _ hk
          exact ⟨o, e, ex⟩
      obtain ⟨o, e, ex⟩ := z
      refine ⟨⟨o, e, ex.1⟩, fun a e2 => ?_⟩
      cases e2
      exact ⟨o, e, ex.2.1⟩
    · obtain ⟨o, _, _, _, e, ex, _⟩ := I.hok p _ hk
      refine ⟨⟨o, e, ex.1⟩, fun a e2 => ?_⟩
      cases e2
      exact ⟨o, e, ex.2.1⟩
  | _ => exact False.elim ty
def tBM0 (K : PySem.W.Frag) (T : String) (r : V → List V → Hp → VK → Prop) (to : TE) : TE := fun σ H Q => to σ H fun x H1 => tyV K T x H1 ∧ r x [] H1 Q
def tBM (K : PySem.W.Frag) (T : String) (r : V → List V → Hp → VK → Prop) (to : TE) (t : TA) : TE := fun σ H Q => to σ H fun x H1 => tyV K T x H1 ∧ t σ H1 fun xs H2 => r x xs H2 Q
variable {o e : Expr} {es : List Expr} {to : TE} {t : TA} {name : Str} {apos cpos : Pos} {T id : String} {r : V → List V → Hp → VK → Prop}
theorem pe_bm0 (pa : PlainAttrs T) (slot : Slot T name id) (hty : typeOf (.builtin id) = pure (.type "method_descriptor")) (hm : MtR X id r) (ho : PE X o to)
    (hbase : attributeBase o name X.env (eval o X.env) = eval o X.env := by rfl) (hline : (apos.endLine == cpos.line) = true := by rfl) : PE X (.Call (.Attribute o name apos) [] [] cpos) (tBM0 X.K T r to) := by
  intro pins s σ H Q I h
  refine wpAny_Call_method0_late hbase hline (thn (ho pins s σ H _ I h) fun v s1 ⟨x, H1, I1, r1, ty, q1⟩ => ?_)
  obtain ⟨h1, h2⟩ := tyV_is I1 r1 ty
  exact ⟨T, id, pa, slot, hty, h1, h2, Calls.callWith_builtin rfl (PySem.evalArgs_none (hm pins s1 σ H1 x [] v [] Q I1 r1 .nil q1))⟩
theorem pe_bm (pa : PlainAttrs T) (slot : Slot T name id) (hty : typeOf (.builtin id) = pure (.type "method_descriptor")) (hm : MtR X id r) (ho : PE X o to) (ha : PA X (e :: es) t)
    (hbase : attributeBase o name X.env (eval o X.env) = eval o X.env := by rfl)
    (hfew : ((backTo cpos (starEach (e :: es) X.env)).all (fun x => !x.1) && (backToKw cpos (keywordEach [] X.env)).all (fun x => x.1.isSome)
      && decide ((e :: es).length + ([] : List Keyword).length + (if ([] : List Keyword).isEmpty then 0 else 1) < 30)) = true := by rfl)
    (hline : (apos.endLine == cpos.line) = true := by rfl) (hs : starEach (e :: es) X.env = (false, eval e X.env) :: starEach es X.env := by rfl) (hplain : (backTo cpos (starEach es X.env)).any (·.1) = false := by rfl) :
    PE X (.Call (.Attribute o name apos) (e :: es) [] cpos) (tBM X.K T r to t) := by
  intro pins s σ H Q I h
  refine wpAny_Call_method_late hbase hfew hline rfl (thn (ho pins s σ H _ I h) fun v s1 ⟨x, H1, I1, r1, ty, q1⟩ => ?_)
  obtain ⟨h1, h2⟩ := tyV_is I1 r1 ty
  refine ⟨T, id, pa, slot, hty, h1, h2, ?_⟩
  have hA := ha cpos pins s1 σ H1 _ I1 q1
  rw [hs] at hA ⊢
  refine Calls.callWith_builtin (by show (false || (backTo cpos (starEach es X.env)).any (·.1)) = false; rw [hplain] <;> rfl) (Calls.evalArgs_plain ?_)
  exact thn hA fun us s2 ⟨vs, H2, I2, r2, q2⟩ => hm pins s2 σ H2 x vs v us Q I2 r1 r2 q2
/- xs.append(e), list.index on a module's tuple .. are MtR facts of 06m -/
end
end L2

namespace L2
open PySem PySem.Spec PyProof.Rows

def MtM (X : Cx) (id : String) (r : V → List V → Hp → VK → Prop) : Prop :=
  ∀ (pins : List (Addr × Obj)) (s : Shared) (σ : St) (H : Hp) (x : V) (xs : List V) (v : Value) (us : List Value) (Q : VK), Inv X pins σ H s → RelV x v → Vals xs us → r x xs H Q →
    wpAny (model X.prog X.w) X.A (call (.builtin id) (v :: us)) (EP X pins σ Q) X.xe s

/-! ### lists of values -/
theorem Vals.one : ∀ {x : V} {us : List Value}, Vals [x] us → ∃ u, us = [u] ∧ RelV x u
  | _, _, .cons r .nil => ⟨_, rfl, r⟩
theorem Vals.two : ∀ {x y : V} {us : List Value}, Vals [x, y] us → ∃ u v, us = [u, v] ∧ RelV x u ∧ RelV y v
  | _, _, _, .cons r (.cons q .nil) => ⟨_, _, rfl, r, q⟩
theorem Vals.zero : ∀ {us : List Value}, Vals [] us → us = []
  | _, .nil => rfl
theorem Vals.dropLast {xs : List V} {us : List Value} (h : Vals xs us) : Vals xs.dropLast us.dropLast := by
  induction h with
  | nil => exact .nil
  | cons r t ih =>
    cases t with
    | nil => exact .nil
    | cons q t' => exact .cons r ih
theorem Vals.eraseIdx : ∀ {xs : List V} {us : List Value} (i : Nat), Vals xs us → Vals (xs.eraseIdx i) (us.eraseIdx i)
  | _, _, _, .nil => .nil
  | _, _, 0, .cons _ t => t
  | _, _, i + 1, .cons r t => .cons r (Vals.eraseIdx i t)
theorem Vals.reverse {xs : List V} {us : List Value} (h : Vals xs us) : Vals xs.reverse us.reverse := by
  induction h with
  | nil => exact .nil
  | cons r t ih => rw [List.reverse_cons, List.reverse_cons]; exact Vals.append ih (.cons r .nil)
theorem Vals.rep {xs : List V} {us : List Value} (h : Vals xs us) : ∀ k : Nat, Vals (List.replicate k xs).flatten (List.replicate k us).flatten
  | 0 => .nil
  | k + 1 => by
    rw [List.replicate_succ, List.replicate_succ, List.flatten_cons, List.flatten_cons]
    exact Vals.append h (Vals.rep h k)
theorem erase_last {α : Type} (l : List α) : l.eraseIdx (l.length - 1) = l.dropLast := by
  induction l with
  | nil => rfl
  | cons a r ih =>
    cases r with
    | nil => rfl
    | cons b r =>
      have e : (a :: b :: r).length - 1 = ((b :: r).length - 1) + 1 := by
        have h1 : (a :: b :: r).length = r.length + 2 := rfl
        have h2 : (b :: r).length = r.length + 1 := rfl
        omega
      rw [e, List.eraseIdx_cons_succ, ih]
      all_goals rfl
theorem len_erase {α : Type} : ∀ (l : List α) (i : Nat), (l.eraseIdx i).length ≤ l.length
  | [], _ => Nat.le_refl _
  | _ :: _, 0 => Nat.le_succ _
  | _ :: r, i + 1 => Nat.succ_le_succ (len_erase r i)
theorem foldl_rep (its : List Value) : ∀ (k : Nat) (acc : List Value),
    List.foldl (fun x1 x2 => x1 ++ x2) acc.toArray (List.replicate k its.toArray) = (acc ++ (List.replicate k its).flatten).toArray
  | 0, acc => by simp
  | k + 1, acc => by
    have e : acc.toArray ++ its.toArray = (acc ++ its).toArray := by simp
    have e2 : (acc ++ its) ++ (List.replicate k its).flatten = acc ++ (List.replicate (k + 1) its).flatten := by
      rw [List.replicate_succ, List.flatten_cons, List.append_assoc]
    rw [← e2, ← foldl_rep its k (acc ++ its), ← e, List.replicate_succ, List.foldl_cons]

section
variable {X : Cx} {pins : List (Addr × Obj)} {σ : St} {H : Hp} {s : Shared} {l b : Addr} {xs ys zs : List V}

/-! ### the two steps: a tracked list is rewritten, a new list is laid -/
theorem Inv.lset {its its' : List Value} {n : Nat} {f : Array Value → Array Value} {t' : Nat} (I : Inv X pins σ H s) (hH : H l = some (.lst xs))
    (e : s.heap.get? l = some { cls := .type "list", data := .seq its.toArray n }) (hf : f its.toArray = its'.toArray) (hv : Vals ys its') (hz : ys.length ≤ sizeLine) :
    Inv X pins σ (upd H l (.lst ys)) { s with heap := s.heap.update l (Obj.mapSeq f), toks := t' } := by
  have q := PySem.IsL.update e f
  rw [hf] at q
  refine I.write (x := l) (e := l) (by rw [hH]; exact trivial) (.inl rfl) (fun b' u hb hu => (Heap.get?_update_other s.heap (Obj.mapSeq f) (Ne.symm hb)).trans hu) ⟨_, q⟩ ?_
  exact ⟨hz, its', _, hv, q⟩
theorem Inv.lnew {its : List Value} {t' : Nat} (I : Inv X pins σ H s) (hv : Vals ys its) (hz : ys.length ≤ sizeLine) :
    Inv X pins σ (upd H s.heap.objs.size (.lst ys)) { s with heap := s.heap.push { cls := .type "list", data := .seq its.toArray }, toks := t' } :=
  I.laid (fun _ _ q => Heap.get?_push_of_some _ q) (Nat.le_refl _) ⟨hz, its, 0, hv, Heap.get?_push_size _ rfl⟩
theorem Inv.fresh (I : Inv X pins σ H s) : H s.heap.objs.size = none := I.hok.fresh (Nat.le_refl _)
theorem Inv.lstM (I : Inv X pins σ H s) (hH : H l = some (.lst xs)) : xs.length ≤ sizeLine ∧ ∃ (its : List Value) (n : Nat), Vals xs its ∧ xs.length = its.length ∧ s.heap.get? l = some { cls := .type "list", data := .seq its.toArray n } := by
  obtain ⟨z, its, n, r, e⟩ := I.hok l _ hH
  exact ⟨z, its, n, r, r.length, e⟩

theorem notLongL {n : Nat} (h : n ≤ sizeLine) : Builtin.List.listTooLong n = false := by
  unfold Builtin.List.listTooLong
  exact decide_eq_false (by omega)
end

section
variable {X : Cx}

/-! ### methods -/
def rAppend : V → List V → Hp → VK → Prop := fun x vs H Q => ∃ l xs y, x = .ref l ∧ vs = [y] ∧ H l = some (.lst xs) ∧ xs.length < sizeLine ∧ Q .non (upd H l (.lst (xs ++ [y])))
theorem mt_append : MtM X "list.append" rAppend := by
  intro pins s σ H x vs v us Q I rx rv h
  obtain ⟨l, xs, y, rfl, rfl, hH, hz, q⟩ := h
  cases rx
  obtain ⟨u, rfl, ru⟩ := rv.one
  obtain ⟨z, its, n, r, hl, e⟩ := I.lstM hH
  refine call_meets F.slot_list_append ⟨_, e, rfl⟩ F.entry_list_append (F.args_list_append_2 _ _) (PySem.list_append l its.toArray n u (by rw [List.size_toArray]; omega)) ⟨e, ?_⟩
  refine ⟨.non, _, I.lset (its' := its ++ [u]) hH e (by simp) (r.append (.cons ru .nil)) ?_, rfl, q⟩
  rw [List.length_append, List.length_singleton]
  omega

def rExtend : V → List V → Hp → VK → Prop := fun x vs H Q => ∃ l b xs zs, x = .ref l ∧ vs = [.ref b] ∧ H l = some (.lst xs) ∧ H b = some (.lst zs) ∧ xs.length + zs.length ≤ sizeLine ∧ Q .non (upd H l (.lst (xs ++ zs)))
theorem mt_extend : MtM X "list.extend" rExtend := by
  intro pins s σ H x vs v us Q I rx rv h
  obtain ⟨l, b, xs, zs, rfl, rfl, hH, hB, hz, q⟩ := h
  cases rx
  obtain ⟨u, rfl, ru⟩ := rv.one
  cases ru
  obtain ⟨z, its, n, r, hl, e⟩ := I.lstM hH
  obtain ⟨z2, its2, n2, r2, hl2, e2⟩ := I.lstM hB
  have hsz : its.toArray.size + its2.toArray.size ≤ sizeLine := by rw [List.size_toArray, List.size_toArray]; omega
  have hlong : ¬ (!its.toArray.isEmpty && Builtin.List.listTooLong (its.toArray.size + its2.toArray.size)) = true := by
    rw [notLongL hsz, Bool.and_false]
    exact Bool.false_ne_true
  refine call_meets F.slot_list_extend ⟨_, e, rfl⟩ F.entry_list_extend (F.args_list_extend_2 _ _)
    (AutoSeq1.list_extend_list_list_0 l its.toArray n b its2.toArray n2 hlong (by rw [List.size_toArray]; omega) (by omega)) ⟨e, e2, ?_⟩
  refine ⟨.non, _, I.lset (its' := its ++ its2) hH e (by simp) (r.append r2) ?_, rfl, q⟩
  rw [List.length_append]
  omega

def rPop : V → List V → Hp → VK → Prop := fun x vs H Q => ∃ l xs y, x = .ref l ∧ vs = [] ∧ H l = some (.lst xs) ∧ xs[xs.length - 1]? = some y ∧ Q y (upd H l (.lst xs.dropLast))
theorem mt_pop : MtM X "list.pop" rPop := by
  intro pins s σ H x vs v us Q I rx rv h
  obtain ⟨l, xs, y, rfl, rfl, hH, hy, q⟩ := h
  cases rx
  have hus := rv.zero
  subst hus
  obtain ⟨z, its, n, r, hl, e⟩ := I.lstM hH
  obtain ⟨u, hu, ru⟩ := r.get hy
  have hy' : its.toArray[its.toArray.size - 1]? = some u := by
    show its.toArray[its.length - 1]? = some u
    rw [← Array.getElem?_toList, ← hl]
    exact hu
  refine call_meets F.slot_list_pop ⟨_, e, rfl⟩ F.entry_list_pop (F.args_list_pop_1 _) (MeetsSeq.list_pop_last l its.toArray n u hy' (by rw [List.size_toArray]; omega)) ⟨e, ?_⟩
  refine ⟨y, _, I.lset (its' := its.dropLast) hH e ?_ r.dropLast ?_, ru, q⟩
  · show its.toArray.eraseIdxIfInBounds (its.toArray.size - 1) = its.dropLast.toArray
    rw [List.size_toArray, List.eraseIdxIfInBounds_toArray, erase_last]
  · rw [List.length_dropLast]
    omega

def rPopAt : V → List V → Hp → VK → Prop := fun x vs H Q => ∃ l xs i k y, x = .ref l ∧ vs = [.int i] ∧ H l = some (.lst xs) ∧ -(2 ^ 63) ≤ i ∧ i < 2 ^ 63 ∧ seqIndex? i xs.length = some k ∧ xs[k]? = some y ∧ Q y (upd H l (.lst (xs.eraseIdx k)))
theorem mt_popAt : MtM X "list.pop" rPopAt := by
  intro pins s σ H x vs v us Q I rx rv h
  obtain ⟨l, xs, i, k, y, rfl, rfl, hH, h1, h2, hk, hy, q⟩ := h
  cases rx
  obtain ⟨u, rfl, ru⟩ := rv.one
  obtain ⟨t, rfl⟩ := ru
  obtain ⟨z, its, n, r, hl, e⟩ := I.lstM hH
  obtain ⟨w, hw, rw'⟩ := r.get hy
  refine call_meets F.slot_list_pop ⟨_, e, rfl⟩ F.entry_list_pop (F.args_list_pop_2 _ _)
    (MeetsSeq.list_pop_at l its.toArray n i t k w (fitsIndex_both h1 h2) (by rw [List.size_toArray, ← hl]; exact hk) (by rw [← Array.getElem?_toList]; exact hw) (by rw [List.size_toArray]; omega)) ⟨e, ?_⟩
  refine ⟨y, _, I.lset (its' := its.eraseIdx k) hH e ?_ (r.eraseIdx k) ?_, rw', q⟩
  · show its.toArray.eraseIdxIfInBounds k = (its.eraseIdx k).toArray
    rw [List.eraseIdxIfInBounds_toArray]
  · have := len_erase xs k
    omega

def rReverse : V → List V → Hp → VK → Prop := fun x vs H Q => ∃ l xs, x = .ref l ∧ vs = [] ∧ H l = some (.lst xs) ∧ Q .non (upd H l (.lst xs.reverse))
theorem mt_reverse : MtM X "list.reverse" rReverse := by
  intro pins s σ H x vs v us Q I rx rv h
  obtain ⟨l, xs, rfl, rfl, hH, q⟩ := h
  cases rx
  have hus := rv.zero
  subst hus
  obtain ⟨z, its, n, r, hl, e⟩ := I.lstM hH
  refine call_meets F.slot_list_reverse ⟨_, e, rfl⟩ F.entry_list_reverse (F.args_list_reverse_1 _) (AutoSeq1.list_reverse_list_0 l its.toArray n (by rw [List.size_toArray]; omega)) ⟨e, ?_⟩
  refine ⟨.non, _, I.lset (its' := its.reverse) hH e (by simp) r.reverse ?_, rfl, q⟩
  rw [List.length_reverse]
  omega

def rClear : V → List V → Hp → VK → Prop := fun x vs H Q => ∃ l xs, x = .ref l ∧ vs = [] ∧ H l = some (.lst xs) ∧ Q .non (upd H l (.lst []))
theorem mt_clear : MtM X "list.clear" rClear := by
  intro pins s σ H x vs v us Q I rx rv h
  obtain ⟨l, xs, rfl, rfl, hH, q⟩ := h
  cases rx
  have hus := rv.zero
  subst hus
  obtain ⟨z, its, n, r, hl, e⟩ := I.lstM hH
  refine call_meets F.slot_list_clear ⟨_, e, rfl⟩ F.entry_list_clear (F.args_list_clear_1 _) (AutoSeq1.list_clear_list_0 l its.toArray n (by rw [List.size_toArray]; omega)) ⟨e, ?_⟩
  exact ⟨.non, _, I.lset (its' := []) (ys := []) hH e rfl .nil (Nat.zero_le _), rfl, q⟩

/-! ### list + list, list += list, list * int -/
def rCat : R2 := fun x y H Q => ∃ l b xs zs, x = .ref l ∧ y = .ref b ∧ H l = some (.lst xs) ∧ H b = some (.lst zs) ∧ xs.length + zs.length ≤ sizeLine ∧ ∀ p, H p = none → Q (.ref p) (upd H p (.lst (xs ++ zs)))
theorem op_cat : OpR X (binaryOp .Add) rCat := by
  intro pins s σ H x y v u Q I rx ry h
  obtain ⟨l, b, xs, zs, rfl, rfl, hH, hB, hz, q⟩ := h
  cases rx
  cases ry
  obtain ⟨z, its, n, r, hl, e⟩ := I.lstM hH
  obtain ⟨z2, its2, n2, r2, hl2, e2⟩ := I.lstM hB
  refine PySem.P.add_list e e2 ?_ (by rw [List.size_toArray, List.size_toArray]; omega)
  have ea : its.toArray ++ its2.toArray = (its ++ its2).toArray := by simp
  rw [ea]
  exact ⟨.ref _, _, I.lnew (t' := s.toks) (r.append r2) (by rw [List.length_append]; omega), rfl, q _ I.fresh⟩
/-- a list times an int (a negative one is nothing) -/
def rRep : R2 := fun x y H Q => ∃ l k xs, x = .ref l ∧ y = .int k ∧ H l = some (.lst xs) ∧ -(2 ^ 63) ≤ k ∧ k < 2 ^ 63 ∧ xs.length * k.toNat ≤ sizeLine ∧
  ∀ p, H p = none → Q (.ref p) (upd H p (.lst (List.replicate k.toNat xs).flatten))
theorem len_rep {α : Type} (xs : List α) (k : Nat) : (List.replicate k xs).flatten.length = k * xs.length := by
  induction k with
  | zero => simp
  | succ k ih => rw [List.replicate_succ, List.flatten_cons, List.length_append, ih, Nat.succ_mul, Nat.add_comm]
theorem op_rep : OpR X (binaryOp .Mult) rRep := by
  intro pins s σ H x y v u Q I rx ry h
  obtain ⟨l, k, xs, rfl, rfl, hH, h1, h2, hz, q⟩ := h
  cases rx
  obtain ⟨t, rfl⟩ := ry
  obtain ⟨z, its, n, r, hl, e⟩ := I.lstM hH
  have hlen : its.toArray.size * k.toNat ≤ sizeLine := by rw [List.size_toArray, ← hl]; exact hz
  have hcap : ¬ its.toArray.size * k.toNat > (2 ^ 63 - 1) / 8 := by
    have : (sizeLine : Nat) ≤ (2 ^ 63 - 1) / 8 := by decide
    omega
  have hfit : ¬ (!Builtin.List.listFitsIndex k) = true := by
    rw [fitsIndex_both h1 h2]
    exact Bool.false_ne_true
  have hlong : ¬ Builtin.List.listTooLong (its.toArray.size * k.toNat) = true := by
    rw [notLongL hlen]
    exact Bool.false_ne_true
  have hnew : List.foldl (fun x1 x2 => x1 ++ x2) #[] (List.replicate (if its.toArray.isEmpty = true then 0 else k.toNat) its.toArray) = (List.replicate k.toNat its).flatten.toArray := by
    have f0 : ∀ m : Nat, List.foldl (fun x1 x2 => x1 ++ x2) #[] (List.replicate m its.toArray) = (List.replicate m its).flatten.toArray := fun m => by
      have := foldl_rep its m []
      rw [List.nil_append] at this
      exact this
    rw [f0]
    cases its with
    | nil => simp
    | cons a r' => rw [if_neg (by simp)]
  refine wpAny_binaryOp_repeat_ref (T := "list") (U := "int") (by decide) ⟨_, e, rfl⟩ (fun s' => typeIs_int s' k t) noFill_list_mul F.fills_int_mul F.slot_int_rmul repeat_list F.slot_int_index.lookup
    (call_meets F.slot_int_rmul (typeIs_int s k t) F.entry_int_rmul (F.args_int_rmul_2 _ _) (int___rmul___int_list k t l its.toArray n)
      ⟨e, rfl, ⟨_, e, rfl⟩, call_meets F.slot_list_mul ⟨_, e, rfl⟩ F.entry_list_mul (F.args_list_mul_2 _ _) (AutoListH.list___mul___list_int_3 l its.toArray n k t hfit hcap hlong) ⟨e, ?_⟩⟩)
  rw [hnew]
  exact ⟨.ref _, _, I.lnew (t' := s.toks) (r.rep k.toNat) (by rw [len_rep, Nat.mul_comm]; exact hz), rfl, q _ I.fresh⟩

/-! ### del xs[i] -/
theorem del_list {pins : List (Addr × Obj)} {s : Shared} {σ : St} {H : Hp} {l : Addr} {xs : List V} {i : Int} {t : Tok} {k : Nat} {Q : Unit → Shared → Prop} (I : Inv X pins σ H s) (hH : H l = some (.lst xs))
    (h1 : -(2 ^ 63) ≤ i) (h2 : i < 2 ^ 63) (hk : seqIndex? i xs.length = some k) (h : ∀ s', Inv X pins σ (upd H l (.lst (xs.eraseIdx k))) s' → Q () s') :
    wpAny (model X.prog X.w) X.A (delItem (.ref l) (.int i t)) Q X.xe s := by
  obtain ⟨z, its, n, r, hl, e⟩ := I.lstM hH
  refine PySem.P.delItem_list (k := k) e (fitsIndex_both h1 h2) (by rw [List.size_toArray, ← hl]; exact hk) (h _ ?_) (by rw [List.size_toArray]; omega)
  refine I.lset (its' := its.eraseIdx k) (t' := s.toks) hH e ?_ (r.eraseIdx k) ?_
  · show its.toArray.eraseIdxIfInBounds k = (its.eraseIdx k).toArray
    rw [List.eraseIdxIfInBounds_toArray]
  · have := len_erase xs k
    omega
end

/-! ### xs[a:b] = ys -/
section
variable {prog : Program} {w : World} {A : Around} {E : Value → Shared → Prop} {s : Shared}
theorem splice_eq (its its2 : List Value) (a c : Nat) : its.toArray.extract 0 a ++ its2.toArray ++ its.toArray.extract c its.toArray.size = (its.take a ++ its2 ++ its.drop c).toArray := by
  apply Array.toList_inj.mp
  first
    | (simp
       exact List.take_of_length_le (by simp))
    | simp [List.take_of_length_le]
    | simp
theorem bounds_run {a c n : Nat} (hac : a ≤ c) (hc : c ≤ n) : sliceBounds (some (a : Int)) (some (c : Int)) none n = ((a : Int), (c : Int), 1) := by
  simp only [sliceBounds, Option.getD_none]
  have h1 : ¬ ((a : Int) < 0) := by omega
  have h2 : ¬ ((c : Int) < 0) := by omega
  simp only [h1, h2, if_false, show (1 : Int) > 0 by decide, if_true]
  congr 1
  · omega
  · congr 1; omega
set_option maxRecDepth 100000 in
/-- list.__setitem__ with a slice of step one and another list -/
theorem setItem_slice {l b sl : Addr} {items new : Array Value} {n n2 : Nat} {vl vu : Value} {a c : Nat} {Q : Unit → Shared → Prop}
    (e : s.heap.get? l = some { cls := .type "list", data := .seq items n }) (e2 : s.heap.get? b = some { cls := .type "list", data := .seq new n2 }) (hne : l ≠ b)
    (hs : s.heap.IsSliceOf sl vl vu .none) (pl : IsPart vl (some (a : Int))) (pu : IsPart vu (some (c : Int))) (hac : a ≤ c) (hc : c ≤ items.size)
    (hsz : items.size + new.size ≤ sizeLine) (h : Q () { s with heap := s.heap.update l (Obj.mapSeq fun xs => xs.extract 0 a ++ new ++ xs.extract c xs.size) }) :
    wpAny (model prog w) A (setItem (.ref l) (.ref sl) (.ref b)) Q E s := by
  have hl : s.heap.IsList l items := PySem.IsL.isList e
  have hb : s.heap.IsList b new := PySem.IsL.isList e2
  obtain ⟨os, hos, hcs, hds⟩ := id hs
  have hTs : s.TypeIs (.ref sl) "slice" := ⟨os, hos, hcs⟩
  have hstep : ¬ ((rawPart none == rawInt 0) = true) := Bool.false_ne_true
  have hsame : Builtin.List.listSameRef (.ref l) (.ref b) = false := by
    unfold Builtin.List.listSameRef
    exact beq_eq_false_iff_ne.mpr hne
  have hmax : (max (a : Int) (c : Int)).toNat = c := by omega
  have hz' : ((fun xs : Array Value => xs.extract 0 a ++ new ++ xs.extract c xs.size) items).size ≤ sizeLine + 1 := by
    simp only [Array.size_append, Array.size_extract]
    omega
  unfold setItem
  try with_reducible refine wpAny_holding ?_
  first | refine wpAny_bind (wpAny_pure ?_) | skip
  refine wpAny_bind (wpAny_sequenceKey hl.typeIs (by decide) ?_)
  refine wpAny_bind (wpAny_callSpecial?_slot (name := Str.ofString "__setitem__") hl.typeIs slot_list_setitem
    (wpAny_call_entry slot_list_setitem hl.typeIs entry_list_setitem ?_ (args_list_setitem _ _ _)))
  show wpAny _ _ (Builtin.List.listSubscript? (.ref sl) >>= _) _ _ s
  refine wpAny_bind ?_
  unfold Builtin.List.listSubscript?
  refine wpAny_bind (wpAny_specialOf hTs slice_no_index ?_)
  simp only [Option.isNone_none, if_true]
  refine wpAny_pure ?_
  show wpAny _ _ (typeOf (.ref sl) >>= _) _ _ s
  refine wpAny_bind (wpAny_typeOf hTs ?_)
  first
    | rw [if_neg (by decide)]
    | refine PySem.W.KFB.if_not (by decide) ?_
  rw [listSliceParts_eq]
  refine wpAny_bind (wpAny_bind (wpAny_field hos hds (x := .none) rfl (wpAny_bind (wpAny_listPart .none ?_))))
  rw [if_neg hstep]
  refine wpAny_bind (wpAny_field hos hds (x := vl) rfl (wpAny_bind (wpAny_listPart pl ?_)))
  refine wpAny_bind (wpAny_field hos hds (x := vu) rfl (wpAny_bind (wpAny_listPart pu (wpAny_pure ?_))))
  first
    | simp only [hsame, Bool.false_eq_true, if_false]
    | refine PySem.W.KFB.if_not hsame ?_
    | (dsimp only
       rw [if_neg (by rw [hsame]; exact Bool.false_ne_true)])
  refine wpAny_bind (m := Builtin.List.listAllItems (.ref b) "must assign iterable to extended slice") ?_
  unfold Builtin.List.listAllItems
  refine wpAny_bind (wpAny_typeOf hb.typeIs ?_)
  first
    | refine PySem.W.KFB.if_so (by decide) ?_
    | rw [if_pos (by decide)]
    | simp only [beq_self_eq_true, Bool.true_or, if_true]
  unfold Builtin.List.listItems
  refine wpAny_bind (wpAny_seqItems e2 rfl (wpAny_pure ?_))
  refine wpAny_bind (wpAny_bind (wpAny_seqItems e rfl (wpAny_pure ?_)))
  refine wpAny_bind (wpAny_of_eq ((sliceIndices_raw (some (a : Int)) (some (c : Int)) none items.size (by simp)).trans (congrArg (pure : Int × Int × Int → Sem (Int × Int × Int)) (bounds_run hac hc))) ?_)
  show wpAny _ _ (if ((1 : Int) == 1) = true then _ else _) _ _ s
  rw [if_pos (by decide)]
  refine wpAny_bind (wpAny_rule ?_)
  first
    | simp only [notLongL hsz, Bool.false_eq_true, if_false]
    | refine PySem.W.KFB.if_not (notLongL hsz) ?_
  first | refine wpAny_bind (wpAny_pure ?_) | skip
  show wpAny _ _ (updateSeq l (fun xs => xs.extract 0 ((a : Int)).toNat ++ new ++ xs.extract (max (a : Int) (c : Int)).toNat xs.size) >>= _) _ _ s
  rw [hmax, Int.toNat_natCast]
  refine wpAny_bind (wpAny_updateSeq (hz := Nat.le_trans (Nat.le_add_right _ _) hsz) (_hz' := hz') e rfl ?_)
  refine wpAny_bind (wpAny_letGo ?_)
  first
    | exact wpAny_bind (wpAny_pure (wpAny_pure ⟨.none, rfl, wpAny_pure h⟩))
    | exact wpAny_pure ⟨.none, rfl, wpAny_pure h⟩
end

section
variable {X : Cx}
/-- xs[a:c] = ys of another list, at the value level: sl is the slice object that was just made -/
theorem set_slice {pins : List (Addr × Obj)} {s : Shared} {σ : St} {H : Hp} {l b sl : Addr} {xs ys : List V} {a c : Int} {vl vu : Value} {Q : Unit → Shared → Prop} (I : Inv X pins σ H s)
    (hH : H l = some (.lst xs)) (hB : H b = some (.lst ys)) (hne : l ≠ b) (hs : s.heap.IsSliceOf sl vl vu .none) (ra : RelV (.int a) vl) (rc : RelV (.int c) vu) (h0 : 0 ≤ a) (hac : a ≤ c) (hc : c ≤ xs.length)
    (hz : xs.length + ys.length ≤ sizeLine) (h : ∀ s', Inv X pins σ (upd H l (.lst (xs.take a.toNat ++ ys ++ xs.drop c.toNat))) s' → Q () s') :
    wpAny (model X.prog X.w) X.A (setItem (.ref l) (.ref sl) (.ref b)) Q X.xe s := by
  obtain ⟨ta, rfl⟩ := ra
  obtain ⟨tc, rfl⟩ := rc
  obtain ⟨z, its, n, r, hl, e⟩ := I.lstM hH
  obtain ⟨z2, its2, n2, r2, hl2, e2⟩ := I.lstM hB
  obtain ⟨a', rfl⟩ := Int.eq_ofNat_of_zero_le h0
  obtain ⟨c', rfl⟩ := Int.eq_ofNat_of_zero_le (Int.le_trans h0 hac)
  simp only [Int.toNat_natCast] at h
  refine setItem_slice (a := a') (c := c') e e2 hne hs (.int _ _) (.int _ _) (by omega) (by rw [List.size_toArray]; omega) (by rw [List.size_toArray, List.size_toArray]; omega) (h _ ?_)
  refine I.lset (its' := its.take a' ++ its2 ++ its.drop c') (t' := s.toks) hH e ?_ (Vals.append (Vals.append (r.take _) r2) (r.drop _)) ?_
  · exact splice_eq its its2 a' c'
  · rw [List.length_append, List.length_append, List.length_take, List.length_drop]
    omega
end
end L2

namespace Att
open PySem PySem.W PySem.Calls PyProof.Rows

/-! ### the script -/
theorem ints_of_wellAll {P : Params} {h : Heap} : ∀ (ns : List Int) (vs : List Value), WellAll P h vs (ns.map WData.int) → IntsAre vs ns := by
  intro ns
  induction ns with
  | nil =>
    intro vs w
    rw [List.map_nil] at w
    cases w
    exact .nil
  | cons n ns ih =>
    intro vs w
    rw [List.map_cons] at w
    cases w with
    | cons a b =>
      cases a
      exact .cons _ _ (ih _ b)

theorem script_of {l : OpenLaw} {n : Nat} (hn : l.most = some n) {P : Params} {h : Heap} {args : List WData} {vals : List Value}
    (hpre : l.row.toRowW.claim.pre args = true) (hwl : WellAll P h vals args) :
    ∃ a vs ns, vals = [Value.ref a] ∧ args = [WData.list (ns.map WData.int)] ∧ h.get? a = some { cls := .type "list", data := .seq vs.toArray } ∧ IntsAre vs ns ∧ ns.length ≤ n := by
  have hsh : WShape.hasAll [] args [.list .int] = true := (pre_splitW hpre).1
  have hc : l.pre.holds [] { args := args } = true := (pre_splitW hpre).2
  obtain ⟨d, r, rfl, h1, h2⟩ := hasAllW_cons hsh
  obtain rfl := hasAllW_nil h2
  obtain ⟨xs, rfl, h3⟩ := hasW_list h1
  obtain ⟨ns, rfl⟩ := items_int h3
  have hlen : ns.length ≤ n := by
    unfold OpenLaw.pre at hc
    have h4 : (WTm.not (.lt (.lit (.int (n : Int))) (.len (.arg 0)))).holds [] { args := [.list (ns.map .int)] } = true := by
      have h4 := (holds_andW hc).1
      rw [hn] at h4
      exact h4
    have h5 := condW_of h4 (w_not (w_lt w_lit (w_len_list (w_arg rfl))))
    rw [List.length_map] at h5
    refine Nat.le_of_not_lt fun q => ?_
    have q' : (n : Int) < ((ns.length : Nat) : Int) := by omega
    first
      | (rw [decide_eq_true q'] at h5; exact absurd h5 (by decide))
      | (simp at h5; omega)
  cases hwl with
  | cons w1 w2 =>
    cases w2
    cases w1 with
    | list ho hall => exact ⟨_, _, ns, rfl, rfl, ho, ints_of_wellAll ns _ hall, hlen⟩

theorem post_true (l : OpenLaw) (args : List WData) : l.row.toRowW.claim.post args (.bool true) args = true :=
  postW_of (r := l.row.toRowW) (X := (true == true))
    (show WShape.has [] (.bool true) .bool = true by first | rfl | decide | simp [WShape.has, WShape.arms, WShape.armsAll])
    (show (WTm.eq .res (.lit (.bool true))).value [] { args := args, res := some (.bool true), after := args } = some (.bool (true == true)) from w_eq_bool (w_res rfl) w_lit) rfl

/-! ### the attachment: holds_open's last premise (the goal 'hc' behind k_head) from a wpAny of the law's body -/
theorem attach {l : OpenLaw} {n : Nat} {q : Program} {loose : List Str} {XP : (Str → Option Value) → Heap → Prop} {YP : World → Heap → Prop} {d : DefRec} {x : Str}
    (hn : l.most = some n) (hdf : d.params.defaults = [])
    (hbind : ∀ pm cd doc v : Value, bindArgs (docDef d.name d.params d.body d.scope pm cd doc) ⟨[v], []⟩ = pure [(x, v)])
    (hx : d.scope.names.lookup x = some .local ∨ d.scope.names.lookup x = some .cell)
    (hk : d.scope.kind = .function) (hco : d.scope.isCoroutine = false) (hgen : d.scope.isGenerator = false)
    (body : ∀ (w : World) (s₀ s₁ s : Shared) (mg mb : Str → Option Value) (fa : Addr) (o : Obj) (pm cd doc : Value) (a : Addr) (vs : List Value) (ns : List Int),
      Ground q loose [] XP w s₀ mg mb s₁.heap → YP w s₁.heap →
      s₁.heap.get? fa = some o → o.data = .func (docDef d.name d.params d.body d.scope pm cd doc) → s₁.heap.CodeRec cd d.name → mg d.name = some (.ref fa) →
      s₁.heap.get? a = some { cls := .type "list", data := .seq vs.toArray } → IntsAre vs ns → ns.length ≤ n →
      s.gens = #[] → s.os = s₁.os →
      Fr s₁.heap s₁.heap.objs.size s.heap (bindL (envOfC d.name d.scope s₁.heap.objs.size fa cd).kindOf [(x, .ref a)] fun _ => none) →
      Cl s₁.heap.objs.size (cellsFrom (s₁.heap.objs.size + 1) d.scope.names []) s.heap (bindC (envOfC d.name d.scope s₁.heap.objs.size fa cd).kindOf [(x, .ref a)] fun _ => none) →
      wpAny (model l.prog w) (callerA.deeper (envOfC d.name d.scope s₁.heap.objs.size fa cd)) (execs d.body (envOfC d.name d.scope s₁.heap.objs.size fa cd))
        (fun f s' => f = .ret (.bool true) ∧ OldK s₁.heap s'.heap ∧ s'.os = s₁.os ∧ AllBare s'.gens) (fun _ _ => False) s) :
    WalkO q loose XP YP l.row.toRowW d [] (fun f vs => PySem.call f vs) := by
  intro w s₀ s₁ mg mb G Y fa o pm cd doc dV kV ho hd hcd hD hmg hg args vals as hpre hlay hrd hwl hlo
  obtain rfl : dV = .none := Dflts.none hD hdf
  obtain rfl : kV = .none := Dflts.noKw hD
  obtain ⟨a, vs, ns, rfl, rfl, hobj, hints, hlen⟩ := script_of hn hpre hwl
  refine enter_call ?_
  refine call_cells_ret (o := o) (by rw [depth_caller]; decide) ho (fd_plain hd) G.T.nolimit hcd (hbind pm cd doc (.ref a)) (fun y hy => ?_) (fun h₁ tk F X => ?_) hco hgen hk
  · obtain rfl : y = (x, Value.ref a) := List.mem_singleton.mp hy
    rcases hx with e | e
    · exact .inl e
    · exact .inr ⟨e, cellsFrom_some _ _ _ (.inl e)⟩
  · refine wpAny_mono (body w s₀ s₁ { s₁ with heap := h₁, toks := tk } mg mb fa o pm cd doc a vs ns G Y ho (fd_plain hd) hcd hmg hobj hints hlen hg rfl F X) (fun f s' hq => ?_) (fun _ _ hq => hq)
    obtain ⟨rfl, h2, h3, h4⟩ := hq
    exact ⟨.inl ⟨.bool true, .bool true, [], rfl, fun _ => rfl, .bool true, post_true l _, fun _ => ⟨List.Pairwise.nil, fun _ hm => (nomatch hm)⟩⟩, h2, h3, h4⟩

/-- the same from a codeAny of the CALL (for a layer whose function contracts speak of calls) -/
theorem attach_call {l : OpenLaw} {n : Nat} {q : Program} {loose : List Str} {XP : (Str → Option Value) → Heap → Prop} {YP : World → Heap → Prop} {d : DefRec}
    (hn : l.most = some n) (hdf : d.params.defaults = [])
    (call : ∀ (w : World) (s₀ s₁ : Shared) (mg mb : Str → Option Value) (fa : Addr) (o : Obj) (pm cd doc : Value) (a : Addr) (vs : List Value) (ns : List Int),
      Ground q loose [] XP w s₀ mg mb s₁.heap → YP w s₁.heap →
      s₁.heap.get? fa = some o → o.data = .func (docDef d.name d.params d.body d.scope pm cd doc) → s₁.heap.CodeRec cd d.name → mg d.name = some (.ref fa) →
      s₁.heap.get? a = some { cls := .type "list", data := .seq vs.toArray } → IntsAre vs ns → ns.length ≤ n → s₁.gens = #[] →
      codeAny (model l.prog w) callerA (.call (.ref fa) ⟨[.ref a], []⟩) (fun r s' => r = .ok (.ret (.bool true)) ∧ OldK s₁.heap s'.heap ∧ s'.os = s₁.os ∧ AllBare s'.gens) s₁) :
    WalkO q loose XP YP l.row.toRowW d [] (fun f vs => PySem.call f vs) := by
  intro w s₀ s₁ mg mb G Y fa o pm cd doc dV kV ho hd hcd hD hmg hg args vals as hpre hlay hrd hwl hlo
  obtain rfl : dV = .none := Dflts.none hD hdf
  obtain rfl : kV = .none := Dflts.noKw hD
  obtain ⟨a, vs, ns, rfl, rfl, hobj, hints, hlen⟩ := script_of hn hpre hwl
  refine enter_call (codeAny_mono (call w s₀ s₁ mg mb fa o pm cd doc a vs ns G Y ho (fd_plain hd) hcd hmg hobj hints hlen hg) fun r s' hq => ?_)
  obtain ⟨rfl, h2, h3, h4⟩ := hq
  exact ⟨.inl ⟨.bool true, .bool true, [], rfl, fun _ => rfl, .bool true, post_true l _, fun _ => ⟨List.Pairwise.nil, fun _ hm => (nomatch hm)⟩⟩, h2, h3, h4⟩

/-- the same where the top left finished generators (o_head chose holds_openN): nothing may have changed at all and no generator may be left -/
theorem attachN {l : OpenLaw} {n : Nat} {q : Program} {loose : List Str} {XP : (Str → Option Value) → Heap → Prop} {YP : World → Heap → Prop} {d : DefRec} {x : Str}
    (hn : l.most = some n) (hdf : d.params.defaults = [])
    (hbind : ∀ pm cd doc v : Value, bindArgs (docDef d.name d.params d.body d.scope pm cd doc) ⟨[v], []⟩ = pure [(x, v)])
    (hx : d.scope.names.lookup x = some .local ∨ d.scope.names.lookup x = some .cell)
    (hk : d.scope.kind = .function) (hco : d.scope.isCoroutine = false) (hgen : d.scope.isGenerator = false)
    (body : ∀ (w : World) (s₀ s₁ s : Shared) (mg mb : Str → Option Value) (fa : Addr) (o : Obj) (pm cd doc : Value) (a : Addr) (vs : List Value) (ns : List Int),
      Ground q loose [] XP w s₀ mg mb s₁.heap → YP w s₁.heap →
      s₁.heap.get? fa = some o → o.data = .func (docDef d.name d.params d.body d.scope pm cd doc) → s₁.heap.CodeRec cd d.name → mg d.name = some (.ref fa) →
      s₁.heap.get? a = some { cls := .type "list", data := .seq vs.toArray } → IntsAre vs ns → ns.length ≤ n →
      s.gens = #[] → s.os = s₁.os →
      Fr s₁.heap s₁.heap.objs.size s.heap (bindL (envOfC d.name d.scope s₁.heap.objs.size fa cd).kindOf [(x, .ref a)] fun _ => none) →
      Cl s₁.heap.objs.size (cellsFrom (s₁.heap.objs.size + 1) d.scope.names []) s.heap (bindC (envOfC d.name d.scope s₁.heap.objs.size fa cd).kindOf [(x, .ref a)] fun _ => none) →
      wpAny (model l.prog w) (callerA.deeper (envOfC d.name d.scope s₁.heap.objs.size fa cd)) (execs d.body (envOfC d.name d.scope s₁.heap.objs.size fa cd))
        (fun f s' => f = .ret (.bool true) ∧ (∀ b o, s₁.heap.get? b = some o → s'.heap.get? b = some o) ∧ s'.os = s₁.os ∧ s'.gens = #[]) (fun _ _ => False) s) :
    WalkN q loose XP YP l.row.toRowW d [] (fun f vs => PySem.call f vs) := by
  intro w s₀ s₁ mg mb G Y fa o pm cd doc dV kV ho hd hcd hD hmg hg args vals as hpre hlay hrd hwl hlo
  obtain rfl : dV = .none := Dflts.none hD hdf
  obtain rfl : kV = .none := Dflts.noKw hD
  obtain ⟨a, vs, ns, rfl, rfl, hobj, hints, hlen⟩ := script_of hn hpre hwl
  refine enter_callW ?_
  refine call_cells_ret (o := o) (by rw [depth_caller]; decide) ho (fd_plain hd) G.T.nolimit hcd (hbind pm cd doc (.ref a)) (fun y hy => ?_) (fun h₁ tk F X => ?_) hco hgen hk
  · obtain rfl : y = (x, Value.ref a) := List.mem_singleton.mp hy
    rcases hx with e | e
    · exact .inl e
    · exact .inr ⟨e, cellsFrom_some _ _ _ (.inl e)⟩
  · refine wpAny_mono (body w s₀ s₁ { s₁ with heap := h₁, toks := tk } mg mb fa o pm cd doc a vs ns G Y ho (fd_plain hd) hcd hmg hobj hints hlen hg rfl F X) (fun f s' hq => ?_) (fun _ _ hq => hq)
    obtain ⟨rfl, h2, h3, h4⟩ := hq
    exact ⟨.inl ⟨.bool true, .bool true, [], rfl, fun _ => rfl, .bool true, post_true l _, fun _ => ⟨List.Pairwise.nil, fun _ hm => (nomatch hm)⟩⟩, h2, h3, h4⟩

/-! ### rules over ANY heap (no ledger) from facts about the written part K: the library's own take a ledger (News) for what they write -/
section
variable {prog : Program} {w : World} {A : Around} {E : Value → Shared → Prop} {s : Shared} {K : Frag}

/-- a def of the module, or a method (qual 'C.m'), entered: the frame is the next address; cells behind it -/
theorem call_fn {R : Result → Shared → Prop} {name qual : Str} {params : Arguments} {body : List Stmt} {scope : Scope} {dV kV doc pm cdv ct oc : Value} {an od : Option Addr} {osl : Array (Option Value)} {f : Addr} {args : Args} {binds : List (Str × Value)}
    (X : K.In s.heap) (hlim : s.heap.NoLimit) (ho : K.lookup f = some ⟨oc, od, .func (fnOf name qual params body scope dV kV doc pm an cdv ct), osl⟩) (hcd : codeIn K cdv qual = true) (hroom : A.depth < recursionLimit)
    (hbind : BindsTo s (fnOf name qual params body scope dV kV doc pm an cdv ct) args binds)
    (hkind : (binds.all fun y => scope.names.lookup y.1 == some .local || scope.names.lookup y.1 == some .cell) = true)
    (h : ∀ s₁, InCallC s s.heap.objs.size (bindL (envOfC qual scope s.heap.objs.size f cdv).kindOf binds fun _ => none) (cellsFrom (s.heap.objs.size + 1) scope.names [])
        (bindC (envOfC qual scope s.heap.objs.size f cdv).kindOf binds fun _ => none) s₁ →
      wpAny (model prog w) (A.deeper (envOfC qual scope s.heap.objs.size f cdv)) (execs body (envOfC qual scope s.heap.objs.size f cdv))
        (fun fl s' => R (.ok (.ret (match fl with | .ret v => v | _ => .none))) s')
        (fun e s' => wpAny (model prog w) (A.deeper (envOfC qual scope s.heap.objs.size f cdv)) (leaving (envOfC qual scope s.heap.objs.size f cdv) e) (fun _ s'' => R (.error e) s'') (fun e' s'' => R (.error e') s'') s') s₁)
    (hco : scope.isCoroutine = false) (hgen : scope.isGenerator = false) (hk : scope.kind = .function) : codeAny (model prog w) A (.call (.ref f) args) R s := by
  refine codeAny_call_function hroom (X _ _ ho) rfl hco hgen rfl (codeRec_of X hcd) (hbind _ _ _ _ ?_)
  refine wpAny_newFunctionEnv_cells hk (kindsX hkind _) fun env he s₁ x => ?_
  subst he
  exact ⟨hlim.keeps x.toInCall.keep, codeAny_func (h s₁ x)⟩

/-- C(..): dict at size, instance at size + 1, then __init__ -/
theorem make_obj {R : Result → Shared → Prop} {C fI : Addr} {rest : List Value} {kw : List (Str × Value)}
    (X : K.In s.heap) (hm : makesIn K C = true) (hi : findIn K (.ref C) "__init__" = some (some (.ref fI))) (hf : isFn K (.ref fI) = true)
    (h : codeAny (model prog w) (A.under (.builtin "type.__call__" ⟨.ref C :: rest, kw⟩)) (.call (.ref fI) ⟨.ref (s.heap.objs.size + 1) :: rest, kw⟩) (InitBack (s.heap.objs.size + 1) R)
      { s with heap := (s.heap.push emptyDict).push (instObj C s.heap.objs.size) }) : codeAny (model prog w) A (.call (.ref C) ⟨rest, kw⟩) R s := by
  obtain ⟨hh, g, d, t, os⟩ := s
  exact make_core (makes_of X hm) (looks_findIn X hi) (fun self => bind_fn X self (beq_iff_eq.mp hf)) (.inl rfl) h

/-- x.name where the instance's dict holds the name and the class does not -/
theorem get_field {x C : Addr} {ox : Obj} {es : List DictEntry} {n : Nat} {name : Str} {expr : Bool} {v : Value} {Q : Value → Shared → Prop}
    (X : K.In s.heap) (I : PySem.W.InstAt s.heap x ox C (some (dictOf es n))) (hg : plainGet K C name = true) (hh : hasDictIn K C = true) (ha : findIn K (.ref C) name = some none)
    (hl : getL name es = some (some v)) (hv : handedIn v = true) (h : Q v { s with toks := s.toks + 1 }) : wpAny (model prog w) A (getAttr (.ref x) name expr) Q E s :=
  get_value X I (plainGet_of hg).1 (findObj_own hh ha rfl hl) hv h

/-- x.m(..): the method found in the class -/
theorem get_method {x C f : Addr} {ox : Obj} {es : List DictEntry} {n : Nat} {name : Str} {pl : Sem Bool} {Q : Value × List Value → Shared → Prop}
    (X : K.In s.heap) (I : PySem.W.InstAt s.heap x ox C (some (dictOf es n))) (hg : plainGet K C name = true) (hf : findIn K (.ref C) name = some (some (.ref f))) (ht : isFn K (.ref f) = true)
    (hl : getL name es = some none) (h : Q (.ref f, [.ref x]) s) : wpAny (model prog w) A (getMethod (.ref x) name pl) Q E s :=
  method_fn X I (plainGet_of hg).1 (plainGet_of hg).2 hf (beq_iff_eq.mp ht) (by show (lookIn name (dictOf es n)).map _ = _; rw [lookIn_dict, hl]; rfl) h

/-! the whole heap as the ledger: makes every rule that writes through a ledger a rule over any heap -/
def noObjs (h : Heap) : Heap := { h with objs := #[] }
theorem noObjs_get (h : Heap) (b : Addr) : (noObjs h).get? b = none := by
  cases e : (noObjs h).get? b with
  | none => rfl
  | some o => exact absurd (Heap.lt_size e) (Nat.not_lt_zero _)
def ledger (h : Heap) (L d : Addr) : List (Addr × Obj) := (List.range h.objs.size).filterMap fun a => if a = L ∨ a = d then none else (h.get? a).map fun o => (a, o)
theorem mem_ledger {h : Heap} {L d a : Addr} {o : Obj} : (a, o) ∈ ledger h L d ↔ a ≠ L ∧ a ≠ d ∧ h.get? a = some o := by
  unfold ledger
  rw [List.mem_filterMap]
  constructor
  · rintro ⟨b, _, e⟩
    split at e
    · cases e
    · rename_i hb
      obtain ⟨o', ho, e'⟩ := Option.map_eq_some_iff.mp e
      cases e'
      exact ⟨fun q => hb (.inl q), fun q => hb (.inr q), ho⟩
  · rintro ⟨n1, n2, ho⟩
    refine ⟨a, List.mem_range.mpr (Heap.lt_size ho), ?_⟩
    rw [if_neg (show ¬ (a = L ∨ a = d) from fun q => q.elim n1 n2), ho] <;> rfl
theorem news_ledger {h : Heap} {L d : Addr} {od : Obj} (hne : d ≠ L) (ho : h.get? d = some od) : News (noObjs h) L h ([] ++ (d, od) :: ledger h L d) := by
  rintro ⟨a, o⟩ hp
  rcases List.mem_cons.mp hp with e | hp
  · cases e
    exact ⟨ho, hne, noObjs_get _ _⟩
  · obtain ⟨n1, n2, e⟩ := mem_ledger.mp hp
    exact ⟨e, n1, noObjs_get _ _⟩
theorem fr_all {h : Heap} {L : Addr} {m : Str → Option Value} (n : h.Ns L m) : Fr (noObjs h) L h m :=
  ⟨n, fun b o e => (by rw [noObjs_get] at e; cases e), Nat.zero_le _⟩
/-- Upd of the head entry (for append_K, setItem_K ..) -/
theorem upd_ledger {h : Heap} {L d : Addr} {o o' : Obj} : Upd d o o' ((d, o) :: ledger h L d) ((d, o') :: ledger h L d) :=
  .head fun ⟨_, _⟩ hp => (mem_ledger.mp hp).2.1

/-- x.name = v over any heap: L is any namespace of the heap (the frame's, say): its map stays, its object is not told; all else but the dict stays -/
theorem set_field {x C dx L : Addr} {ox : Obj} {m : Str → Option Value} {es es' : List DictEntry} {n n' : Nat} {name : Str} {v : Value} {Q : Unit → Shared → Prop}
    (X : K.In s.heap) (I : PySem.W.InstAt s.heap x ox C (some (dictOf es n))) (hd : ox.dict = some dx) (hL : s.heap.Ns L m) (hne : dx ≠ L)
    (hs : findIn K (.ref C) "__setattr__" = some (some (.builtin "object.__setattr__"))) (hp : plainOver K C = true) (ht : takerIn K C name = some none) (hh : hasDictIn K C = true) (hl : (getL name es).isSome = true)
    (e : (putL name (PyData.keyHash w.params name) (.str name (s.toks + 1)) v es, putN name es n) = (es', n')) (hz : es'.length ≤ 1000)
    (h : ∀ h' : Heap, h'.Ns L m → h'.get? dx = some (dictOf es' n') → (∀ b o, b ≠ dx → b ≠ L → s.heap.get? b = some o → h'.get? b = some o) → Q () { s with heap := h', toks := s.toks + 2 }) :
    wpAny (model prog w) A (setAttr (.ref x) name v) Q E s := by
  obtain ⟨e1, e2⟩ := Prod.mk.inj e
  have hdx : s.heap.get? dx = some (dictOf es n) := by
    have := I.dict
    rw [hd] at this
    exact this
  refine set_plain X I hs (osa_dict (s := { s with toks := s.toks + 1 }) (h₀ := noObjs s.heap) (L := L) (m := m) (od := dictOf es n) (od' := dictOf es' n') (es := es') (n := n') (pre := []) (post := ledger s.heap L dx)
    (fr_all hL) (news_ledger hne hdx) X I hd hp ht hh hl (fun _ q => nomatch q) (fun ⟨_, _⟩ q => (mem_ledger.mp q).2.1) (by rw [putName_dict, e1, e2]) rfl hz fun h' F' N' => ?_)
  exact h h' F'.ns (N'.get (List.Mem.head _)) fun b o n1 n2 ho => N'.get (List.Mem.tail _ (mem_ledger.mpr ⟨n2, n1, ho⟩))
end
end Att

namespace L2
open PySem PySem.Spec PyProof.Rows

theorem vals_ints : ∀ {vs : List Value} {ns : List Int}, IntsAre vs ns → Vals (ns.map V.int) vs
  | _, _, .nil => .nil
  | _, _, .cons n t h => .cons ⟨t, rfl⟩ (vals_ints h)

/-- nothing is tracked but the script, known to the object (or it is an object of the module) -/
def Only (H : Hp) : Prop := ∀ b, H b = none ∨ ∃ o xs, H b = some (.frz o (.lst xs))

/-- THE HEAD: the law's promise, at the heap behind the top. F, the promise of the law's def, may use that base is part of the heap (so K.In base, base.Ns mainGlobals mg stand in Mod) -/
theorem law_call {P : Program} {w : World} {K : PySem.W.Frag} {mg mb : Str → Option Value} {CX : CXT} {k : Nat} {fa a : Addr} {fd : FuncData} {x : Str} {sp : Sp} {s₁ : Shared} {vs : List Value} {ns : List Int}
    (KX : K.In s₁.heap) (hns : s₁.heap.Ns mainGlobals mg) (hb : s₁.heap.Ns builtinsNs mb) (hbb : ∀ x : Str, x ≠ "__name__" → mb x = bootBuiltins x) (hlim : s₁.heap.NoLimit) (hg : s₁.gens = #[])
    (ha : s₁.heap.get? a = some { cls := .type "list", data := .seq vs.toArray }) (hi : IntsAre vs ns) (hl : ns.length ≤ sizeLine) (hr : Room k callerA)
    (F : ∀ base : Heap, K.In base → base.Ns mainGlobals mg → FnOk P w K mg base CX k fa fd [x] sp) (hbind : ∀ (s : Shared) (u : Value), BindsTo s fd ⟨[u], []⟩ [(x, u)])
    (hsp : ∀ H : Hp, Only H → SqL K H a (ns.map V.int) → sp [.ref a] H (fun v _ => v = .bl true) fun _ _ _ => False)
    (hCX : ∀ H e s', CX [] H s₁ (fun _ _ _ => False) e s' → False) :
    codeAny (model P w) callerA (.call (.ref fa) ⟨[.ref a], []⟩) (fun r s' => r = .ok (.ret (.bool true)) ∧ OldK s₁.heap s'.heap ∧ s'.os = s₁.os ∧ AllBare s'.gens) s₁ := by
  have rv := vals_ints hi
  have lenV := hi.length
  -- from an abstract heap in which nothing but the script may be tracked
  have core : ∀ H : Hp, Only H → SqL K H a (ns.map V.int) → HOk P w H s₁.heap → (∀ b, H b ≠ none → b = a) → (H a ≠ none → K.lookup a = none) →
      codeAny (model P w) callerA (.call (.ref fa) ⟨[.ref a], []⟩) (fun r s' => r = .ok (.ret (.bool true)) ∧ OldK s₁.heap s'.heap ∧ s'.os = s₁.os ∧ AllBare s'.gens) s₁ := by
    intro H hO hS hok hA hK
    have base_of : ∀ {b : Addr} {o : Obj}, s₁.heap.get? b = some o → H b = none → (hidT s₁.heap H).get? b = some o := fun e n => hidT_get e n
    have noA : ∀ {b : Addr} {o : Obj} {es : Array DictEntry} {ep : Nat}, s₁.heap.get? b = some o → o.data = .dict es ep → H b = none := fun {b o es ep} e d => by
      cases q : H b with
      | none => rfl
      | some u =>
        have e' : b = a := hA b (by rw [q]; simp)
        subst e'
        rw [ha] at e; cases e
        have d' : Data.seq vs.toArray _ = Data.dict es ep := d
        cases d'
    have nsK : ∀ {b : Addr} {m : Str → Option Value}, s₁.heap.Ns b m → (hidT s₁.heap H).Ns b m := fun {b m} ⟨o, es, ep, e, d, r⟩ => ⟨o, es, ep, base_of e (noA e d), d, r⟩
    have hKb : K.In (hidT s₁.heap H) := fun b o e => base_of (KX b o e) (by
      cases q : H b with
      | none => rfl
      | some u =>
        have e' : b = a := hA b (by rw [q]; simp)
        subst e'
        rw [hK (by rw [q]; simp)] at e; cases e)
    have hM : Mod K mg (hidT s₁.heap H) := ⟨hKb, nsK hns, ⟨mb, nsK hb, hbb⟩, let ⟨mc, h1, h2⟩ := hlim; ⟨mc, nsK h1, h2⟩⟩
    have e0 : Env0 P w K mg (hidT s₁.heap H) callerA [] s₁ H := ⟨rfl, hM, fun b o e => of_hidT e, Nat.le_of_eq (hidT_size _ _), trivial, fun b hb => absurd (show b ∈ ([] : List Addr) from hb) (by simp), hok, .of_eq hg⟩
    refine codeAny_mono ((F _ hKb (nsK hns)).run callerA [] s₁ H ⟨[.ref a], []⟩ [.ref a] [.ref a] _ _ hr e0 (hbind s₁ (.ref a)) (.cons rfl .nil) (hsp H hO hS)) fun r s' h => ?_
    cases r with
    | error e => exact (hCX H e s' h).elim
    | ok fl =>
      cases fl with
      | next => exact False.elim h
      | brk => exact False.elim h
      | cont => exact False.elim h
      | ret u =>
        obtain ⟨v, H', os, bare, un, hok', r', q⟩ := h
        have q' : v = .bl true := q
        subst q'
        obtain rfl : u = Value.bool true := r'
        refine ⟨rfl, OldK.of_keep fun b o e => ?_, os, bare⟩
        cases q : H b with
        | none => exact un.keep b o e q (by intro z; exact absurd (show b ∈ ([] : List Addr) from z) (by simp)) (by simp)
        | some u =>
          rcases hO b with z | ⟨ob, xs, z⟩
          · rw [q] at z; cases z
          · have z2 := un.frzs b ob _ z
            obtain ⟨e1, _⟩ := hok b _ z
            obtain ⟨e2, _⟩ := hok' b _ z2
            rw [e] at e1; cases e1
            exact e2
  cases hk : K.lookup a with
  | some o =>
    -- the script is one of the module's own objects
    have e := KX a o hk
    rw [ha] at e
    cases e
    refine core (fun _ => none) (fun _ => .inl rfl) (.inr ⟨_, vs.toArray, _, hk, rfl, rfl, rfl, by rw [List.size_toArray, lenV]; exact hl, by simpa using rv⟩) (fun b u z => by have z' : (none : Option HO) = some u := z; cases z') (fun b z => absurd rfl z) fun z => absurd rfl z
  | none =>
    refine core (fun b => if b = a then some (.frz { cls := .type "list", data := .seq vs.toArray } (.lst (ns.map V.int))) else none) (fun b => ?_) (.inl (.inr ⟨{ cls := .type "list", data := .seq vs.toArray }, if_pos rfl⟩)) (fun b u z => ?_) (fun b z => ?_) fun _ => hk
    · by_cases hb : b = a
      · exact .inr ⟨_, _, if_pos hb⟩
      · exact .inl (if_neg hb)
    · by_cases hb : b = a
      · have z' := (if_pos hb).symm.trans z
        cases z'
        subst hb
        exact ⟨ha, by rw [List.length_map]; exact hl, vs, _, rv, ha⟩
      · have z' := (if_neg hb).symm.trans z
        cases z'
    · by_cases hb : b = a
      · exact hb
      · exact absurd (if_neg hb) z
end L2

namespace L2
open PySem PySem.Spec PyProof.Rows

abbrev KOf {K : PySem.W.Frag} {h : Heap} (_ : K.In h) : PySem.W.Frag := K

/-- the goal that k_head leaves (case hc), from the law's promise. F gives the function object fd (K's own) once, then the promise over every base -/
theorem walk_of {l : PySem.W.OpenLaw} {n k : Nat} {q : Program} {loose : List Str} {XP : (Str → Option Value) → Heap → Prop} {YP : World → Heap → Prop} {d : DefRec} {K : Params → PySem.W.Frag} {CX : World → CXT} {sp : World → Sp} {x : Str}
    (hn : l.most = some n) (hn2 : n ≤ sizeLine) (hdf : d.params.defaults = []) (hr : Room k callerA)
    (hY : ∀ (w : World) (h : Heap), YP w h → (K w.params).In h)
    (F : ∀ (w : World) (mg : Str → Option Value) (fa : Addr) (h : Heap), (K w.params).In h → h.Ns mainGlobals mg → mg d.name = some (.ref fa) →
      ∃ fd : FuncData, (∀ (s : Shared) (u : Value), BindsTo s fd ⟨[u], []⟩ [(x, u)]) ∧
        ∀ base : Heap, (K w.params).In base → base.Ns mainGlobals mg → FnOk l.prog w (K w.params) mg base (CX w) k fa fd [x] (sp w))
    (hsp : ∀ (w : World) (H : Hp) (a : Addr) (ns : List Int), ns.length ≤ n → Only H → SqL (K w.params) H a (ns.map V.int) → sp w [.ref a] H (fun v _ => v = .bl true) fun _ _ _ => False)
    (hCX : ∀ (w : World) (H : Hp) (s : Shared) (e : Value) (s' : Shared), CX w [] H s (fun _ _ _ => False) e s' → False) :
    PySem.W.WalkO q loose XP YP l.row.toRowW d [] (fun f vs => PySem.call f vs) := by
  refine Att.attach_call hn hdf fun w s₀ s₁ mg mb fa o pm cd doc a vs ns G Y ho hd hcd hmg hobj hints hlen hg => ?_
  have KX := hY w _ Y
  obtain ⟨fd, hb, hF⟩ := F w mg fa _ KX G.T.g hmg
  exact law_call KX G.T.g G.T.b G.T.builtins G.T.nolimit hg hobj hints (Nat.le_trans hlen hn2) hr hF hb (fun H hO hS => hsp w H a ns hlen hO hS) fun H e s' => hCX w H s₁ e s'
/-- the same where the promise hangs on the written part alone: (sp := My.sp_law), no hole under a binder -/
theorem walk_ofK {l : PySem.W.OpenLaw} {n k : Nat} {q : Program} {loose : List Str} {XP : (Str → Option Value) → Heap → Prop} {YP : World → Heap → Prop} {d : DefRec} {K : Params → PySem.W.Frag} {CX : CXT} {sp : PySem.W.Frag → Sp} {x : Str}
    (hn : l.most = some n) (hn2 : n ≤ sizeLine) (hdf : d.params.defaults = []) (hr : Room k callerA)
    (hY : ∀ (w : World) (h : Heap), YP w h → (K w.params).In h)
    (F : ∀ (w : World) (mg : Str → Option Value) (fa : Addr) (h : Heap), (K w.params).In h → h.Ns mainGlobals mg → mg d.name = some (.ref fa) →
      ∃ fd : FuncData, (∀ (s : Shared) (u : Value), BindsTo s fd ⟨[u], []⟩ [(x, u)]) ∧
        ∀ base : Heap, (K w.params).In base → base.Ns mainGlobals mg → FnOk l.prog w (K w.params) mg base CX k fa fd [x] (sp (K w.params)))
    (hsp : ∀ (K : PySem.W.Frag) (H : Hp) (a : Addr) (ns : List Int), ns.length ≤ n → Only H → SqL K H a (ns.map V.int) → sp K [.ref a] H (fun v _ => v = .bl true) fun _ _ _ => False)
    (hCX : ∀ (H : Hp) (s : Shared) (e : Value) (s' : Shared), CX [] H s (fun _ _ _ => False) e s' → False) :
    PySem.W.WalkO q loose XP YP l.row.toRowW d [] (fun f vs => PySem.call f vs) :=
  walk_of (K := K) (CX := fun _ => CX) (sp := fun w => sp (K w.params)) hn hn2 hdf hr hY F (fun w H a ns h1 h2 h3 => hsp (K w.params) H a ns h1 h2 h3) fun _ H s e s' => hCX H s e s'
end L2


/-! SHORT WORDS over the layer: a def of the text, its body, what a loop and a test want. -/
namespace L2
open PySem PySem.Spec PyProof.Rows

/-! ### the text by places -/
/-- the j-th statement of a class's body -/
def inClass (s : Stmt) (j : Nat) : Stmt := match s with
  | .ClassDef _ _ _ body _ _ _ _ _ _ _ => body.getD j (.Pass ⟨0, 0, 0, 0⟩)
  | _ => .Pass ⟨0, 0, 0, 0⟩
def defArgs (s : Stmt) : Arguments := match s with
  | .FunctionDef _ a _ _ _ _ _ _ _ _ => a
  | _ => { posonlyargs := [], args := [], vararg := none, kwonlyargs := [], kw_defaults := [], kwarg := none, defaults := [] }
def defBody (s : Stmt) : List Stmt := match s with
  | .FunctionDef _ _ b _ _ _ _ _ _ _ => b
  | _ => []
def defScope (s : Stmt) : Scope := match s with
  | .FunctionDef _ _ _ _ _ _ sc _ _ _ => sc
  | _ => { kind := .function, names := [], isGenerator := false, isCoroutine := false }

/-! ### no exception leaves a def -/
abbrev CX0 : CXT := fun _ _ _ _ _ _ => False
abbrev E0 : XK := fun _ _ _ => False
theorem pass0 {X : Cx} : Passes CX0 X E0 := fun _ _ _ _ _ _ _ h => h.elim

/-! ### a def (or method) of the text as it stands behind the top -/
structure Fun (K : PySem.W.Frag) (x qual : Str) (st : Stmt) (f : Addr) (fd : FuncData) : Prop where
  ex : ∃ (oc : Value) (od : Option Addr) (kV doc pm : Value) (an : Option Addr) (cdv ct : Value) (osl : Array (Option Value)),
    fd = PySem.W.fnOf x qual (defArgs st) (defBody st) (defScope st) .none kV doc pm an cdv ct ∧ K.lookup f = some ⟨oc, od, .func fd, osl⟩ ∧ PySem.W.codeIn K cdv qual = true
  kp : PySem.W.keepIn K (.ref f) = true
section
variable {P : Program} {w : World} {K : PySem.W.Frag} {mg : Str → Option Value} {base : Heap}
/-- THE RULE for a def: its body as a term of rules, and the reading of that term -/
theorem Fun.ok {x qual : Str} {st : Stmt} {f : Addr} {fd : FuncData} {N ps : List Str} {k : Nat} {sp : Sp} (F : Fun K x qual st f fd) (S : FnScope N ps (defScope st)) (len : ∀ vs H Q E, sp vs H Q E → vs.length = ps.length)
    (hbody : ∀ (cdv : Value) (A : Around) (outer : List Env) (s : Shared) (H : Hp) (vs : List V) (Q : VK) (E : XK), Room k (A.deeper (envOfC qual (defScope st) s.heap.objs.size f cdv)) → sp vs H Q E →
      ∃ t, PSs (cxOf CX0 P w K mg base N qual (defScope st) f cdv A outer s H E).nox (defBody st) t ∧ t { nx := fun _ H' => Q .non H', rt := Q } (start N vs) H) : FnOk P w K mg base CX0 (k + 1) f fd ps sp := by
  obtain ⟨oc, od, kV, doc, pm, an, cdv, ct, osl, rfl, lk, hcd⟩ := F.ex
  refine fn_of lk hcd S len fun A outer s H vs Q E hr hsp => ?_
  obtain ⟨t, h, q⟩ := hbody cdv A outer s H vs Q E hr hsp
  exact ⟨t, h.nox, q⟩
/-- how its arguments bind (no defaults): h is «fun _ _ _ _ _ _ us hl => match us, hl with | [_, _], _ => rfl», one _ a parameter -/
theorem Fun.binds {x qual : Str} {st : Stmt} {f : Addr} {fd : FuncData} {ps : List Str} (F : Fun K x qual st f fd)
    (h : ∀ (kV doc pm : Value) (an : Option Addr) (cdv ct : Value) (us : List Value), us.length = ps.length → bindArgs (PySem.W.fnOf x qual (defArgs st) (defBody st) (defScope st) .none kV doc pm an cdv ct) ⟨us, []⟩ = pure (ps.zip us)) : Binds K fd ps [] := by
  obtain ⟨oc, od, kV, doc, pm, an, cdv, ct, osl, rfl, lk, hcd⟩ := F.ex
  exact .all (h kV doc pm an cdv ct)
theorem fun_mk {x qual : Str} {st : Stmt} {f : Addr} {oc : Value} {od an : Option Addr} {osl : Array (Option Value)} {kV doc pm cdv ct : Value} (l : K.lookup f = some ⟨oc, od, .func (PySem.W.fnOf x qual (defArgs st) (defBody st) (defScope st) .none kV doc pm an cdv ct), osl⟩)
    (c : PySem.W.codeIn K cdv qual = true) (k : PySem.W.keepIn K (.ref f) = true) : Fun K x qual st f (PySem.W.fnOf x qual (defArgs st) (defBody st) (defScope st) .none kV doc pm an cdv ct) := ⟨⟨oc, od, kV, doc, pm, an, cdv, ct, osl, rfl, l, c⟩, k⟩
end
theorem hu_of {A : Around} {k : Nat} (hr : Room k A) : A.units + 1 < cLine := Nat.lt_of_le_of_lt (Nat.add_le_add_left (by decide : 1 ≤ 64) _) hr.units
theorem small1000 {n : Nat} (h : n ≤ 1000) : n < sizeLine := Nat.lt_of_le_of_lt h (by decide)

/-! ### expressions in short: the name that stands in the i-th slot -/
section
variable {X : Cx}
theorem pv (i : Nat) {x : Str} {pos : Pos} (hN : X.N[i]? = some x := by rfl) (hv : Vis X.env.scope x := by first | exact Or.inl rfl | exact Or.inr (Or.inl rfl) | exact Or.inr (Or.inr rfl)) (hd : (x == ("__debug__" : Str)) = false := by decide)
    (hcd : (x == ("__classdict__" : Str)) = false := by decide) : PE X (.Name x pos) (tVar i) := pe_var hN hv hd hcd
end

/-! ### tests -/
theorem iteF {A B : Prop} (h : B) : if false = true then A else B := by
  rw [if_neg Bool.false_ne_true]
  exact h
theorem iteT {A B : Prop} (h : A) : if true = true then A else B := by
  rw [if_pos rfl]
  exact h
theorem ite2 {c A B : Prop} [Decidable c] (h1 : c → A) (h2 : ¬ c → B) : if c then A else B := by
  by_cases h : c
  · rw [if_pos h]
    exact h1 h
  · rw [if_neg h]
    exact h2 h
theorem iteNS {c A B : Prop} [Decidable c] (hc : c) (h : B) : if (!decide c) = true then A else B := by
  rw [decide_eq_true hc]
  exact iteF h

/-! ### heaps -/
/-- all that was tracked is as it was -/
def Same (H H' : Hp) : Prop := ∀ b o, H b = some o → H' b = some o
theorem Same.refl (H : Hp) : Same H H := fun _ _ h => h
theorem Same.trans {H H1 H2 : Hp} (a : Same H H1) (b : Same H1 H2) : Same H H2 := fun c o h => b c o (a c o h)
theorem Same.free {H H' : Hp} (e : Same H H') {l : Addr} (h : H' l = Option.none) : H l = Option.none := by
  cases q : H l with
  | none => rfl
  | some o =>
    rw [e l o q] at h
    cases h
theorem Same.seq {K : PySem.W.Frag} {H H' : Hp} {a : Addr} {xs : List V} (e : Same H H') (h : SqL K H a xs) : SqL K H' a xs := by
  rcases h with (h | ⟨o, h⟩) | h
  · exact .inl (.inl (e _ _ h))
  · exact .inl (.inr ⟨o, e _ _ h⟩)
  · exact .inr h

end L2

set_option Elab.async false
set_option linter.all false
set_option maxRecDepth 100000
namespace L2
open PySem PySem.Spec PyProof.Rows

/-! ### ints of many figures -/
theorem log2_lt_of {k n : Nat} (hn : 0 < n) (h : k < 2 ^ n) : k.log2 < n := by
  rcases Nat.eq_zero_or_pos k with h0 | hp
  · rw [h0]; exact hn
  · exact (Nat.log2_lt (Nat.ne_of_gt hp)).mpr h
theorem bits_of {k : Int} {n : Nat} (hn : 0 < n) (h : k.natAbs < 2 ^ n) : Builtin.Int.intBits k ≤ n := by
  unfold Builtin.Int.intBits
  split
  · exact Nat.zero_le _
  · have := log2_lt_of hn h
    omega
/-- a number of at most n binary figures -/
def Fig (n : Nat) (k : Int) : Prop := k.natAbs < 2 ^ n
theorem Fig.mono {n m : Nat} {k : Int} (h : Fig n k) (e : n ≤ m) : Fig m k := Nat.lt_of_lt_of_le h (Nat.pow_le_pow_right (by decide) e)
theorem Fig.mul {n m : Nat} {i j : Int} (hi : Fig n i) (hj : Fig m j) : Fig (n + m) (i * j) := by
  unfold Fig at *
  rw [Int.natAbs_mul, Nat.pow_add]
  exact Nat.mul_lt_mul'' hi hj
theorem Fig.add {n : Nat} {i j : Int} (hi : Fig n i) (hj : Fig n j) : Fig (n + 1) (i + j) := by
  unfold Fig at *
  have h := Int.natAbs_add_le i j
  rw [Nat.pow_succ]
  omega
theorem Fig.neg {n : Nat} {i : Int} (hi : Fig n i) : Fig n (-i) := by
  unfold Fig at *
  rw [Int.natAbs_neg]; exact hi
theorem Fig.sub {n : Nat} {i j : Int} (hi : Fig n i) (hj : Fig n j) : Fig (n + 1) (i - j) := by
  rw [Int.sub_eq_add_neg]; exact hi.add hj.neg
theorem Fig.le {n : Nat} {i j : Int} (hi : Fig n i) (h : j.natAbs ≤ i.natAbs) : Fig n j := Nat.lt_of_le_of_lt h hi
theorem Fig.of {n : Nat} {k : Int} (h1 : -(2 ^ n : Int) < k) (h2 : k < (2 ^ n : Int)) : Fig n k := by
  unfold Fig
  have e : ((2 ^ n : Nat) : Int) = (2 ^ n : Int) := by push_cast; rfl
  omega
/-- both of at most 8000 figures -/
def CBig (i j : Int) : Prop := ∃ n, n ≤ 8000 ∧ Fig n i ∧ Fig n j
theorem CBig.mulOk {i j : Int} (h : CBig i j) : IntMulOk i j := by
  obtain ⟨n, hn, hi, hj⟩ := h
  have bi := bits_of (n := 8000) (by decide) (hi.mono hn)
  have bj := bits_of (n := 8000) (by decide) (hj.mono hn)
  have e : Builtin.Int.intTooBig ((Builtin.Int.intBits i : Int) + Builtin.Int.intBits j) = false := by
    unfold Builtin.Int.intTooBig
    have : bitsLine = 134217728 := by decide
    rw [this]
    exact decide_eq_false (by omega)
  unfold IntMulOk
  simp [e]
section
variable {X : Cx}
theorem op_mulB : OpR X (binaryOp .Mult) (rI CBig fun i j => .int (i * j)) := opI fun _ _ _ _ _ _ _ hc q => mul_int q hc.mulOk
/-- // by a positive divisor of at most 8000 figures -/
theorem op_fdivB : OpR X (binaryOp .FloorDiv) (rI (fun _ j => 0 < j ∧ Fig 8000 j) fun i j => .int (i / j)) := opI fun i j _ _ _ _ _ hc q => by
  obtain ⟨h0, h1⟩ := hc
  refine floordiv_int (by omega) ?_ (.inl (PyProof.noPylong_of_log2 (Nat.lt_trans (log2_lt_of (by decide) h1) (by decide))))
  rw [Int.fdiv_eq_ediv_of_nonneg _ (Int.le_of_lt h0)]
  exact q
end

/-! ### data: what a value is worth over the abstract heap; == and != of data -/
mutual
inductive DV (K : PySem.W.Frag) (H : Hp) : V → PyData → Prop
  | non : DV K H .non .none
  | bl (b : Bool) : DV K H (.bl b) (.bool b)
  | int (i : Int) : DV K H (.int i) (.int i)
  | str (x : Str) : DV K H (.str x) (.str x)
  | lst {a : Addr} {xs : List V} {ds : List PyData} : Rd H a (.lst xs) → DVs K H xs ds → DV K H (.ref a) (.list ds)
  | tup {a : Addr} {xs : List V} {ds : List PyData} : SqT K H a xs → DVs K H xs ds → DV K H (.ref a) (.tuple ds)
inductive DVs (K : PySem.W.Frag) (H : Hp) : List V → List PyData → Prop
  | nil : DVs K H [] []
  | cons {x : V} {d : PyData} {xs : List V} {ds : List PyData} : DV K H x d → DVs K H xs ds → DVs K H (x :: xs) (d :: ds)
end
section
variable {X : Cx} {pins : List (Addr × Obj)} {σ : St} {H : Hp} {s : Shared}
mutual
theorem Inv.reads (I : Inv X pins σ H s) : ∀ {x : V} {d : PyData} {u : Value}, DV X.K H x d → RelV x u → ∃ as, Reads s.heap u d as
  | _, _, _, .non, r => by cases r; exact ⟨_, .none⟩
  | _, _, _, .bl b, r => by cases r; exact ⟨_, .bool b⟩
  | _, _, _, .int i, r => by obtain ⟨t, rfl⟩ := r; exact ⟨_, .int i t⟩
  | _, _, _, .str x, r => by obtain ⟨t, rfl⟩ := r; exact ⟨_, .str x t⟩
  | _, _, _, .lst (a := a) (xs := xs) h hs, r => by
    cases r
    obtain ⟨_, its, n, rv, e⟩ := (show ObjOk X.prog X.w H s.heap a (.lst xs) from h.ok I.hok)
    obtain ⟨as, q⟩ := Inv.readsAll I hs rv
    exact ⟨_, .list e rfl rfl q⟩
  | _, _, _, .tup (a := a) (xs := xs) h hs, r => by
    cases r
    rcases h with h | ⟨o, its, n, e, hc, hd, hz, rv⟩
    · obtain ⟨_, its, rv, o, e, hc, n, hd⟩ := (show ObjOk X.prog X.w H s.heap a (.tup xs) from h.ok I.hok)
      obtain ⟨as, q⟩ := Inv.readsAll I hs rv
      exact ⟨_, .tuple e hc hd q⟩
    · obtain ⟨as, q⟩ := Inv.readsAll I hs rv
      exact ⟨_, .tuple (I.kIn _ _ e) hc hd q⟩
theorem Inv.readsAll (I : Inv X pins σ H s) : ∀ {xs : List V} {ds : List PyData} {us : List Value}, DVs X.K H xs ds → Vals xs us → ∃ as, ReadsAll s.heap us ds as
  | _, _, _, .nil, .nil => ⟨_, .nil⟩
  | _, _, _, .cons h hs, .cons r rs => by
    obtain ⟨as, q⟩ := Inv.reads I h r
    obtain ⟨bs, qs⟩ := Inv.readsAll I hs rs
    exact ⟨_, .cons q qs⟩
end
/-- x == y, x != y of data -/
def rEqD (K : PySem.W.Frag) : R2 := fun x y H Q => ∃ dx dy, DV K H x dx ∧ DV K H y dy ∧ dx.canLay0 = true ∧ dy.canLay0 = true ∧ dx.depth ≤ 60 ∧ Q (.bl (PyData.eqv dx dy)) H
def rNeD (K : PySem.W.Frag) : R2 := fun x y H Q => ∃ dx dy, DV K H x dx ∧ DV K H y dy ∧ dx.canLay0 = true ∧ dy.canLay0 = true ∧ dx.depth ≤ 60 ∧ Q (.bl (!PyData.eqv dx dy)) H
theorem op_eqD (hu : X.A.units + 64 < cLine) : OpR X (compareOp .Eq) (rEqD X.K) := by
  intro pins s σ H x y v u Q I rx ry h
  obtain ⟨dx, dy, hx, hy, c1, c2, hd, q⟩ := h
  obtain ⟨as, ra⟩ := I.reads hx rx
  obtain ⟨bs, rb⟩ := I.reads hy ry
  exact SeqAt.compareEq_reads ra rb c1 c2 (by omega) ⟨.bl _, H, I, rfl, q⟩
theorem op_neD (hu : X.A.units + 64 < cLine) : OpR X (compareOp .NotEq) (rNeD X.K) := by
  intro pins s σ H x y v u Q I rx ry h
  obtain ⟨dx, dy, hx, hy, c1, c2, hd, q⟩ := h
  obtain ⟨as, ra⟩ := I.reads hx rx
  obtain ⟨bs, rb⟩ := I.reads hy ry
  exact SeqAt.compareNe_reads ra rb c1 c2 (by omega) ⟨.bl _, H, I, rfl, q⟩
end
theorem Rd.same {H H' : Hp} {a : Addr} {o : HO} (e : Same H H') (h : Rd H a o) : Rd H' a o := by
  rcases h with h | ⟨ob, h⟩
  · exact .inl (e a _ h)
  · exact .inr ⟨ob, e a _ h⟩
theorem SqT.same {K : PySem.W.Frag} {H H' : Hp} {a : Addr} {xs : List V} (e : Same H H') (h : SqT K H a xs) : SqT K H' a xs := by
  rcases h with h | h
  · exact .inl (h.same e)
  · exact .inr h
mutual
theorem DV.same {K : PySem.W.Frag} {H H' : Hp} (e : Same H H') : ∀ {x : V} {d : PyData}, DV K H x d → DV K H' x d
  | _, _, .non => .non
  | _, _, .bl b => .bl b
  | _, _, .int i => .int i
  | _, _, .str x => .str x
  | _, _, .lst h hs => .lst (h.same e) (DVs.same e hs)
  | _, _, .tup h hs => .tup (h.same e) (DVs.same e hs)
theorem DVs.same {K : PySem.W.Frag} {H H' : Hp} (e : Same H H') : ∀ {xs : List V} {ds : List PyData}, DVs K H xs ds → DVs K H' xs ds
  | _, _, .nil => .nil
  | _, _, .cons h hs => .cons (DV.same e h) (DVs.same e hs)
end

/-! ### isinstance against a built-in class -/
section
variable {X : Cx}
theorem call_isi : CallR X (.builtin "isinstance") (fun xs H Q => ∃ x t n b, xs = [x, .ty n] ∧ TyOf X.K H x t ∧ PySem.W.kitOne X.K t (.type n) = some b ∧ Q (.bl b) H) := by
  intro pins s σ H xs us Q I r h
  obtain ⟨x, t, n, b, rfl, ty, e, q⟩ := h
  obtain ⟨u, w', rfl, ru, rw'⟩ := vals2 r
  cases rw'
  exact isinst_ok I ru ty e fun tk => ⟨.bl b, H, I.tok tk, rfl, q⟩
/-- isinstance against a class of the text -/
theorem call_isiC : CallR X (.builtin "isinstance") (fun xs H Q => ∃ x t C b, xs = [x, .ref C] ∧ TyOf X.K H x t ∧ PySem.W.kitOne X.K t (.ref C) = some b ∧ Q (.bl b) H) := by
  intro pins s σ H xs us Q I r h
  obtain ⟨x, t, n, b, rfl, ty, e, q⟩ := h
  obtain ⟨u, w', rfl, ru, rw'⟩ := vals2 r
  cases rw'
  exact isinst_ok I ru ty e fun tk => ⟨.bl b, H, I.tok tk, rfl, q⟩

/-! ### texts -/
theorem op_mul_str : OpR X (binaryOp .Mult) (fun x y H Q => ∃ z n, x = .str z ∧ y = .int n ∧ MulOk z n ∧ Q (.str (Txt.mul z n)) H) := by
  intro pins s σ H x y v u Q I rx ry h
  obtain ⟨z, n, rfl, rfl, hk, q⟩ := h
  obtain ⟨t, rfl⟩ := rx
  obtain ⟨t', rfl⟩ := ry
  exact SB.mul hk fun t2 k => ⟨.str _, H, I.tok k, ⟨_, rfl⟩, q⟩
theorem call_int_text : CallR X (.type "int") (fun xs H Q => ∃ z n, xs = [.str z] ∧ PySem.intText? z = some n ∧ z.length ≤ 640 ∧ Q (.int n) H) := by
  intro pins s σ H xs us Q I r h
  obtain ⟨z, n, rfl, hn, hl, q⟩ := h
  obtain ⟨u, rfl, ru⟩ := vals1 r
  obtain ⟨t, rfl⟩ := ru
  exact PySem.W.KIN.call_text hn hl ⟨.int n, H, I.tok _, ⟨_, rfl⟩, q⟩
end

/-! ### ways that meet again -/
section
variable {X : Cx} {st : Stmt} {rest : List Stmt} {t u : TS}
/-- the rest is read once, from what the statement's ways have in common -/
def tSeqG (t u : TS) : TS := fun D σ H => ∃ G : St → Hp → Prop, (∀ σ' H', G σ' H' → u D σ' H') ∧ t { D with nx := G } σ H
theorem pss_consG (h1 : PS X st t) (h2 : PSs X rest u) : PSs X (st :: rest) (tSeqG t u) := by
  intro pins s σ H D I h
  obtain ⟨G, hG, h⟩ := h
  refine wpAny_execs_cons (thn (h1 pins s σ H { D with nx := G } I h) fun f s1 q => ?_)
  cases f with
  | next =>
    obtain ⟨σ', H', I', q⟩ := q
    exact h2 pins s1 σ' H' D I' (hG _ _ q)
  | ret v => exact q
  | brk => exact q
  | cont => exact q
def tG (t : TE) : TE := fun σ H Q => ∃ G : VK, (∀ v H', G v H' → Q v H') ∧ t σ H G
theorem pe_G {e : Expr} {t : TE} (h : PE X e t) : PE X e (tG t) := by
  intro pins s σ H Q I w
  obtain ⟨G, hG, w⟩ := w
  exact thn (h pins s σ H G I w) fun u s1 ⟨v, H1, I1, r, q⟩ => ⟨v, H1, I1, r, hG _ _ q⟩
def ttG (t : TT) : TT := fun σ H Q => ∃ G : Bool → Hp → Prop, (∀ v H', G v H' → Q v H') ∧ t σ H G
theorem pt_G {e : Expr} {t : TT} (h : PT X e t) : PT X e (ttG t) := by
  intro pins s σ H Q I w
  obtain ⟨G, hG, w⟩ := w
  exact thn (h pins s σ H G I w) fun u s1 ⟨H1, I1, q⟩ => ⟨H1, I1, hG _ _ q⟩
end

/-! ### a def of the text, as the module holds it -/
structure DefAt (K : PySem.W.Frag) (mg : Str → Option Value) (x : Str) (st : Stmt) (ps : List Str) (f : Addr) (fd : FuncData) : Prop where
  fn : Fun K x x st f fd
  gl : mg x = some (.ref f)
  bd : Binds K fd ps []
theorem bt_len : bootBuiltins "len" = some (.builtin "len") := by decide +kernel
theorem bt_abs : bootBuiltins "abs" = some (.builtin "abs") := by decide +kernel
theorem bt_isinstance : bootBuiltins "isinstance" = some (.builtin "isinstance") := by decide +kernel
theorem bt_all : bootBuiltins "all" = some (.builtin "all") := by decide +kernel
theorem bt_sum : bootBuiltins "sum" = some (.builtin "sum") := by decide +kernel
theorem bt_int : bootBuiltins "int" = some (.type "int") := by decide +kernel
theorem bt_bool : bootBuiltins "bool" = some (.type "bool") := by decide +kernel
theorem bt_str : bootBuiltins "str" = some (.type "str") := by decide +kernel
theorem bt_list : bootBuiltins "list" = some (.type "list") := by decide +kernel
theorem bt_tuple : bootBuiltins "tuple" = some (.type "tuple") := by decide +kernel
theorem bt_range : bootBuiltins "range" = some (.type "range") := by decide +kernel
theorem bt_reversed : bootBuiltins "reversed" = some (.type "reversed") := by decide +kernel
/-! ### fractions -/
/-- a new tuple of two ints comes back, nothing else is touched -/
def RetF (H : Hp) (Q : VK) (f : Int × Int) : Prop := ∀ p H', Same H H' → H p = none → H' p = some (.tup [.int f.1, .int f.2]) → Q (.ref p) H'
theorem RetF.up {H H1 : Hp} {Q : VK} {f : Int × Int} (e : Same H H1) (h : RetF H Q f) : RetF H1 Q f := fun p H' s n z => h p H' (e.trans s) (e.free n) z
/-- a list of fractions -/
def FrL (H : Hp) (p : Addr) (fs : List (Int × Int)) : Prop :=
  ∃ rs, H p = some (.lst rs) ∧ Paired (fun (r : V) (f : Int × Int) => ∃ a, r = V.ref a ∧ H a = some (.tup [.int f.1, .int f.2])) rs fs
theorem Paired.get {α β : Type} {R : α → β → Prop} : ∀ {xs : List α} {ys : List β} {i : Nat} {y : β}, Paired R xs ys → ys[i]? = some y → ∃ x, xs[i]? = some x ∧ R x y
  | _, _, _, _, .nil, e => by simp at e
  | _, _, 0, _, .cons r _, e => by simp at e; subst e; exact ⟨_, rfl, r⟩
  | _, _, i + 1, y, .cons _ t, e => by
    obtain ⟨u, h1, h2⟩ := Paired.get (i := i) (y := y) t (by simpa using e)
    exact ⟨u, by simpa using h1, h2⟩
theorem Same.upd {H : Hp} {a : Addr} {o : HO} (h : H a = Option.none) : Same H (upd H a o) := fun b u e => by
  rw [upd_ne (ne_of_none e h)]; exact e
theorem FrL.same {H H' : Hp} {p : Addr} {fs : List (Int × Int)} (e : Same H H') (h : FrL H p fs) : FrL H' p fs := by
  obtain ⟨rs, h1, h2⟩ := h
  exact ⟨rs, e _ _ h1, Paired.mapP h2 fun r f ⟨a, e1, e2⟩ => ⟨a, e1, e _ _ e2⟩⟩
def lowP (t b : Int) : Int × Int := (t / (Int.gcd t b : Int), b / (Int.gcd t b : Int))
theorem gcd_turn {x y : Int} (hx : 0 ≤ x) (hy : 0 < y) : Int.gcd y (x % y) = Int.gcd x y := by
  obtain ⟨m, rfl⟩ := Int.eq_ofNat_of_zero_le hx
  obtain ⟨n, rfl⟩ := Int.eq_ofNat_of_zero_le (Int.le_of_lt hy)
  have e : ((m : Int) % (n : Int)) = ((m % n : Nat) : Int) := by push_cast; rfl
  rw [e, Int.gcd_natCast_natCast, Int.gcd_natCast_natCast, Nat.gcd_comm n, ← Nat.gcd_rec, Nat.gcd_comm]
theorem gcd_abs (t b : Int) : Int.gcd (if t < 0 then -t else t) b = Int.gcd t b := by
  split
  · exact Int.neg_gcd
  · rfl
theorem gcd_pos' {t b : Int} (hb : 0 < b) : 0 < (Int.gcd t b : Int) := by
  have : 0 < Int.gcd t b := Int.gcd_pos_of_ne_zero_right t (by omega)
  omega
theorem gcd_end {x : Int} (hx : 0 ≤ x) : (Int.gcd x 0 : Int) = x := by
  rw [Int.gcd_zero_right]; omega
theorem gcd_le' {t b : Int} (hb : 0 < b) : (Int.gcd t b : Int) ≤ b := Int.gcd_le_right _ hb
theorem gcd_fig {n : Nat} {t b : Int} (hb : 0 < b) (h : Fig n b) : Fig n (Int.gcd t b : Int) := by
  refine h.le ?_
  have := gcd_le' (t := t) hb
  omega
/-- the parts of a fraction in lowest terms are no greater -/
theorem lowP_pos {t b : Int} (hb : 0 < b) : 0 < (lowP t b).2 := by
  have hg := gcd_pos' (t := t) hb
  obtain ⟨c, hc⟩ : (Int.gcd t b : Int) ∣ b := Int.gcd_dvd_right ..
  show 0 < b / (Int.gcd t b : Int)
  have e : b / (Int.gcd t b : Int) = c := Int.ediv_eq_of_eq_mul_right (by omega) hc
  rw [e]
  rcases Int.lt_or_le 0 c with h | h
  · exact h
  · exfalso
    have : (Int.gcd t b : Int) * c ≤ 0 := Int.mul_nonpos_of_nonneg_of_nonpos (by omega) h
    omega
theorem ediv_fig {n : Nat} {t g : Int} (hg : 0 < g) (h : Fig n t) : Fig (n + 1) (t / g) := by
  have h1 : (t / g).natAbs ≤ t.natAbs + 1 := by
    rcases Int.lt_or_le t 0 with h0 | h0
    · have a1 : t / g ≤ 0 := Int.le_of_lt (Int.ediv_neg_of_neg_of_pos h0 hg)
      have a2 : t ≤ t / g := by
        have := Int.le_ediv_of_mul_le (a := t) (b := t) (c := g) hg (by
          have : t * g ≤ t * 1 := Int.mul_le_mul_of_nonpos_left (by omega) (by omega)
          omega)
        exact this
      omega
    · have a1 : 0 ≤ t / g := Int.ediv_nonneg h0 (Int.le_of_lt hg)
      have a2 : t / g ≤ t := Int.ediv_le_self g h0
      omega
  unfold Fig at *
  rw [Nat.pow_succ]
  have : 0 < 2 ^ n := Nat.two_pow_pos n
  omega
theorem lowP_fig1 {n : Nat} {t b : Int} (hb : 0 < b) (h : Fig n t) : Fig (n + 1) (lowP t b).1 := ediv_fig (gcd_pos' hb) h
theorem lowP_fig2 {n : Nat} {t b : Int} (hb : 0 < b) (h : Fig n b) : Fig (n + 1) (lowP t b).2 := ediv_fig (gcd_pos' hb) h
end L2

set_option Elab.async false
set_option linter.all false
set_option maxRecDepth 100000
set_option maxHeartbeats 1000000
namespace L2
open PySem PySem.Spec PyProof.Rows

/-! ### a comprehension over one clause without a test -/
/-- its block: a frame's names of its own; names of the def's come by their cells -/
def cxC (X : Cx) (N : List Str) (scope : Scope) (cl : List (Str × Addr)) (C : Addr) (s : Shared) (H : Hp) (fp : List Addr) : Cx where
  prog := X.prog
  w := X.w
  K := X.K
  mg := X.mg
  base := X.base
  A := X.A
  N := N
  s₀ := s
  H₀ := H
  env := compEnvC scope cl C X.env
  outer := X.stack
  stack := X.stack
  ex := fp
  fn := fun _ => false
  calm := X.calm
  pn := []
  xe := fun _ _ => False
/-- what the block's names are worth at its start: some come from the def's slots -/
def impS (imp : List (Option Nat)) (σ : St) : St := imp.map fun o => o.bind fun j => (σ[j]?).bind id
def SubC : List (Str × Addr) → List (Str × Addr) → Prop
  | [], _ => True
  | (x, c) :: r, e => e.lookup x = some c ∧ SubC r e
def ImpOk (X : Cx) (scope : Scope) : List (Option Nat) → List Str → Prop
  | [], [] => True
  | none :: r, _ :: ns => ImpOk X scope r ns
  | some j :: r, x :: ns => (X.N[j]? = some x ∧ X.env.kindOf x = some .cell ∧ (relabel scope X.env).names.lookup x = some .cell) ∧ ImpOk X scope r ns
  | _, _ => False
structure CompOk (X : Cx) (N : List Str) (scope : Scope) (cl : List (Str × Addr)) (imp : List (Option Nat)) : Prop where
  clos : closureFor scope X.env = pure cl
  kind : scope.kind = .function
  nocell : (scope.names.all fun y => y.2 != .cell && (y.2 != .free || (cl.lookup y.1).isSome) && (y.2 != .local || scope.names.lookup y.1 == some .local)) = true
  sub : SubC cl X.env.cells
  imp : ImpOk X scope imp N
theorem SubC.get : ∀ {cl e : List (Str × Addr)} {x : Str} {c : Addr}, SubC cl e → cl.lookup x = some c → e.lookup x = some c
  | [], _, _, _, _, h => by cases h
  | (y, d) :: r, e, x, c, h, q => by
    rw [List.lookup_cons] at q
    cases hx : x == y with
    | true =>
      rw [hx] at q
      cases q
      rw [eq_of_beq hx]
      exact h.1
    | false =>
      rw [hx] at q
      exact SubC.get h.2 q
theorem ImpOk.len {X : Cx} {scope : Scope} : ∀ {imp : List (Option Nat)} {N : List Str}, ImpOk X scope imp N → imp.length = N.length
  | [], [], _ => rfl
  | none :: r, _ :: ns, h => congrArg (· + 1) (ImpOk.len (imp := r) (N := ns) h)
  | some _ :: r, _ :: ns, h => congrArg (· + 1) (ImpOk.len (imp := r) (N := ns) h.2)
  | [], _ :: _, h => h.elim
  | none :: _, [], h => h.elim
  | some _ :: _, [], h => h.elim
theorem ImpOk.get {X : Cx} {scope : Scope} : ∀ {imp : List (Option Nat)} {N : List Str} {i j : Nat} {x : Str}, ImpOk X scope imp N → imp[i]? = some (some j) → N[i]? = some x →
    X.N[j]? = some x ∧ X.env.kindOf x = some .cell ∧ (relabel scope X.env).names.lookup x = some .cell
  | [], [], _, _, _, _, h, _ => by simp at h
  | none :: r, _ :: ns, 0, _, _, _, h, _ => by simp at h
  | none :: r, _ :: ns, i + 1, _, _, h, e1, e2 => ImpOk.get (imp := r) (N := ns) (i := i) h (by simpa using e1) (by simpa using e2)
  | some k :: r, y :: ns, 0, j, x, h, e1, e2 => by
    simp at e1 e2
    subst e1 e2
    exact h.1
  | some k :: r, y :: ns, i + 1, _, _, h, e1, e2 => ImpOk.get (imp := r) (N := ns) (i := i) h.2 (by simpa using e1) (by simpa using e2)
  | [], _ :: _, _, _, _, h, _, _ => h.elim
  | none :: _, [], _, _, _, h, _, _ => h.elim
  | some _ :: _, [], _, _, _, h, _, _ => h.elim
theorem lookup_relabel {env : Env} : ∀ {names : List (Str × NameKind)} {x : Str} {k : NameKind},
    (names.map fun (n, k) => if (k == NameKind.free && env.scope.kind == .function && env.kindOf n == some .cell) then (n, NameKind.cell) else (n, k)).lookup x = some k → ∃ k', names.lookup x = some k' ∧ (k' = k ∨ (k' = .free ∧ k = .cell))
  | [], _, _, h => by simp at h
  | (n, k0) :: r, x, k, h => by
    have h : List.lookup x ((if (k0 == NameKind.free && env.scope.kind == .function && env.kindOf n == some .cell) = true then (n, NameKind.cell) else (n, k0)) :: _) = some k := h
    cases hx : x == n with
    | true =>
      refine ⟨k0, by rw [List.lookup_cons, hx], ?_⟩
      by_cases hc : (k0 == NameKind.free && env.scope.kind == .function && env.kindOf n == some .cell) = true
      · rw [if_pos hc, List.lookup_cons, hx] at h
        cases h
        simp only [Bool.and_eq_true, beq_iff_eq] at hc
        exact .inr ⟨hc.1.1, rfl⟩
      · rw [if_neg hc, List.lookup_cons, hx] at h
        cases h
        exact .inl rfl
    | false =>
      have : List.lookup x (r.map fun (n, k) => if (k == NameKind.free && env.scope.kind == .function && env.kindOf n == some .cell) then (n, NameKind.cell) else (n, k)) = some k := by
        by_cases hc : (k0 == NameKind.free && env.scope.kind == .function && env.kindOf n == some .cell) = true
        · rw [if_pos hc, List.lookup_cons, hx] at h; exact h
        · rw [if_neg hc, List.lookup_cons, hx] at h; exact h
      obtain ⟨k', e, z⟩ := lookup_relabel this
      exact ⟨k', by rw [List.lookup_cons, hx]; exact e, z⟩
section
variable {X : Cx} {N : List Str} {scope : Scope} {cl : List (Str × Addr)} {imp : List (Option Nat)}
theorem CompOk.cells (ok : CompOk X N scope cl imp) : ∀ y ∈ scope.names, y.2 ≠ .cell := fun y hy z => by
  have := List.all_eq_true.mp ok.nocell y hy
  rw [z] at this
  simp at this
theorem CompOk.names (ok : CompOk X N scope cl imp) : ∀ y ∈ scope.names, y.2 = .local → scope.names.lookup y.1 = some .local := fun y hy z => by
  have := List.all_eq_true.mp ok.nocell y hy
  rw [z] at this
  simpa using this
theorem CompOk.has (ok : CompOk X N scope cl imp) (x : Str) (h : (relabel scope X.env).names.lookup x = some .cell ∨ (relabel scope X.env).names.lookup x = some .free) : ∃ c, cl.lookup x = some c := by
  have key : ∃ k', scope.names.lookup x = some k' ∧ (k' = .free ∨ k' = .cell) := by
    rcases h with h | h
    · obtain ⟨k', e, z | ⟨z, _⟩⟩ := lookup_relabel h
      · exact ⟨k', e, .inr z⟩
      · exact ⟨k', e, .inl z⟩
    · obtain ⟨k', e, z | ⟨z, _⟩⟩ := lookup_relabel h
      · exact ⟨k', e, .inl z⟩
      · exact ⟨k', e, .inl z⟩
  obtain ⟨k', e, z⟩ := key
  have hm := PySem.mem_of_lookup e
  rcases z with rfl | rfl
  · have := List.all_eq_true.mp ok.nocell _ hm
    simp only [Bool.and_eq_true, Bool.or_eq_true] at this
    have q : (cl.lookup x).isSome = true := by
      rcases this.1.2 with z | z
      · simp at z
      · exact z
    obtain ⟨c, e⟩ := Option.isSome_iff_exists.mp q
    exact ⟨c, e⟩
  · exact absurd rfl (ok.cells _ hm)
end
theorem HOk.sameBut {P : Program} {w : World} {H : Hp} {h h' : Heap} {C : Addr} (x : HOk P w H h) (n : H C = none) (k : Heap.SameBut C h h') : HOk P w H h' := fun b ob e => by
  refine (x b ob e).stay (fun c v hc q => (k.2 c ?_).trans q) (fun _ q => q) fun _ _ q => q
  rintro rfl
  rcases hc with rfl | hc
  · rw [n] at e; cases e
  · rw [n] at hc; cases hc
/-- the reading: J walks, D the new list, W the invariant by the turn, a measure and the items made so far -/
def tCompR (imp : List (Option Nat)) (g : TG) (te : TE) (J : It) (σ : St) (H : Hp) (Q : VK) : Prop :=
  ∀ D, H D = none → ∃ W : Nat → Nat → List V → St → Hp → Prop, (∃ m, W 0 m [] (impS imp σ) (upd H D (.lst []))) ∧
    ∀ i m ys σ' H', W i m ys σ' H' → (J.stop i H' ∧ Q (.ref D) H') ∨ (J.go i H' ∧ ∃ NN : V → St → Hp → Prop,
      (∀ y σ2 H3, NN y σ2 H3 → H3 D = some (.lst ys) ∧ ys.length < sizeLine ∧ ∃ m', m' < m ∧ W (i + 1) m' (ys ++ [y]) σ2 (upd H3 D (.lst (ys ++ [y])))) ∧
      ∀ x H1, J.yld i H' x H1 → g x σ' H1 fun σ2 H2 => te σ2 H2 fun y H3 => NN y σ2 H3)
def tComp (imp : List (Option Nat)) (wi : TI) (g : TG) (te : TE) : TE := fun σ H Q => wi σ H fun J H2 => tCompR imp g te J σ H2 Q
section
variable {X : Cx} {N : List Str} {scope : Scope} {cl : List (Str × Addr)} {imp : List (Option Nat)} {elt iter tg : Expr} {pos : Pos} {g : TG} {te : TE}
theorem comp_core {pins : List (Addr × Obj)} {σ : St} {H2 : Hp} {s2 : Shared} {J : It} {fp : List Addr} {it : Addr} {tn : Nat → Heap → Prop} {Q : VK} {E : Value → Shared → Prop} {RR : Value → Addr → Result → Shared → Prop}
    (hc : X.calm = true) (ok : CompOk X N scope cl imp) (hg : ∀ C s H fp, PG (cxC X N scope cl C s H fp) tg g) (he : ∀ C s H fp, PE (cxC X N scope cl C s H fp) elt te)
    (I2 : Inv X pins σ H2 s2) (Tn : Turn X.prog X.w X.K tg J fp it tn) (t0 : tn 0 s2.heap) (hfp : ∀ b ∈ fp, FpOk X pins H2 b) (rd : tCompR imp g te J σ H2 Q)
    (hRR : ∀ D C s' H' m, Inv X pins σ H' s' → s'.heap.Ns C m → H' C = none → s2.heap.objs.size < C → Q (.ref D) H' → RR (.ref D) C (.ok .next) s') :
    wpAny (model X.prog X.w) X.A (newList []) (fun acc s₃ => wpAny (model X.prog X.w) X.A (newFunctionEnv scope X.env.globals cl [] X.env.qual none .none (some X.env)) (fun cenv s₄ =>
      codeAny (model X.prog X.w) X.A (.compStart (.ListComp elt [⟨tg, iter, [], 0⟩] scope pos) 0 (.ref it) acc { cenv with scope := relabel scope X.env }) (RR acc cenv.locals) s₄) E s₃) E s2 := by
  refine wpAny_newObj_type (wpAny_newFunctionEnv ok.cells (by intro y hy; simp at hy) (fun h₁ hns₁ hsb₁ => ?_) ok.kind)
  dsimp only at hns₁ hsb₁ ⊢
  have I3 : Inv X pins σ (upd H2 s2.heap.objs.size (.lst [])) { s2 with heap := s2.heap.push { cls := .type "list", dict := none, data := .seq ([] : List Value).toArray } } :=
    I2.lnew (ys := []) (its := []) (t' := s2.toks) .nil (Nat.zero_le _)
  obtain ⟨W, ⟨m0, w0⟩, turn⟩ := rd s2.heap.objs.size I2.fresh
  generalize hH3 : upd H2 s2.heap.objs.size (.lst []) = H3 at I3 w0
  generalize hs3 : ({ s2 with heap := s2.heap.push { cls := .type "list", dict := none, data := .seq ([] : List Value).toArray } } : Shared) = s3 at I3
  have eh3 : s3.heap = s2.heap.push { cls := .type "list", dict := none, data := .seq ([] : List Value).toArray } := by rw [← hs3]
  have esz : s3.heap.objs.size = s2.heap.objs.size + 1 := by rw [eh3, Heap.size_push]
  have fpn : ∀ b ∈ fp, b < s2.heap.objs.size := fun b hb => by
    obtain ⟨o, e, _⟩ := Tn.obj 0 _ t0 b hb
    exact Heap.lt_size e
  have hfp3 : ∀ b ∈ fp, H3 b = none := fun b hb => by
    rw [← hH3, upd_ne (Nat.ne_of_lt (fpn b hb))]
    exact (hfp b hb).1
  generalize hC : (s2.heap.push { cls := .type "list", dict := none, data := .seq ([] : List Value).toArray }).objs.size = C at hns₁ hsb₁ ⊢
  have hC3 : C = s3.heap.objs.size := by rw [← hC, eh3]
  have keep1 : ∀ b o, s3.heap.get? b = some o → h₁.get? b = some o := fun b o e => by
    have hb : b ≠ C := by rw [hC3]; exact Nat.ne_of_lt (Heap.lt_size e)
    rw [hsb₁.2 b hb]
    rw [eh3] at e
    exact Heap.get?_push_of_some _ e
  -- the block's context
  have Xok : (cxC X N scope cl C s3 H3 fp).Ok := by
    refine ⟨I3.ok.mod, ok.kind, I3.ok.glob, I3.ok.blt, Nat.le_of_eq hC3.symm, fun a b c h1 h2 => I3.ok.inj a b c (ok.sub.get h1) (ok.sub.get h2), fun a h => ok.has a h, fun a c h => absurd h Bool.false_ne_true, I3.ok.hd, I3.ok.frames, .inl rfl, fun b hb => ⟨?_, fun a c h => ?_⟩, I3.bs, Nat.le_trans I3.ok.bsz I3.sz, fun b o h hb => ?_, fun b hb hz => ?_, I3.stack, I3.stkFree⟩
    · show b ≠ C
      rw [hC3, esz]
      exact Nat.ne_of_lt (Nat.lt_succ_of_lt (fpn b hb))
    · exact (hfp b hb).2.2.2.2.1 a c (ok.sub.get h)
    · rcases (hfp b hb).2.2.2.1 with z | z
      · exact I3.ok.noex b o h z
      · exact absurd (Nat.lt_of_lt_of_le (Heap.lt_size h) (Nat.le_trans I3.ok.bsz z)) (Nat.lt_irrefl _)
    · rcases List.mem_cons.mp (I3.stkSub b hz) with z | z
      · exact (hfp b hb).2.1 z
      · exact (hfp b hb).2.2.1 z
  have J0 : ∀ tk, Inv (cxC X N scope cl C s3 H3 fp) [] (impS imp σ) H3 { s3 with heap := h₁, toks := tk } := fun tk => by
    obtain ⟨m, hm, hl⟩ := I3.loc
    refine ⟨Xok, rfl, I3.bare, Un.kept keep1, ⟨_, hns₁, fun i y v e1 e2 e3 => ?_⟩, fun y c e => ?_, ?_, fun y c e => I3.freeC y c (ok.sub.get e), fun p hp => absurd (show p ∈ ([] : List (Addr × Obj)) from hp) (by simp), I3.hok.kept keep1, ?_⟩
    · have e2 : (impS imp σ)[i]? = some (some v) := e2
      unfold impS at e2
      rw [List.getElem?_map] at e2
      cases hi : imp[i]? with
      | none => rw [hi] at e2; cases e2
      | some o =>
        rw [hi] at e2
        cases o with
        | none => cases e2
        | some j =>
          obtain ⟨n1, n2, n3⟩ := ok.imp.get hi e1
          have ej : σ[j]? = some (some v) := by
            have e2 : ((σ[j]?).bind id) = some v := Option.some.inj e2
            cases hj : σ[j]? with
            | none => rw [hj] at e2; cases e2
            | some z => rw [hj] at e2; exact congrArg some e2
          obtain ⟨u, ru, lk⟩ := hl j y v n1 ej (.inr (.inl n2))
          refine ⟨u, ru, .inr ⟨.inl n3, ?_⟩⟩
          rcases lk with ⟨z, _⟩ | ⟨_, c, ec, zc⟩
          · rw [n2] at z; cases z
          · obtain ⟨c', e'⟩ := ok.has y (.inl n3)
            have := ok.sub.get e'
            rw [ec] at this
            cases this
            obtain ⟨oc, ho, hd⟩ := zc
            exact ⟨c, e', oc, keep1 _ _ ho, hd⟩
    · obtain ⟨v, oc, ho, hd⟩ := I3.cell y c (ok.sub.get e)
      exact ⟨v, oc, keep1 _ _ ho, hd⟩
    · show H3 C = none
      rw [hC3]
      exact I3.fresh
    · show (impS imp σ).length = N.length
      unfold impS
      rw [List.length_map]
      exact ok.imp.len
  have t1 : tn 0 h₁ := Tn.keep 0 _ _ t0 fun b hb o e => keep1 b o (by rw [eh3]; exact Heap.get?_push_of_some _ e)
  have hfpC : ∀ H', (∀ b ∈ fp, H' b = none) → ∀ b ∈ fp, FpOk (cxC X N scope cl C s3 H3 fp) [] H' b := fun H' hn b hb => by
    refine ⟨hn b hb, (Xok.exf b hb).1, Xok.exfs b hb, .inl hb, fun a c h => (Xok.exf b hb).2 a c h, fun p hp => absurd (show p ∈ ([] : List (Addr × Obj)) from hp) (by simp)⟩
  -- the loop
  have loop : ∀ s₃ : Shared, (∃ tk, s₃ = { s3 with heap := h₁, toks := tk }) →
      codeAny (model X.prog X.w) X.A (.compLoop (.ListComp elt [⟨tg, iter, [], 0⟩] scope pos) 0 (.ref it) (.ref s2.heap.objs.size) (compEnvC scope cl C X.env)) (RR (.ref s2.heap.objs.size) C) s₃ := by
    rintro s₃ ⟨tk, rfl⟩
    refine codeAny_loop rfl (fun n s => ∃ i ys σ' H', Inv (cxC X N scope cl C s3 H3 fp) [] σ' H' s ∧ (∀ b ∈ fp, H' b = none) ∧ tn i s.heap ∧ W i n ys σ' H') (fun n s hI => ?_) m0 ⟨0, [], _, _, J0 tk, hfp3, t1, w0⟩
    show wpAny _ _ ((compTurn (.ListComp elt [⟨tg, iter, [], 0⟩] scope pos) 0 (.ref it) (.ref s2.heap.objs.size) (compEnvC scope cl C X.env)).onRaise (fun x => do noteFrame x (compEnvC scope cl C X.env); theTreesLotGoes x)) _ _ s
    refine wpAny_noted ?_
    rw [compTurn_list1]
    obtain ⟨i, ys, σ', H', JI, hn, ht, hw⟩ := hI
    rcases turn i n ys σ' H' hw with ⟨st, q⟩ | ⟨go, NN, hNN, step⟩
    · refine wpAny_bind (wpAny_standAt (wpAny_bind (thn (Tn.done (cxC X N scope cl C s3 H3 fp) rfl rfl rfl hc i [] s σ' H' _ JI (hfpC H' hn) ht st) fun r s1 ⟨er, J1⟩ => ?_)))
      subst er
      refine wpAny_pure ?_
      have IX : Inv X pins σ H' s1 := I3.call' (ch := fp) (J1.os.trans rfl) J1.base J1.hok J1.bare fun b hb => ⟨(hfp b hb).2.2.2.1, (hfp b hb).2.1, (hfp b hb).2.2.2.2.1, (hfp b hb).2.2.2.2.2⟩
      obtain ⟨m, hm, _⟩ := J1.loc
      exact hRR _ _ s1 H' m IX hm J1.free (by rw [hC3, esz]; exact Nat.lt_succ_self _) q
    · refine wpAny_bind (wpAny_standAt (wpAny_bind (thn (Tn.item (cxC X N scope cl C s3 H3 fp) rfl rfl rfl hc i [] s σ' H' _ JI (hfpC H' hn) ht go) fun r s1 ⟨u, er, z⟩ => ?_)))
      subst er
      refine wpAny_bind (thn z fun _ s5 ⟨v, H5, J5, rv, hy, ht5, hn5⟩ => ?_)
      -- the iterator's records stay while the element is made
      have J5p := J5.pinned (fp := fp) (hfpC H5 hn5) (Tn.obj _ _ ht5)
      have stays : ∀ {σ6 : St} {H6 : Hp} {s6 : Shared}, Inv (cxC X N scope cl C s3 H3 fp) ([] ++ pinsAt fp s5.heap) σ6 H6 s6 → tn (i + 1) s6.heap ∧ ∀ b ∈ fp, H6 b = none := fun J6 => by
        have hp : ∀ b ∈ fp, ∀ o, s5.heap.get? b = some o → _ := fun b hb o e => J6.pin (b, o) (by show (b, o) ∈ ([] : List (Addr × Obj)) ++ ([] ++ pinsAt fp s5.heap); simpa using mem_pinsAt hb e)
        refine ⟨Tn.keep _ _ _ ht5 fun b hb o e => (hp b hb o e).1, fun b hb => ?_⟩
        obtain ⟨o, e, _⟩ := Tn.obj _ _ ht5 b hb
        exact (hp b hb o e).2.1
      refine wpAny_bind (wpAny_mono (hg C s3 H3 fp _ s5 σ' H5 v u _ J5p rv (step v H5 hy)) (fun _ s6 ⟨σ6, H6, J6, q6⟩ => ?_) fun _ _ f => f.elim)
      refine wpAny_bind (wpAny_bind (wpAny_mono (he C s3 H3 fp _ s6 σ6 H6 _ J6 q6) (fun w7 s7 ⟨y, H7, J7, r7, qn⟩ => ?_) fun _ _ f => f.elim))
      obtain ⟨hD, hz, m', hm, w'⟩ := hNN y σ6 H7 qn
      refine wpAny_bind (wpAny_mono (mt_append (X := cxC X N scope cl C s3 H3 fp) _ s7 σ6 H7 (.ref s2.heap.objs.size) [y] (.ref s2.heap.objs.size) [w7] (fun _ H8 => H8 = upd H7 s2.heap.objs.size (.lst (ys ++ [y]))) J7 rfl (.cons r7 .nil) ⟨_, ys, y, rfl, rfl, hD, hz, rfl⟩) (fun _ s8 ⟨_, H8, J8, _, e8⟩ => ?_) fun _ _ f => f.elim)
      subst e8
      obtain ⟨ht8, hn8⟩ := stays J8
      exact wpAny_pure (wpAny_pure ⟨rfl, m', hm, i + 1, _, σ6, _, J8.unpinned, hn8, ht8, w'⟩)
  have lp := loop { s3 with heap := h₁, toks := s2.toks + ([] : List (Str × Value)).length } ⟨_, rfl⟩
  have es : ({ s3 with heap := h₁, toks := s2.toks + ([] : List (Str × Value)).length } : Shared) = { s2 with heap := h₁, toks := s2.toks + ([] : List (Str × Value)).length } := by rw [← hs3]
  rw [es] at lp
  exact codeAny_compStart_list lp (Tn.self _ 0 _ _ _ t1 lp)
/-- [elt for x in iter] as a value -/
theorem pe_comp {wi : TI} (hc : X.calm = true) (ok : CompOk X N scope cl imp) (hi : PI X tg iter wi) (hg : ∀ C s H fp, PG (cxC X N scope cl C s H fp) tg g) (he : ∀ C s H fp, PE (cxC X N scope cl C s H fp) elt te)
    (hs : ∀ x, foldedSetIterable iter X.env x = pure x := by intro _; rfl) : PE X (.ListComp elt [⟨tg, iter, [], 0⟩] scope pos) (tComp imp wi g te) := by
  intro pins s σ H Q I h
  rw [eval_ListComp]
  refine wpAny_comprehension_free (use := none) rfl hs ok.clos ok.kind ok.names (wpAny_mono (hi pins s σ H _ I h) (fun v s1 h1 => wpAny_mono h1 (fun itv s2 ⟨it, fp, tn, J, H2, ei, I2, Tn, t0, hfp, rd⟩ => ?_) fun _ _ e => e) fun _ _ e => e)
  subst ei
  refine comp_core (RR := fun acc C => compPost (model X.prog X.w) X.A X.xe none (EP X pins σ Q) acc C) hc ok hg he I2 Tn t0 hfp rd fun D C s' H' m I' hm hn hlt q => ?_
  refine ⟨m, hm, fun h' hs' => ⟨.ref D, H', ?_, rfl, q⟩⟩
  have f := I2.fpOk (H' := H') (b := C) (Nat.le_of_lt hlt) hn
  exact I'.turned (t' := s'.toks) (fun b o hb e => (hs'.2 b hb).trans e) hn f.2.1 f.2.2.2.1 f.2.2.2.2.1 f.2.2.2.2.2
/-- y = [elt for x in iter]: the name is stored ahead of the block's end -/
theorem ps_comp {wi : TI} {y : Str} {py spos : Pos} {j : Nat} (hc : X.calm = true) (hN : X.N.Nodup) (hj : X.N[j]? = some y) (hy : X.env.scope.names.lookup y = some .local) (ok : CompOk X N scope cl imp) (hi : PI X tg iter wi) (hg : ∀ C s H fp, PG (cxC X N scope cl C s H fp) tg g)
    (he : ∀ C s H fp, PE (cxC X N scope cl C s H fp) elt te) (hsw : swapsWith (.ListComp elt [⟨tg, iter, [], 0⟩] scope pos) (some (.Name y py)) spos.line X.env = pure true := by rfl)
    (hs : ∀ x, foldedSetIterable iter X.env x = pure x := by intro _; rfl) : PS X (.Assign [.Name y py] (.ListComp elt [⟨tg, iter, [], 0⟩] scope pos) spos) (tAsg (tComp imp wi g te) (gName j)) := by
  intro pins s σ H D I h
  rw [exec_Assign_Name_used _ _ _ _ hsw]
  refine wpAny_bind (wpAny_standAt (wpAny_bind ?_))
  show wpAny _ X.A (do let _ ← comprehension (.ListComp elt [⟨tg, iter, [], 0⟩] scope pos) scope X.env _ (newList []) false (eval iter X.env) (some (assign (.Name y py) X.env))) _ _ s
  refine wpAny_bind (wpAny_mono (wpAny_comprehension_free (use := some (assign (.Name y py) X.env)) (Q := fun _ s' => SP X pins D .next s') rfl hs ok.clos ok.kind ok.names
    (wpAny_mono (hi pins s σ H _ I h) (fun v s1 h1 => wpAny_mono h1 (fun itv s2 ⟨it, fp, tn, J, H2, ei, I2, Tn, t0, hfp, rd⟩ => ?_) fun _ _ e => e) fun _ _ e => e)) (fun _ s' hq => wpAny_pure (wpAny_pure hq)) fun _ _ e => e)
  subst ei
  refine comp_core (RR := fun acc C => compPost (model X.prog X.w) X.A X.xe (some (assign (.Name y py) X.env)) (fun _ s' => SP X pins D .next s') acc C) hc ok hg he I2 Tn t0 hfp rd fun DD C s' H' m I' hm hn hlt q => ?_
  show wpAny _ X.A (assign (.Name y py) X.env (.ref DD)) _ _ _
  have f := I2.fpOk (H' := H') (b := C) (Nat.le_of_lt hlt) hn
  refine wpAny_assign_Name (store_ok2 (v := .ref DD) I' hN hj (.inl hy) rfl (fun s'' I'' hch => ?_) (.inr hy))
  obtain ⟨a, ha, hal⟩ := hch
  have haC : C ≠ a := by
    rcases hal with rfl | e
    · exact f.2.1
    · exact fun z => f.2.2.2.2.1 y a e z.symm
  refine ⟨m, ?_, fun h' hs' => ⟨_, H', I''.turned (t' := s''.toks) (fun b o hb e => (hs'.2 b hb).trans e) hn f.2.1 f.2.2.2.1 f.2.2.2.2.1 f.2.2.2.2.2, q⟩⟩
  obtain ⟨o, es, ep, ho, r⟩ := hm
  exact ⟨o, es, ep, (ha.2 C haC).trans ho, r⟩
end
/-! ### the forms one uses: Pv by the new list, the turn, the items made, the block's names, the heap -/
section
variable {imp : List (Option Nat)} {g : TG} {te : TE} {σ : St} {H : Hp} {Q : VK}
theorem comp_list {K : PySem.W.Frag} {a : Addr} {xs : List V} (Pv : Addr → Nat → List V → St → Hp → Prop) (h0 : ∀ D, H D = none → Pv D 0 [] (impS imp σ) (upd H D (.lst []))) (hl : ∀ D i ys σ' H', i ≤ xs.length → Pv D i ys σ' H' → SqL K H' a xs)
    (hs : ∀ D i x ys σ' H', H D = none → xs[i]? = some x → Pv D i ys σ' H' → g x σ' H' fun σ2 H2 => te σ2 H2 fun y H3 => H3 D = some (.lst ys) ∧ ys.length < sizeLine ∧ Pv D (i + 1) (ys ++ [y]) σ2 (upd H3 D (.lst (ys ++ [y]))))
    (hd : ∀ D ys σ' H', H D = none → Pv D xs.length ys σ' H' → Q (.ref D) H') : tCompR imp g te (Itl K a) σ H Q := by
  intro D hD
  refine ⟨fun i m ys σ' H' => m = xs.length - i ∧ i ≤ xs.length ∧ Pv D i ys σ' H', ⟨_, rfl, Nat.zero_le _, h0 D hD⟩, ?_⟩
  rintro i m ys σ' H' ⟨rfl, hi, p⟩
  by_cases hlt : i < xs.length
  · refine .inr ⟨⟨xs, xs[i], hl D i ys σ' H' hi p, List.getElem?_eq_getElem hlt⟩, fun y σ2 H3 => H3 D = some (.lst ys) ∧ ys.length < sizeLine ∧ Pv D (i + 1) (ys ++ [y]) σ2 (upd H3 D (.lst (ys ++ [y]))), fun y σ2 H3 ⟨n1, n2, n3⟩ => ⟨n1, n2, _, ?_, rfl, hlt, n3⟩, fun x H1 ⟨e, ex⟩ => ?_⟩
    · omega
    · subst e
      exact hs D i x ys σ' _ hD (ex xs (hl D i ys σ' _ hi p)) p
  · have e : i = xs.length := by omega
    subst e
    exact .inl ⟨⟨xs, hl D _ ys σ' H' hi p, Nat.le_refl _⟩, hd D ys σ' H' hD p⟩
theorem comp_range {lo : Int} {n : Nat} (Pv : Addr → Nat → List V → St → Hp → Prop) (h0 : ∀ D, H D = none → Pv D 0 [] (impS imp σ) (upd H D (.lst [])))
    (hs : ∀ D i ys σ' H', H D = none → i < n → Pv D i ys σ' H' → g (.int (lo + i)) σ' H' fun σ2 H2 => te σ2 H2 fun y H3 => H3 D = some (.lst ys) ∧ ys.length < sizeLine ∧ Pv D (i + 1) (ys ++ [y]) σ2 (upd H3 D (.lst (ys ++ [y]))))
    (hd : ∀ D ys σ' H', H D = none → Pv D n ys σ' H' → Q (.ref D) H') : tCompR imp g te (Itr lo n) σ H Q := by
  intro D hD
  refine ⟨fun i m ys σ' H' => m = n - i ∧ i ≤ n ∧ Pv D i ys σ' H', ⟨_, rfl, Nat.zero_le _, h0 D hD⟩, ?_⟩
  rintro i m ys σ' H' ⟨rfl, hi, p⟩
  by_cases hlt : i < n
  · refine .inr ⟨hlt, fun y σ2 H3 => H3 D = some (.lst ys) ∧ ys.length < sizeLine ∧ Pv D (i + 1) (ys ++ [y]) σ2 (upd H3 D (.lst (ys ++ [y]))), fun y σ2 H3 ⟨n1, n2, n3⟩ => ⟨n1, n2, _, ?_, rfl, hlt, n3⟩, fun x H1 ⟨e, ex⟩ => ?_⟩
    · omega
    · subst e
      subst ex
      exact hs D i ys σ' _ hD hlt p
  · have e : i = n := by omega
    subst e
    exact .inl ⟨Nat.le_refl _, hd D ys σ' H' hD p⟩
end
end L2

set_option Elab.async false
set_option linter.all false
set_option maxRecDepth 100000
set_option maxHeartbeats 1000000
namespace L2
open PySem PySem.Spec PySem.Calls PyProof.Rows PySem.W

/-! ### a class of the text under ValueError -/
abbrev VE : List Value := [.type "ValueError", .type "Exception", .type "BaseException", .type "object"]
structure ExcCls (K : PySem.W.Frag) (C : Addr) : Prop where
  ex : excIn K C VE "ValueError.__new__" = true
  ga : findIn K (.ref C) "__getattribute__" = some (some (.builtin "BaseException.__getattribute__"))
  gn : findIn K (.ref C) "__getattr__" = some none
  hb : mroIn K C (.type "BaseException") = some true
  hd : hasDictIn K C = true
  ha : findIn K (.ref C) "__class__" = some (some (.builtin "object.__class__"))
  hn : specialIn K (.builtin "object.__class__") "__get__" = some (some (.builtin "getset_descriptor.__get__"))
  tk : takesIn K (.builtin "object.__class__") = some true
  hm : mroIn K C (.type "object") = some true
theorem exc_obj {K : Frag} {h : Heap} {C : Addr} {bmB : List Value} {newId : String} (X : K.In h) (q : excIn K C bmB newId = true) :
    ∃ bm N nm qn bs hdct sn sub ab col dd k0 k1 k2 k3 k5 mN, h.get? C = some (excClassObj nm qn C N bs bm hdct sn sub ab col dd k0 k1 k2 k3 k5 newId) ∧ h.Ns N mN ∧ mN "__init__" = none ∧ OwnTail h bmB bm := by
  unfold excIn at q
  split at q <;> try (exact absurd q Bool.false_ne_true)
  next dd cd sl ho =>
  split at q <;> try (exact absurd q Bool.false_ne_true)
  next C' bm k0 k1 k2 k3 n k5 hm hs =>
  rw [Bool.and_eq_true, Bool.and_eq_true, Bool.and_eq_true, Bool.and_eq_true, Bool.and_eq_true] at q
  obtain ⟨⟨⟨⟨⟨q1, q2⟩, q3⟩, q4⟩, q5⟩, q6⟩ := q
  obtain rfl : C' = C := eq_of_beq q1
  obtain rfl : n = newId := eq_of_beq q2
  obtain ⟨nm, bs, mro, ns, qn, hdc, sn, sub, ab, col, del⟩ := cd
  replace hm : mro = .ref C' :: bm := hm
  replace q3 : del = false := by simpa using q3
  subst hm; subst q3
  have esl : sl = #[k0, k1, k2, k3, some (.builtin n), k5] := Array.ext' hs
  subst esl
  exact ⟨bm, ns, nm, qn, bs, hdc, sn, sub, ab, col, dd, k0, k1, k2, k3, k5, _, X _ _ ho, .of_isNs (isNs_of_in X q5), nsMap_none_of_in X q5 (eq_of_beq q6), tail_of_in X q4⟩

/-! ### how an exception lies behind a call that it left -/
def CX1 (P : Program) (w : World) : CXT := fun outer H s E e s' => ∃ (x C : Addr) (a0 : Value) (B : Heap) (H' : Hp), e = .ref x ∧ s'.os = s.os ∧ AllBare s'.gens ∧ Un (frs outer) [] H H' s.heap s'.heap ∧ HOk P w H' B ∧
  (∀ b o, s.heap.get? b = some o → H b = none → b ∉ frs outer → B.get? b = some o) ∧ (∀ b o, s.heap.get? b = some o → b ∉ frs outer → ∃ o', B.get? b = some o') ∧ Heap.FlyingW B outer x (.ref C) a0 s'.heap ∧ E (.ref C) none H'
section
variable {X : Cx} {pins : List (Addr × Obj)} {σ : St} {H H' : Hp} {s : Shared}
/-- what flies on: the frames' slots and the exception's own records change alone -/
theorem Un.fly {fs : List Addr} {h h1 h2 B : Heap} (u : Un fs [] H H' h h1) (hf : ∀ b ∈ fs, H b = none ∧ ∀ o, h.get? b = some o → ∀ vs, o.data ≠ .fields vs)
    (kb : ∀ b o, h.get? b = some o → H b = none → b ∉ fs → B.get? b = some o) (kt : ∀ b o, h.get? b = some o → b ∉ fs → ∃ o', B.get? b = some o') (st : B.StaysIn h2) (sm : h1.UpToSlots h2) : Un fs [] H H' h h2 := by
  have sl : ∀ b o, h.get? b = some o → b ∈ fs → ∃ sl, h2.get? b = some { o with slots := sl } := fun b o e hb => by
    obtain ⟨s1, e1⟩ := u.any e (hf b hb).1 (by simp)
    obtain ⟨s2, e2⟩ := sm b _ e1 ((hf b hb).2 o e)
    exact ⟨s2, e2⟩
  refine ⟨fun b o e n hb _ => st b o (kb b o e n hb), fun b o e n hb _ => sl b o e hb, u.free, fun b o e _ => ?_, u.tups, u.frzs, u.tbls⟩
  by_cases hb : b ∈ fs
  · obtain ⟨z, q⟩ := sl b o e hb
    exact ⟨_, q⟩
  · obtain ⟨o', q⟩ := kt b o e hb
    exact ⟨o', st b o' q⟩
theorem Inv.frs_ok (I : Inv X pins σ H s) : ∀ b ∈ frs X.stack, H b = none ∧ ∀ o, s.heap.get? b = some o → ∀ vs, o.data ≠ .fields vs := fun b hb => by
  refine ⟨I.stkFree b hb, fun o e vs z => ?_⟩
  obtain ⟨_, o', e', d⟩ := I.stack.mem hb
  rw [e] at e'
  cases e'
  exact d vs z
theorem Inv.frs_old (I : Inv X pins σ H s) {b : Addr} {o : Obj} (e : X.s₀.heap.get? b = some o) (hb : b ∉ frs X.outer) : b ∉ frs X.stack := fun hz => by
  rcases List.mem_cons.mp (I.stkSub b hz) with z | z
  · rw [z] at e
    exact absurd (Nat.lt_of_lt_of_le (Heap.lt_size e) I.ok.above) (Nat.lt_irrefl _)
  · exact hb z
/-- the frame is left -/
theorem Inv.leave {h2 B : Heap} (I : Inv X pins σ H s) (hx : X.ex = []) (u : Un (frs X.stack) [] H H' s.heap h2) (kb : ∀ b o, s.heap.get? b = some o → H b = none → b ∉ frs X.stack → B.get? b = some o) (kt : ∀ b o, s.heap.get? b = some o → b ∉ frs X.stack → ∃ o', B.get? b = some o') (st : B.StaysIn h2) :
    Un (frs X.outer) [] X.H₀ H' X.s₀.heap h2 ∧ (∀ b o, X.s₀.heap.get? b = some o → X.H₀ b = none → b ∉ frs X.outer → B.get? b = some o) ∧ (∀ b o, X.s₀.heap.get? b = some o → b ∉ frs X.outer → ∃ o', B.get? b = some o') := by
  have nx : ∀ b, b ∉ X.ex := fun b z => by rw [hx] at z; cases z
  have kb' : ∀ b o, X.s₀.heap.get? b = some o → X.H₀ b = none → b ∉ frs X.outer → B.get? b = some o := fun b o e n hb => kb b o (I.base.keep b o e n hb (nx b)) (I.base.free b o e n (nx b)) (I.frs_old e hb)
  have kt' : ∀ b o, X.s₀.heap.get? b = some o → b ∉ frs X.outer → ∃ o', B.get? b = some o' := fun b o e hb => by
    obtain ⟨o1, e1⟩ := I.base.there b o e (nx b)
    exact kt b o1 e1 (I.frs_old e hb)
  have sl : ∀ b o, X.s₀.heap.get? b = some o → X.H₀ b = none → b ∈ frs X.outer → ∃ sl, h2.get? b = some { o with slots := sl } := fun b o e n hb => by
    obtain ⟨s1, e1⟩ := I.base.slot b o e n hb (nx b)
    obtain ⟨s2, e2⟩ := u.any e1 (I.base.free b o e n (nx b)) (by simp)
    exact ⟨s2, e2⟩
  refine ⟨⟨fun b o e n hb _ => st b o (kb' b o e n hb), fun b o e n hb _ => sl b o e n hb, fun b o e n _ => ?_, fun b o e _ => ?_, fun b xs e => u.tups b xs (I.base.tups b xs e), fun b o xs e => u.frzs b o xs (I.base.frzs b o xs e), fun b ps e => ?_⟩, kb', kt'⟩
  · obtain ⟨o1, e1⟩ := I.base.there b o e (nx b)
    exact u.free b o1 e1 (I.base.free b o e n (nx b)) (by simp)
  · obtain ⟨o1, e1⟩ := I.base.there b o e (nx b)
    exact u.there b o1 e1 (by simp)
  · obtain ⟨m1, e1⟩ := I.base.tbls b ps e
    obtain ⟨m2, e2⟩ := u.tbls b _ e1
    exact ⟨m1 ++ m2, by rw [e2, Array.append_assoc]⟩
theorem HOk.hide {P : Program} {w : World} {h : Heap} {as : List Addr} (x : HOk P w H h) (n : ∀ b ∈ as, H b = none) : HOk P w H (hideAll h as) := fun a o e => by
  refine (x a o e).stay (fun b u hb q => hideAll_get _ q fun hm => ?_) (fun _ q => q) fun _ _ q => q
  rcases hb with rfl | hb
  · rw [n _ hm] at e; cases e
  · rw [n _ hm] at hb; cases hb
end

/-! ### passing on, raising -/
section
variable {P : Program} {w : World} {K : PySem.W.Frag} {mg : Str → Option Value} {base : Heap} {N : List Str} {qual : Str} {scope : Scope} {f : Addr} {cd : Value} {A : Around} {outer : List Env} {s0 : Shared} {H0 : Hp} {E : XK}
/-- a callee's exception leaves this def too -/
theorem pass1 : Passes (CX1 P w) (cxOf (CX1 P w) P w K mg base N qual scope f cd A outer s0 H0 E) E := by
  intro pins σ H s e s' I h
  obtain ⟨x, C, a0, B, H', rfl, ho, hg, u, hok, kb, kt, fl, q⟩ := h
  refine wpAny_leaves_onW (L := s0.heap.objs.size) I.ok.frames rfl fl fun h2 fl2 sm => ?_
  obtain ⟨a1, a2, a3⟩ := I.leave rfl (u.fly I.frs_ok kb kt fl2.1 sm) kb kt fl2.1
  exact ⟨x, C, a0, B, H', rfl, ho.trans I.os, hg, a1, hok, a2, a3, fl2, q⟩
def tRaise (C : Addr) (E : XK) (t : TA) : TS := fun _ σ H => t σ H fun vs H1 => vs.length ≤ sizeLine ∧ E (.ref C) none H1
/-- raise C(e, ..) -/
theorem ps_raise {x : Str} {C : Addr} {np cpos pos : Pos} {e₀ : Expr} {es : List Expr} {t : TA} (ec : ExcCls K C) (hm : mg x = some (.ref C))
    (ha : PA (cxOf (CX1 P w) P w K mg base N qual scope f cd A outer s0 H0 E) (e₀ :: es) t) (hh : A.handled = none)
    (hg : Gl (cxOf (CX1 P w) P w K mg base N qual scope f cd A outer s0 H0 E) x := by rfl) (hdb : (x == ("__debug__" : Str)) = false := by decide)
    (he : starEach (e₀ :: es) (envOfC qual scope s0.heap.objs.size f cd) = (false, eval e₀ (envOfC qual scope s0.heap.objs.size f cd)) :: starEach es (envOfC qual scope s0.heap.objs.size f cd) := by rfl)
    (hpl : (backTo cpos (starEach es (envOfC qual scope s0.heap.objs.size f cd))).any (·.1) = false := by rfl) :
    PS (cxOf (CX1 P w) P w K mg base N qual scope f cd A outer s0 H0 E) (.Raise (some (.Call (.Name x np) (e₀ :: es) [] cpos)) none pos) (tRaise C E t) := by
  intro pins s σ H D I h
  obtain ⟨bm, Nn, nm, qn, bs, hdct, sn, sub, ab, col, dd, k0, k1, k2, k3, k5, mN, hC, hN, hni, TT⟩ := exc_obj I.mod.kin ec.ex
  refine wpAny_Raise_call_subT (C := C) (nm := nm) (q := qn) (N := Nn) (bs := bs) (bm := bm) (hdct := hdct) (sn := sn) (sub := sub) (ab := ab) (col := col) (dd := dd) (k0 := k0) (k1 := k1) (k2 := k2) (k3 := k3) (k5 := k5)
    F.excBase_ValueError (mN := mN) (TT.hasType F.excBase_ValueError.hasBase) hh ?_ hni (ld_glob I hg hm ⟨rfl, ?_⟩ hdb)
  · show (backTo cpos (starEach (e₀ :: es) (envOfC qual scope s0.heap.objs.size f cd))).any (·.1) = false
    rw [he]
    show (false || (backTo cpos (starEach es (envOfC qual scope s0.heap.objs.size f cd))).any (·.1)) = false
    rw [hpl]
    rfl
  have hA := ha cpos pins s σ H _ I h
  have hA : wpAny (model P w) (A.deeper (envOfC qual scope s0.heap.objs.size f cd)) (spliced (backTo cpos (starEach (e₀ :: es) (envOfC qual scope s0.heap.objs.size f cd)))) _ _ s := hA
  show wpAny (model P w) (A.deeper (envOfC qual scope s0.heap.objs.size f cd)) (evalArgs (.ref C) true (backTo cpos (starEach (e₀ :: es) (envOfC qual scope s0.heap.objs.size f cd))) []) _ _ s
  rw [he] at hA ⊢
  refine Calls.evalArgs_plain (wpAny_mono hA (fun us s2 ⟨vs, H2, I2, r, hz, q⟩ => ⟨rfl, by rw [← r.length]; exact hz, I2.bk _ _ hC, hN.keeps I2.bk, TT.keeps I2.bk, fun h' e hx => ?_⟩) fun _ _ y => y)
  have hB : ∀ b o, s2.heap.get? b = some o → b ∉ frs (envOfC qual scope s0.heap.objs.size f cd :: outer) → (hideAll s2.heap (frs (envOfC qual scope s0.heap.objs.size f cd :: outer))).get? b = some o := fun b o e' hb => hideAll_get _ e' hb
  refine wpAny_leaves_madeW (base := hideAll s2.heap (frs (envOfC qual scope s0.heap.objs.size f cd :: outer))) (h := s2.heap) (L := s0.heap.objs.size) I2.ok.frames rfl (fun b o q => of_hideAll _ q)
    (funFrames_hide I2.stack fun env he a ea => List.mem_filterMap.mpr ⟨env, he, ea⟩) hx fun h2 tt fl _ _ sm => ?_
  obtain ⟨a1, a2, a3⟩ := I2.leave rfl ((Un.kept hx.keeps : Un _ [] H2 H2 s2.heap h').fly I2.frs_ok (fun b o e n hb => hB b o e hb) (fun b o e hb => ⟨o, hB b o e hb⟩) fl.1 sm) (fun b o e n hb => hB b o e hb) (fun b o e hb => ⟨o, hB b o e hb⟩) fl.1
  exact ⟨e, C, .ref tt, _, H2, rfl, I2.os, I2.bare, a1, I2.hok.hide I2.stkFree, a2, a3, fl, q⟩
/-- THE RULE for a def that may raise -/
theorem Fun.ok1 {x : Str} {st : Stmt} {fd : FuncData} {ps : List Str} {k : Nat} {sp : Sp} (F : Fun K x qual st f fd) (S : FnScope N ps (defScope st)) (len : ∀ vs H Q E, sp vs H Q E → vs.length = ps.length)
    (hbody : ∀ (cdv : Value) (A : Around) (outer : List Env) (s : Shared) (H : Hp) (vs : List V) (Q : VK) (E : XK), Room k (A.deeper (envOfC qual (defScope st) s.heap.objs.size f cdv)) → sp vs H Q E →
      ∃ t, PSs (cxOf (CX1 P w) P w K mg base N qual (defScope st) f cdv A outer s H E) (defBody st) t ∧ t { nx := fun _ H' => Q .non H', rt := Q } (start N vs) H) :
    FnOk P w K mg base (CX1 P w) (k + 1) f fd ps sp := by
  obtain ⟨oc, od, kV, doc, pm, an, cdv, ct, osl, rfl, lk, hc⟩ := F.ex
  exact fn_of lk hc S len fun A outer s H vs Q E hr h => hbody cdv A outer s H vs Q E hr h
end
end L2

set_option Elab.async false
set_option linter.all false
set_option maxRecDepth 100000
set_option maxHeartbeats 1000000
namespace L2
open PySem PySem.Spec PySem.Calls PyProof.Rows PySem.W Builtin Builtin.ObjectAttr Builtin.Getset_descriptor

/-! ### a caught exception, asked for its class -/
def IsExc (h : Heap) (x C : Addr) : Prop := ∃ ox, h.get? x = some ox ∧ ox.cls = .ref C ∧ notCls ox = true
theorem IsExc.type {M : Model} {h : Heap} {x C : Addr} (I : IsExc h x C) : Looks M h (typeOf (.ref x)) (.ref C) := by
  obtain ⟨ox, h1, h2, _⟩ := I
  exact h2 ▸ (Looks.ld h1).andThen .now
section
variable {prog : Program} {w : World} {K : Frag} {x C : Addr}
theorem exc_find {M : Model} {h : Heap} (X : K.In h) (ec : ExcCls K C) : Looks M h (find (.ref x) (.ref C) "__class__") (.bind (.builtin "getset_descriptor.__get__") (.builtin "object.__class__")) := by
  have l1 := looks_findIn (M := M) X ec.ha
  have l2 : Looks M h (getOf (some (.builtin "object.__class__"))) (some (.builtin "getset_descriptor.__get__")) := looks_specialIn X ec.hn
  have l3 := looks_takesIn (M := M) X ec.tk
  refine l1.andThen (l2.andThen ?_)
  have l4 : Looks M h (dataDescriptor? (some (.builtin "object.__class__")) (some (.builtin "getset_descriptor.__get__"))) (some (.builtin "getset_descriptor.__get__", .builtin "object.__class__")) := l3.andThen .now
  exact l4.andThen (Looks.tag .now)
theorem exc_classGet {A : Around} {s : Shared} {R : Result → Shared → Prop} {tp : Value} (X : K.In s.heap) (ec : ExcCls K C) (I : IsExc s.heap x C) (h : R (.ok (.ret (.ref C))) s) :
    codeAny (model prog w) A (.call (.builtin "getset_descriptor.__get__") ⟨[.builtin "object.__class__", .ref x, tp], []⟩) R s := by
  obtain ⟨hp, g, dr, t, os⟩ := s
  have l0 := I.type (M := model prog w)
  have l1 := looks_mroIn (M := model prog w) X ec.hm
  refine codeAny_call_builtin KF.slot_gs.plain KF.entry_gs (KF.slot_gs.check _ _ _ _ _ _ _ _ KF.type_class (KF.args_gs _ _ _) ?_)
  unfold Builtin.«getset_descriptor.__get__» descrGet
  rw [dga_obj]
  refine wpAny_bind (wpAny_pure ?_)
  unfold descrGetter descrCheckInstance descrNameAndClass isInstance
  simp only [KF.owner_class]
  repeat lk
  refine ⟨Code.quiet_builtin _ (by decide +kernel), codeAny_builtin KF.entry_class ?_⟩
  unfold Builtin.«object.__class__» shownTypeOf
  repeat lk
  exact h
theorem exc_ga : Slot "ValueError" "__getattribute__" "BaseException.__getattribute__" := PySem.F.excAttr_ValueError.ga
theorem exc_attr {A : Around} {E : Value → Shared → Prop} {s : Shared} {Q : Option Value → Shared → Prop} (X : K.In s.heap) (ec : ExcCls K C) (I : IsExc s.heap x C) (h : Q (some (.ref C)) { s with toks := s.toks + 1 }) :
    wpAny (model prog w) A (getAttr? (.ref x) "__class__") Q E s := by
  obtain ⟨hp, g, d, t, os⟩ := s
  have l0 := I.type (M := model prog w)
  have l1 := looks_findIn (M := model prog w) X ec.ga
  have l2 := exc_find (M := model prog w) (x := x) X ec
  have l3 := looks_findIn (M := model prog w) X ec.gn
  have l4 := looks_mroIn (M := model prog w) X ec.hb
  unfold getAttr? getAttrBy? getAttrBy
  refine wpAny_bind (wpAny_mkText (wpAny_bind (wpAny_attempt (wpAny_holding (wpAny_bind (l0.at ?_))))))
  refine wpAny_bind (l1.at ?_)
  show wpAny _ _ (getAttrByItsOwn (.ref x) _ (.ref C) (.builtin "BaseException.__getattribute__") false false) _ _ _
  unfold getAttrByItsOwn
  refine wpAny_bind (l3.at ?_)
  refine wpAny_bind (wpAny_attempt (wpAny_holding ?_))
  show wpAny _ _ (boundAndCalled _ _ _) _ _ _
  refine wpAny_bind (wpAny_of_eq (exc_ga.bind (.ref x)) ?_)
  refine wpAny_call (codeAny_call_builtin exc_ga.plain F.entry_bexc_ga ?_)
  have hk : builtinKind "BaseException.__getattribute__" = some .slot := by decide +kernel
  have hsplit : splitId "BaseException.__getattribute__" = some ("BaseException", "__getattribute__") := by decide +kernel
  have ha := F.args_bexc_ga (.ref x) (.str "__class__" t)
  simp only [checkBuiltinCall, hk, hsplit]
  refine wpAny_bind ?_
  · unfold isInstance
    repeat lk
    refine wpAny_run (exc_classGet (s := ⟨hp, g, d, t + 1, os⟩) X ec I ?_)
    exact wpAny_pure (wpAny_pure (handed_on rfl (wpAny_pure h)))
theorem kitx_exc (ec : ExcCls K C) : KitX K (.ref x) (.ref C) (fun h => IsExc h x C) where
  ty := fun _ _ _ I => I.type
  it := fun M h X _ => by
    obtain ⟨cd, hc, _⟩ := any_some ec.hd
    unfold clsIn at hc
    split at hc
    · next ho =>
      intro A' Q' E' s' k q
      unfold isType loadHead
      exact wpAny_bind (wpAny_loadPart (k _ _ (X _ _ ho)) (wpAny_pure q))
    · cases hc
  ne := fun h tp dd its n sl X ht => by
    obtain ⟨cd, hc, _⟩ := any_some ec.hd
    refine Bool.eq_false_iff.mpr fun q => ?_
    obtain rfl : C = tp := Value.ref.inj (eq_of_beq q)
    unfold clsIn at hc
    split at hc
    · next ho =>
      have z := (X _ _ ho).symm.trans ht
      cases z
    · cases hc
  ca := fun X I k => exc_attr X ec I k
end
/-- a caught exception, tracked -/
def ExcO (x C : Addr) : HO := .ext fun h => IsExc h x C
theorem ExcO.ok {P : Program} {w : World} {H : Hp} {h : Heap} {x C : Addr} (I : IsExc h x C) : ObjOk P w H h x (ExcO x C) := by
  refine ⟨I, ?_, ?_⟩
  · obtain ⟨ox, h1, _⟩ := I
    exact ⟨ox, h1⟩
  · rintro h1 h2 ⟨ox, e, r⟩ k
    exact ⟨ox, k _ e, r⟩
section
variable {X : Cx}
/-- isinstance(e, c) of a caught exception -/
theorem call_isiX : CallR X (.builtin "isinstance") (fun xs H Q => ∃ (x C : Addr) (c : V) (cv : Value) (b : Bool), xs = [.ref x, c] ∧ RelV c cv ∧ absV cv = some c ∧ H x = some (ExcO x C) ∧ ExcCls X.K C ∧ kitOne X.K (.ref C) cv = some b ∧ Q (.bl b) H) := by
  intro pins s σ H xs us Q I r h
  obtain ⟨x, C, c, cv, b, rfl, rc, ec', hx, ec, e, q⟩ := h
  obtain ⟨u, u', rfl, ru, ru'⟩ := vals2 r
  cases ru
  have hcv : u' = cv := by
    cases c with
    | ref a => exact (show u' = Value.ref a from ru').trans (show cv = Value.ref a from rc).symm
    | ty n => exact (show u' = Value.type n from ru').trans (show cv = Value.type n from rc).symm
    | non => exact (show u' = Value.none from ru').trans (show cv = Value.none from rc).symm
    | bl z => exact (show u' = Value.bool z from ru').trans (show cv = Value.bool z from rc).symm
    | int i =>
      obtain ⟨t, rfl⟩ := rc
      exact absurd e (by unfold kitOne kitCls; simp)
    | str i =>
      obtain ⟨t, rfl⟩ := rc
      exact absurd e (by unfold kitOne kitCls; simp)
    | byt i =>
      obtain ⟨t, rfl⟩ := rc
      exact absurd e (by unfold kitOne kitCls; simp)
    | flt i =>
      obtain ⟨t, rfl⟩ := rc
      exact absurd e (by unfold kitOne kitCls; simp)
  subst hcv
  have J : IsExc s.heap x C := (I.hok x _ hx).1
  exact kia_one (kitx_exc ec) I.kIn J e (fun z => nomatch z) fun tk => ⟨.bl b, H, I.tok tk, rfl, q⟩
end

/-! ### under a handler: calls there -/
def cxH (X : Cx) (A : Around) : Cx := { X with A := A, calm := false }
section
variable {X : Cx} {pins : List (Addr × Obj)} {σ : St} {H : Hp} {s : Shared}
theorem Inv.toH {A : Around} (I : Inv X pins σ H s) (hf : A.frames = some X.stack) : Inv (cxH X A) pins σ H s :=
  ⟨⟨I.ok.mod, I.ok.kind, I.ok.glob, I.ok.blt, I.ok.above, I.ok.inj, I.ok.has, I.ok.cab, fun z => absurd z Bool.false_ne_true, hf, I.ok.stk, I.ok.exf, I.ok.bs, I.ok.bsz, I.ok.noex, I.ok.exfs, I.ok.funs, I.ok.frf⟩, I.os, I.bare, I.base, I.loc, I.cell, I.free, I.freeC, I.pin, I.hok, I.len⟩
theorem Inv.ofH {A : Around} (I : Inv (cxH X A) pins σ H s) (hd : X.calm = true → X.A.handled = none) (hf : X.A.frames = some X.stack) : Inv X pins σ H s :=
  ⟨⟨I.ok.mod, I.ok.kind, I.ok.glob, I.ok.blt, I.ok.above, I.ok.inj, I.ok.has, I.ok.cab, hd, hf, I.ok.stk, I.ok.exf, I.ok.bs, I.ok.bsz, I.ok.noex, I.ok.exfs, I.ok.funs, I.ok.frf⟩, I.os, I.bare, I.base, I.loc, I.cell, I.free, I.freeC, I.pin, I.hok, I.len⟩
end
structure RoomH (k : Nat) (A : Around) : Prop where
  dp : A.depth + 3 * k + 5 < recursionLimit
  un : A.units + 16 * k + 200 < cLine
theorem Room.toH {k : Nat} {A : Around} (r : Room k A) (e : Option Value) : RoomH k (A.mark e) := ⟨r.dp, r.un⟩
/-- a def that may be called under a handler; it does not raise -/
structure FnOkH (P : Program) (w : World) (K : PySem.W.Frag) (mg : Str → Option Value) (base : Heap) (k : Nat) (f : Addr) (fd : FuncData) (ps : List Str) (sp : Sp) : Prop where
  len : ∀ vs H Q E, sp vs H Q E → vs.length = ps.length
  run : ∀ (A : Around) (outer : List Env) (s : Shared) (H : Hp) (args : Args) (us : List Value) (vs : List V) (Q : VK), RoomH k A → Env0 P w K mg base A outer s H → BindsTo s fd args (ps.zip us) → Vals vs us → sp vs H Q E0 →
    codeAny (model P w) A (.call (.ref f) args) (CR CX0 outer P w H s Q E0) s
section
variable {P : Program} {w : World} {K : PySem.W.Frag} {mg : Str → Option Value} {base : Heap}
theorem Fun.okH {x qual : Str} {st : Stmt} {f : Addr} {fd : FuncData} {N ps : List Str} {k : Nat} {sp : Sp} (F : Fun K x qual st f fd) (S : FnScope N ps (defScope st)) (len : ∀ vs H Q E, sp vs H Q E → vs.length = ps.length)
    (hbody : ∀ (cdv : Value) (A A' : Around) (outer : List Env) (s : Shared) (H : Hp) (vs : List V) (Q : VK), A'.units + 16 * k + 200 < cLine → sp vs H Q E0 →
      ∃ t, PSs (cxH (cxOf CX0 P w K mg base N qual (defScope st) f cdv A outer s H E0).nox A') (defBody st) t ∧ t { nx := fun _ H' => Q .non H', rt := Q } (start N vs) H) : FnOkH P w K mg base (k + 1) f fd ps sp := by
  obtain ⟨oc, od, kV, doc, pm, an, cdv, ct, osl, rfl, lk, hcd⟩ := F.ex
  refine ⟨len, fun A outer s H args us vs Q hr e0 hb r hsp => ?_⟩
  have hl := len _ _ _ _ hsp
  have KX : K.In s.heap := e0.mod.kin.keeps fun b o e => (e0.bs b o e).1
  have lim : s.heap.NoLimit := e0.mod.nolimit.keeps fun b o e => (e0.bs b o e).1
  have hkind : ∀ y ∈ ps.zip us, (defScope st).names.lookup y.1 = some .local ∨ ((defScope st).names.lookup y.1 = some .cell ∧ ((cellsFrom (s.heap.objs.size + 1) (defScope st).names []).lookup y.1).isSome = true) := fun ⟨n, v⟩ hy => by
    rcases S.par n (List.of_mem_zip hy).1 with q | q
    · exact .inl q
    · exact .inr ⟨q, PySem.W.cellsFrom_some _ _ _ (.inl q)⟩
  refine codeAny_call_function (by have := hr.dp; omega) (KX _ _ lk) rfl S.co S.gen rfl (PySem.W.codeRec_of KX hcd) (hb _ _ _ _ ?_)
  refine wpAny_newFunctionEnv_cells S.kind hkind fun env he s1 x => ?_
  subst he
  refine ⟨lim.keeps x.toInCall.keep, codeAny_func ?_⟩
  let A0 : Around := { A with handled := none }
  have e00 : Env0 P w K mg base A0 outer s H := ⟨e0.frames, e0.mod, e0.bs, e0.bsz, e0.funs, e0.frf, e0.hok, e0.bare⟩
  obtain ⟨t, ht, hq⟩ := hbody cdv A0 (A.deeper (envOfC qual (defScope st) s.heap.objs.size f cdv)) outer s H vs Q (by have := hr.un; show A.units + 3 + 16 * k + 200 < cLine; omega) hsp
  have I0 : Inv (cxOf CX0 P w K mg base N qual (defScope st) f cdv A0 outer s H E0) [] (start N vs) H s1 := inv_start S rfl e00 hl r x
  have I : Inv (cxH (cxOf CX0 P w K mg base N qual (defScope st) f cdv A0 outer s H E0).nox (A.deeper (envOfC qual (defScope st) s.heap.objs.size f cdv))) [] (start N vs) H s1 := (I0.wish _).toH (Around.frames_deeper e0.frames)
  refine wpAny_mono (ht [] s1 (start N vs) H _ I hq) (fun fl s' hs => ?_) fun e s' hs => hs.elim
  have fin : ∀ {σ' : St} {H' : Hp} {v : V} {u : Value}, Inv (cxH (cxOf CX0 P w K mg base N qual (defScope st) f cdv A0 outer s H E0).nox (A.deeper (envOfC qual (defScope st) s.heap.objs.size f cdv))) [] σ' H' s' → RelV v u → Q v H' → CE outer P w H s Q u s' :=
    fun {σ' H' v u} J rv q => ⟨v, H', J.os, J.bare, J.base, J.hok, rv, q⟩
  cases fl with
  | ret u =>
    obtain ⟨v, σ', H', J, rv, q⟩ := hs
    exact fin J rv q
  | next =>
    obtain ⟨σ', H', J, q⟩ := hs
    exact fin (v := V.non) (u := Value.none) J rfl q
  | brk =>
    obtain ⟨_, _, _, q⟩ := hs
    exact False.elim q
  | cont =>
    obtain ⟨_, _, _, q⟩ := hs
    exact False.elim q
end
section
variable {X : Cx} {k : Nat} {f C : Addr} {fd : FuncData} {ps : List Str} {sp : Sp} {x : Str} {p pos : Pos} {e : Expr} {es : List Expr} {t : TA} {CX : CXT}
/-- f(e, ..) under a handler -/
theorem pe_callH (F : FnOkH X.prog X.w X.K X.mg X.base k f fd ps sp) (hr : RoomH k X.A) (hg : Gl X x) (hm : X.mg x = some (.ref f)) (hk : PySem.W.keepIn X.K (.ref f) = true) (hb : Binds X.K fd ps []) (ha : PA X (e :: es) t)
    (hdb : (x == ("__debug__" : Str)) = false := by decide) (he : starEach (e :: es) X.env = (false, eval e X.env) :: starEach es X.env := by rfl) (hpl : (backTo pos (starEach es X.env)).any (·.1) = false := by rfl) :
    PE X (.Call (.Name x p) (e :: es) [] pos) (tCall sp [] E0 t) := by
  intro pins s σ H Q I h
  refine wpAny_Call_Name_kw (ld_glob I hg hm ?_ hdb)
  refine PySem.W.callWith_K (h₀ := X.base) I.ok.mod.kin hk (thn (ha pos pins s σ H _ I h) fun us s1 ⟨vs, H1, I1, r, q⟩ => ⟨I1.kIn, ?_⟩) he hpl
  have q : sp (vs ++ []) H1 Q E0 := q
  rw [List.append_nil] at q
  have hl : (us ++ []).length = ps.length := by rw [List.append_nil, ← r.length]; exact F.len _ _ _ _ q
  have bd := hb s1 us I1.kIn hl
  rw [List.append_nil] at bd
  refine wpAny_call (codeAny_mono (F.run X.A X.stack s1 H1 ⟨us, []⟩ us vs Q hr I1.env0 bd r q) fun r' s' hq => ?_)
  cases r' with
  | error e' => exact False.elim hq
  | ok fl =>
    cases fl with
    | ret u => exact I1.after hq
    | next => exact False.elim hq
    | brk => exact False.elim hq
    | cont => exact False.elim hq

/-! ### calls whose exception is told with the names' values -/
def tCallX (sp : Sp) (E : St → XK) (t : TA) : TE := fun σ H Q => t σ H fun vs H1 => sp vs H1 Q (E σ)
def tMakeX (C : Addr) (sp : Sp) (E : St → XK) (t : TA) : TE := fun σ H Q => t σ H fun vs H1 => ∀ x dx, H1 x = none → H1 dx = none → dx ≠ x →
  sp (.ref x :: vs) (upd (upd H1 dx (.own x)) x (.ins C dx [])) (fun v H2 => v = .non ∧ Q (.ref x) H2) (E σ)
def PassesS (CX : CXT) (X : Cx) (E : St → XK) : Prop := ∀ (pins : List (Addr × Obj)) (σ : St) (H : Hp) (s : Shared) (e : Value) (s' : Shared), Inv X pins σ H s → CX X.stack H s (E σ) e s' → X.xe e s'
theorem pe_callX {E : St → XK} (F : FnOk X.prog X.w X.K X.mg X.base CX k f fd ps sp) (hr : Room k X.A) (hg : Gl X x) (hm : X.mg x = some (.ref f)) (hk : PySem.W.keepIn X.K (.ref f) = true) (hb : Binds X.K fd ps []) (hx : PassesS CX X E) (ha : PA X (e :: es) t)
    (hdb : (x == ("__debug__" : Str)) = false := by decide) (he : starEach (e :: es) X.env = (false, eval e X.env) :: starEach es X.env := by rfl) (hpl : (backTo pos (starEach es X.env)).any (·.1) = false := by rfl) :
    PE X (.Call (.Name x p) (e :: es) [] pos) (tCallX sp E t) := by
  intro pins s σ H Q I h
  refine wpAny_Call_Name_kw (ld_glob I hg hm ?_ hdb)
  refine PySem.W.callWith_K (h₀ := X.base) I.ok.mod.kin hk (thn (ha pos pins s σ H _ I h) fun us s1 ⟨vs, H1, I1, r, q⟩ => ⟨I1.kIn, ?_⟩) he hpl
  have hl : (us ++ []).length = ps.length := by rw [List.append_nil, ← r.length]; exact F.len _ _ _ _ q
  have bd := hb s1 us I1.kIn hl
  rw [List.append_nil] at bd
  refine wpAny_call (codeAny_mono (F.run X.A X.stack s1 H1 ⟨us, []⟩ us vs Q (E σ) hr I1.env0 bd r q) fun r' s' hq => ?_)
  cases r' with
  | error e' => exact hx pins σ H1 s1 e' s' I1 hq
  | ok fl =>
    cases fl with
    | ret u => exact I1.after hq
    | next => exact False.elim hq
    | brk => exact False.elim hq
    | cont => exact False.elim hq
theorem pe_makeX {E : St → XK} (M : Mk X.K C f) (F : FnOk X.prog X.w X.K X.mg X.base CX k f fd ps sp) (hr : Room (k + 1) X.A) (hg : Gl X x) (hm : X.mg x = some (.ref C)) (hb : Binds X.K fd ps []) (hx : PassesS CX X E) (ha : PA X (e :: es) t)
    (hdb : (x == ("__debug__" : Str)) = false := by decide) (he : starEach (e :: es) X.env = (false, eval e X.env) :: starEach es X.env := by rfl) (hpl : (backTo pos (starEach es X.env)).any (·.1) = false := by rfl) :
    PE X (.Call (.Name x p) (e :: es) [] pos) (tMakeX C sp E t) := by
  intro pins s σ H Q I h
  refine wpAny_Call_Name_kw (ld_glob I hg hm ?_ hdb)
  refine PySem.W.callWith_K (h₀ := X.base) I.ok.mod.kin M.kp (thn (ha pos pins s σ H _ I h) fun us s1 ⟨vs, H1, I1, r, q⟩ => ⟨I1.kIn, ?_⟩) he hpl
  have hq := q (s1.heap.objs.size + 1) s1.heap.objs.size (I1.hok.fresh (Nat.le_succ _)) (I1.hok.fresh (Nat.le_refl _)) (Nat.ne_of_lt (Nat.lt_succ_self _))
  have I2 := Inv.made (C := C) I1
  have r2 : Vals (V.ref (s1.heap.objs.size + 1) :: vs) (Value.ref (s1.heap.objs.size + 1) :: us) := .cons rfl r
  have hl : ((Value.ref (s1.heap.objs.size + 1) :: us) ++ []).length = ps.length := by
    rw [List.append_nil, ← r2.length]
    exact F.len _ _ _ _ hq
  have bd := hb _ (Value.ref (s1.heap.objs.size + 1) :: us) I2.kIn hl
  rw [List.append_nil] at bd
  refine wpAny_call (make_map (f := f) I1.kIn M.makes M.init (beq_iff_eq.mp M.fn) (codeAny_mono (F.run _ X.stack _ _ ⟨Value.ref (s1.heap.objs.size + 1) :: us, []⟩ (Value.ref (s1.heap.objs.size + 1) :: us) _ _ (E σ) (hr.make C us [])
    (I2.env0.make C us []) bd r2 hq) fun r' s' hq' => ?_))
  cases r' with
  | error e' => exact hx pins σ _ _ e' s' I2 hq'
  | ok fl =>
    cases fl with
    | ret u =>
      obtain ⟨v, H', I3, rv, ev, q3⟩ := I2.after hq'
      subst ev
      exact ⟨rv, ⟨V.ref (s1.heap.objs.size + 1), H', I3, rfl, q3⟩⟩
    | next => exact False.elim hq'
    | brk => exact False.elim hq'
    | cont => exact False.elim hq'
end

/-! ### try: .. except C0 as n: .. -/
/-- an exception that has come into this frame: what was known at the call, and R of its class, the names' values, the heap -/
def XIn (X : Cx) (R : Addr → St → Hp → Prop) (e : Value) (s' : Shared) : Prop :=
  ∃ pins σ H s, Inv X pins σ H s ∧ CX1 X.prog X.w X.stack H s (fun c _ H' => ∃ C, c = .ref C ∧ R C σ H') e s'
def XE (R : Addr → St → Hp → Prop) : St → XK := fun σ c _ H' => ∃ C, c = .ref C ∧ R C σ H'
abbrev cxP (X : Cx) (pins : List (Addr × Obj)) : Cx := { X with pn := X.pn ++ pins }
abbrev cxT (X : Cx) (pins : List (Addr × Obj)) (R : Addr → St → Hp → Prop) : Cx := { X with pn := X.pn ++ pins, xe := XIn (cxP X pins) R }
section
variable {X : Cx} {pins pins' : List (Addr × Obj)} {σ : St} {H : Hp} {s : Shared} {R : Addr → St → Hp → Prop}
theorem cxOk_pn {Y : Cx} {pn : List (Addr × Obj)} {xe : Value → Shared → Prop} (o : Y.Ok) : Cx.Ok { Y with pn := pn, xe := xe } := ⟨o.mod, o.kind, o.glob, o.blt, o.above, o.inj, o.has, o.cab, o.hd, o.frames, o.stk, o.exf, o.bs, o.bsz, o.noex, o.exfs, o.funs, o.frf⟩
theorem Inv.toP {xe : Value → Shared → Prop} (I : Inv X pins σ H s) : Inv { X with pn := X.pn ++ pins, xe := xe } [] σ H s :=
  ⟨cxOk_pn I.ok, I.os, I.bare, I.base, I.loc, I.cell, I.free, I.freeC, fun p hp => I.pin p (by simpa using hp), I.hok, I.len⟩
theorem Inv.ofP {xe : Value → Shared → Prop} (I : Inv { X with pn := X.pn ++ pins, xe := xe } pins' σ H s) : Inv X pins σ H s := by
  have o := cxOk_pn (pn := X.pn) (xe := X.xe) I.ok
  exact ⟨o, I.os, I.bare, I.base, I.loc, I.cell, I.free, I.freeC, fun p hp => I.pin p (List.mem_append_left _ hp), I.hok, I.len⟩
theorem passT : PassesS (CX1 X.prog X.w) (cxT X pins R) (XE R) := by
  intro pins' σ H s e s' I h
  have o := cxOk_pn (pn := X.pn ++ pins) (xe := X.xe) I.ok
  exact ⟨pins', σ, H, s, ⟨o, I.os, I.bare, I.base, I.loc, I.cell, I.free, I.freeC, I.pin, I.hok, I.len⟩, h⟩
end
theorem ObjOk.there {P : Program} {w : World} {H : Hp} {h : Heap} {a : Addr} {o : HO} (x : ObjOk P w H h a o) : ∃ ob, h.get? a = some ob := by
  cases o with
  | lst xs => obtain ⟨_, _, _, _, e⟩ := x; exact ⟨_, e⟩
  | tup xs => obtain ⟨_, _, _, ob, e, _⟩ := x; exact ⟨ob, e⟩
  | dK kvs => obtain ⟨_, _, _, _, ob, _, _, e, _⟩ := x; exact ⟨ob, e⟩
  | dT kvs => obtain ⟨_, _, _, _, ob, _, _, e, _⟩ := x; exact ⟨ob, e⟩
  | set S n => obtain ⟨ob, _, _, _, e, _⟩ := x; exact ⟨ob, e⟩
  | ins C dx fs => obtain ⟨_, _, _, e, _⟩ := x; exact ⟨_, e⟩
  | own y => exact x
  | xd fs => obtain ⟨_, ⟨ob, _, _, e, _⟩, _⟩ := x; exact ⟨ob, e⟩
  | rng lo hi => obtain ⟨_, _, _, e⟩ := x; exact ⟨_, e⟩
  | frz ob u => obtain ⟨e, _⟩ := x; exact ⟨_, e⟩
  | tbl ps => exact ⟨_, x⟩
  | met f y => exact ⟨_, x⟩
  | ext φ => exact x.2.1
section
variable {X : Cx} {pins : List (Addr × Obj)} {σ : St} {H : Hp} {s : Shared}
/-- an object that was not tracked is, from here on -/
theorem Inv.track {x : Addr} {o : HO} (I : Inv X pins σ H s) (hn : H x = none) (h0 : X.s₀.heap.get? x = none) (hL : X.env.locals ≠ x) (hc : ∀ y c, X.env.cells.lookup y = some c → c ≠ x) (hp : ∀ p ∈ X.pn ++ pins, p.1 ≠ x)
    (ok : ObjOk X.prog X.w (upd H x o) s.heap x o) : Inv X pins σ (upd H x o) s := by
  have ne : ∀ b u, H b = some u → b ≠ x := fun b u e z => by rw [z, hn] at e; cases e
  refine ⟨I.ok, I.os, I.bare, ⟨I.base.keep, I.base.slot, fun b ob e n hx => ?_, I.base.there, fun b xs e => ?_, fun b ob xs e => ?_, fun b ps e => ?_⟩, I.loc, I.cell, ?_, fun y c e => ?_, fun p hq => ?_, fun b ob e => ?_, I.len⟩
  · rw [upd_ne (fun z => by rw [z, h0] at e; cases e)]
    exact I.base.free b ob e n hx
  · have q := I.base.tups b xs e
    rw [upd_ne (ne b _ q)]; exact q
  · have q := I.base.frzs b ob xs e
    rw [upd_ne (ne b _ q)]; exact q
  · obtain ⟨m1, q⟩ := I.base.tbls b ps e
    exact ⟨m1, by rw [upd_ne (ne b _ q)]; exact q⟩
  · rw [upd_ne hL]; exact I.free
  · rw [upd_ne (hc y c e)]; exact I.freeC y c e
  · obtain ⟨a1, a2, a3⟩ := I.pin p hq
    exact ⟨a1, by rw [upd_ne (hp p hq)]; exact a2, a3⟩
  · by_cases hb : b = x
    · subst hb
      rw [upd_same] at e
      cases e
      exact ok
    · rw [upd_ne hb] at e
      refine (I.hok b ob e).stay (fun c v hcc q => q) (fun c q => ?_) fun c xs q => ?_
      · rw [upd_ne (ne c _ q)]; exact q
      · rw [upd_ne (ne c _ q)]; exact q
/-- behind an except suite its name goes -/
theorem Inv.goes {M : Model} {A : Around} {E : Value → Shared → Prop} {n : Str} {pos : Pos} {j : Nat} {Q : Unit → Shared → Prop} (I : Inv X pins σ H s) (hN : X.N.Nodup) (hj : X.N[j]? = some n) (hn : X.env.kindOf n = some .local)
    (h : ∀ s', Inv X pins (σ.set j none) H s' → Q () s') : wpAny M A (do bindName X.env n .none; unbindBehindTheSuite X.env n pos) Q E s := by
  obtain ⟨m, hm, hl⟩ := id I.loc
  refine wpAny_nameGoes_keeps hn hm (by rw [I.ok.kind]; rfl) fun h' v hm' sb => h _ ?_
  have old : ∀ b o, X.s₀.heap.get? b = some o → b ≠ X.env.locals := fun b o e => Nat.ne_of_lt (Nat.lt_of_lt_of_le (Heap.lt_size e) I.ok.above)
  refine ⟨I.ok, I.os, I.bare, ⟨fun b o e n hb hx => (sb.2 b (old b o e)).trans (I.base.keep b o e n hb hx), fun b o e n hb hx => ?_, I.base.free, fun b o e hx => ?_, I.base.tups, I.base.frzs, I.base.tbls⟩, ⟨_, hm', fun i y v' e1 e2 e3 => ?_⟩, fun y c e => ?_, I.free, I.freeC, fun p hp => ?_, HOk.sameBut I.hok I.free sb, by rw [List.length_set]; exact I.len⟩
  · obtain ⟨sl, q⟩ := I.base.slot b o e n hb hx
    exact ⟨sl, (sb.2 b (old b o e)).trans q⟩
  · obtain ⟨o', q⟩ := I.base.there b o e hx
    exact ⟨o', (sb.2 b (old b o e)).trans q⟩
  · have hij : i ≠ j := fun z => by
      subst z
      have hlt : i < σ.length := by rw [I.len]; exact (List.getElem?_eq_some_iff.mp hj).1
      rw [List.getElem?_set_self hlt] at e2
      cases e2
    rw [List.getElem?_set_ne (Ne.symm hij)] at e2
    obtain ⟨u, r, lk⟩ := hl i y v' e1 e2 e3
    refine ⟨u, r, ?_⟩
    rcases lk with ⟨k1, k2⟩ | ⟨k1, c, k2, oc, k3, k4⟩
    · refine .inl ⟨k1, ?_⟩
      have : y ≠ n := fun z => hij (nodup_ix hN e1 (by rw [z]; exact hj))
      show (if y = n then v else m y) = some u
      rw [if_neg this]; exact k2
    · exact .inr ⟨k1, c, k2, oc, (sb.2 c (I.cne y c k2)).trans k3, k4⟩
  · obtain ⟨v', oc, k3, k4⟩ := I.cell y c e
    exact ⟨v', oc, (sb.2 c (I.cne y c e)).trans k3, k4⟩
  · obtain ⟨a1, a2, a3, a4⟩ := I.pin p hp
    exact ⟨(sb.2 p.1 a3).trans a1, a2, a3, a4⟩
end
def tTry (K : PySem.W.Frag) (C0 : Addr) (j : Nat) (R : Addr → St → Hp → Prop) (tb th : TS) : TS := fun D σ H => tb D σ H ∧ ∀ C σ' H' x, R C σ' H' → H' x = none → exmOne K (.ref C) (.ref C0) = some true ∧
  th { nx := fun σ2 H2 => D.nx (σ2.set j none) H2, rt := D.rt, bk := fun σ2 H2 => D.bk (σ2.set j none) H2, ct := fun σ2 H2 => D.ct (σ2.set j none) H2 } (σ'.set j (some (.ref x))) (upd H' x (ExcO x C))
section
variable {X : Cx} {body : List Stmt} {b₀ : Stmt} {suite : List Stmt} {c n : Str} {np hpos pos : Pos} {C0 : Addr} {j : Nat} {R : Addr → St → Hp → Prop} {tb th : TS}
theorem ps_try (hc : X.calm = true) (hex0 : X.ex = []) (hst : X.stack = X.env :: X.outer) (hfr : X.env.frame = some X.env.locals) (hN : X.N.Nodup) (hj : X.N[j]? = some n) (hn : X.env.scope.names.lookup n = some .local) (hg : Gl X c) (hm : X.mg c = some (.ref C0))
    (hb : ∀ pins, PSs (cxT X pins R) body tb) (hs : ∀ A' : Around, A'.depth = X.A.depth → A'.units = X.A.units → PSs (cxH X A').nox (b₀ :: suite) th) (hdb : (c == ("__debug__" : Str)) = false := by decide) :
    PS X (.Try body [.ExceptHandler (some (.Name c np)) (some n) (b₀ :: suite) hpos] [] [] pos) (tTry X.K C0 j R tb th) := by
  intro pins s σ H D I h
  refine wpAny_Try_except (wpAny_mono (hb pins [] s σ H D I.toP h.1) (fun f s1 q => ?_) fun e s' q => ?_)
  · cases f with
    | next =>
      obtain ⟨σ', H', J, q⟩ := q
      exact wpAny_execs_nil ⟨σ', H', J.ofP, q⟩
    | brk => obtain ⟨σ', H', J, q⟩ := q; exact ⟨σ', H', J.ofP, q⟩
    | cont => obtain ⟨σ', H', J, q⟩ := q; exact ⟨σ', H', J.ofP, q⟩
    | ret u => obtain ⟨v, σ', H', J, r, q⟩ := q; exact ⟨v, σ', H', J.ofP, r, q⟩
  · obtain ⟨pins', σ1, H1, s1, I1, x, C, a0, B, H', rfl, ho, hga, u, hok, kb, kt, fl, C', eC, hR⟩ := q
    cases eC
    have I1 : Inv X pins σ1 H1 s1 := Inv.ofP (xe := X.xe) I1
    have fl' : Heap.FlyingW B (X.env :: X.outer) x (.ref C) a0 s'.heap := by rw [← hst]; exact fl
    have hfr' : X.A.frames = some (X.env :: X.outer) := by rw [← hst]; exact I1.ok.frames
    refine wpAny_looks_onW (L := X.env.locals) hfr' hfr fl' fun h4 held4 sm4 => ?_
    refine wpAny_landsW held4 fun h5 fl5 sm5 => ?_
    have sm : s'.heap.UpToSlots h5 := sm4.trans sm5
    have mk : ∀ {h6 : Heap}, Heap.FlyingW B (X.env :: X.outer) x (.ref C) a0 h6 → s'.heap.UpToSlots h6 → Inv X pins σ1 H' { s' with heap := h6 } := fun {h6} f6 m6 =>
      I1.call' (s' := { s' with heap := h6 }) (ch := []) ho (u.fly I1.frs_ok kb kt f6.1 m6) (hok.kept f6.1) hga (fun b hb => by cases hb)
    have I5 := mk fl5 sm
    have isx : ∀ {h6 : Heap}, Heap.FlyingW B (X.env :: X.outer) x (.ref C) a0 h6 → IsExc h6 x C := fun {h6} f6 => by
      obtain ⟨oe, vs, e1, e2, e3, _⟩ := f6.first
      exact ⟨oe, e1, e2, by unfold notCls; rw [e3]⟩
    have hx' : H' x = none := by
      cases hq : H' x with
      | none => rfl
      | some ob =>
        obtain ⟨ob', z⟩ := (hok x ob hq).there
        rw [fl.2.1] at z
        cases z
    obtain ⟨hex, hth⟩ := h.2 C σ1 H' x hR hx'
    refine wpAny_handleBy_cons (codeAny_handlers_test ?_) (by intro q; cases q)
    refine ld_glob (X := cxH X (X.A.mark (some (.ref x)))) (I5.toH I5.ok.frames) hg hm ?_ hdb
    refine (exm_one (M := model X.prog X.w) I5.kIn (isx fl5).type hex).here ?_
    refine codeAny_handlers_suite_as ?_
    refine lands_againW fl5 fun h6 fl6 sm6 => ?_
    have I6 := mk fl6 (sm.trans sm6)
    obtain ⟨oe, vs, e1, e2, e3, _⟩ := fl6.first
    have nfr : x ∉ frs X.stack := fun hz => by
      rw [hst] at hz
      obtain ⟨_, o', e', d⟩ := fl6.2.2.1.mem hz
      rw [e1] at e'
      cases e'
      exact d vs e3
    have I7 : Inv X pins σ1 (upd H' x (ExcO x C)) { s' with heap := h6 } := by
      refine I6.track hx' ?_ ?_ (fun y c e z => ?_) (fun p hp z => ?_) (ExcO.ok (isx fl6))
      · cases hq : X.s₀.heap.get? x with
        | none => rfl
        | some o =>
          obtain ⟨o1, q1⟩ := I1.base.there x o hq (by rw [hex0]; simp)
          obtain ⟨o2, q2⟩ := kt x o1 q1 nfr
          rw [fl.2.1] at q2
          cases q2
      · intro z
        obtain ⟨m, ⟨o', es, ep, q1, q2, _⟩, _⟩ := I6.loc
        have q1 : h6.get? X.env.locals = some o' := q1
        rw [z, e1] at q1
        cases q1
        rw [e3] at q2
        cases q2
      · obtain ⟨v, o', q1, q2⟩ := I6.cell y c e
        have q1 : h6.get? c = some o' := q1
        rw [z, e1] at q1
        cases q1
        rw [e3] at q2
        cases q2
      · obtain ⟨a1, a2, a3, a4, _⟩ := I1.pin p hp
        have q := kb p.1 p.2 a1 a2 fun hz => by
          rcases List.mem_cons.mp (I1.stkSub _ hz) with y | y
          · exact a3 y
          · exact a4 y
        rw [z, fl.2.1] at q
        cases q
    have I8 : Inv (cxH X (X.A.mark (some (.ref x)))).nox pins σ1 (upd H' x (ExcO x C)) { s' with heap := h6 } := (I7.toH (A := X.A.mark (some (.ref x))) I7.ok.frames).wish _
    refine store_ok (X := (cxH X (X.A.mark (some (.ref x)))).nox) (v := .ref x) I8 hN hj (.inl hn) rfl (fun s7 I9 => ?_) (.inr hn)
    refine wpAny_mono (hs (X.A.mark (some (.ref x))) rfl rfl pins s7 _ _ _ I9 hth) (fun f s8 q => ?_) fun _ _ z => z.elim
    have back : ∀ {σ2 : St} {H2 : Hp}, Inv (cxH X (X.A.mark (some (.ref x)))).nox pins σ2 H2 s8 → Inv X pins σ2 H2 s8 := fun J => Inv.ofH (A := X.A.mark (some (.ref x))) J.unwish I1.ok.hd I1.ok.frames
    cases f with
    | next => obtain ⟨σ2, H2, J, q⟩ := q; exact (back J).goes hN hj hn fun s9 J9 => ⟨_, H2, J9, q⟩
    | brk => obtain ⟨σ2, H2, J, q⟩ := q; exact (back J).goes hN hj hn fun s9 J9 => ⟨_, H2, J9, q⟩
    | cont => obtain ⟨σ2, H2, J, q⟩ := q; exact (back J).goes hN hj hn fun s9 J9 => ⟨_, H2, J9, q⟩
    | ret u => obtain ⟨v, σ2, H2, J, r, q⟩ := q; exact (back J).goes hN hj hn fun s9 J9 => ⟨v, _, H2, J9, r, q⟩
end
end L2

set_option Elab.async false
set_option linter.all false
set_option maxRecDepth 100000
set_option maxHeartbeats 1000000
namespace L2
open PySem PySem.Spec PySem.Calls PyProof.Rows PySem.W

/-! ### small things -/
structure MethAt (K : PySem.W.Frag) (x qual : Str) (st : Stmt) (ps : List Str) (f : Addr) (fd : FuncData) : Prop where
  fn : Fun K x qual st f fd
  bd : Binds K fd ps []
theorem nd1 (x : Str) : [x].Nodup := List.nodup_cons.mpr ⟨by simp, List.nodup_nil⟩
theorem bt_ValueError : bootBuiltins "ValueError" = some (.type "ValueError") := by decide +kernel
/-- the callee's promise leaves no way for an exception -/
theorem passN {P : Program} {w : World} {X : Cx} : Passes (CX1 P w) X E0 := fun _ _ _ _ _ _ _ h => by
  obtain ⟨_, _, _, _, _, _, _, _, _, _, _, _, _, q⟩ := h
  exact q.elim
/-! ### texts with fields -/
abbrev TJ := St → Hp → Str → (Str → Hp → Prop) → Prop
def PJ (X : Cx) (es : List Expr) (t : TJ) : Prop :=
  ∀ (pins : List (Addr × Obj)) (s : Shared) (σ : St) (H : Hp) (out : Str) (Q : Str → Hp → Prop), Inv X pins σ H s → t σ H out Q →
    wpAny (model X.prog X.w) X.A (joinParts out (evalEach es X.env)) (EP X pins σ fun v H' => ∃ z, v = .str z ∧ Q z H') X.xe s
def tJnil : TJ := fun _ H out Q => out.length ≤ sizeLine ∧ Q out H
def tJstr (y : Str) (t : TJ) : TJ := fun σ H out Q => (out ++ y).length ≤ sizeLine ∧ t σ H (out ++ y) Q
def tJint (tv : TE) (t : TJ) : TJ := fun σ H out Q => tv σ H fun x H1 => ∃ i : Int, x = .int i ∧ i.natAbs.log2 < 1920 ∧ (out ++ Str.ofString (toString i)).length ≤ sizeLine ∧ t σ H1 (out ++ Str.ofString (toString i)) Q
def tJ (t : TJ) : TE := fun σ H Q => t σ H Str.empty fun z H' => Q (.str z) H'
section
variable {X : Cx} {es : List Expr} {t : TJ} {v : Expr} {tv : TE} {y : Str} {j p pos}
theorem pj_nil : PJ X [] tJnil := fun _ s σ H out Q I w => joinParts_nil ⟨.str out, H, I.tok _, ⟨_, rfl⟩, out, rfl, w.2⟩ w.1
theorem pj_str (h : PJ X es t) : PJ X (.Constant (.str y) j p :: es) (tJstr y t) := by
  intro pins s σ H out Q I w
  refine joinParts_cons (Calls.Constant_str ?_)
  exact ⟨w.1, h pins _ σ H _ Q (I.tok _) w.2⟩
theorem pj_int (hv : PE X v tv) (h : PJ X es t) : PJ X (.FormattedValue v (-1) none p :: es) (tJint tv t) := by
  intro pins s σ H out Q I w
  refine joinParts_cons (FormattedValue_plain (thn (hv pins s σ H _ I w) fun u s1 ⟨x, H1, I1, r, i, ex, hl, hz, q⟩ => ?_))
  subst ex
  obtain ⟨tk, rfl⟩ := r
  exact wpAny_formatField_int hl ⟨hz, h pins _ σ H1 _ Q (I1.tok _) q⟩
theorem pe_fstr {e1 e2 : Expr} (h : PJ X (e1 :: e2 :: es) t) : PE X (.JoinedStr (e1 :: e2 :: es) pos) (tJ t) := by
  intro pins s σ H Q I w
  refine JoinedStr_many (thn (h pins s σ H Str.empty _ I w) fun u s1 ⟨x, H1, I1, r, z, ez, q⟩ => ?_)
  subst ez
  exact ⟨.str z, H1, I1, r, q⟩
end

/-! ### all of a list of bools -/
theorem range_all {bs : List Bool} : (List.range bs.length).all (fun i => bs.getD i false) = bs.all id := by
  rw [Bool.eq_iff_iff, List.all_eq_true, List.all_eq_true]
  constructor
  · intro h b hb
    obtain ⟨i, hi, rfl⟩ := List.getElem_of_mem hb
    have := h i (List.mem_range.mpr hi)
    rw [List.getD_eq_getElem?_getD, List.getElem?_eq_getElem hi] at this
    exact this
  · intro h i hi
    have hi := List.mem_range.mp hi
    rw [List.getD_eq_getElem?_getD, List.getElem?_eq_getElem hi]
    exact h _ (List.getElem_mem hi)
section
variable {X : Cx}
theorem call_all (hc : X.calm = true) : CallR X (.builtin "all") (fun xs H Q => ∃ (p : Addr) (bs : List Bool), xs = [.ref p] ∧ SqL X.K H p (bs.map V.bl) ∧ Q (.bl (bs.all id)) H) := by
  intro pins s σ H xs us Q I r h
  obtain ⟨p, bs, rfl, hS, q⟩ := h
  obtain ⟨u, rfl, ru⟩ := vals1 r
  cases ru
  obtain ⟨its, rv, pl, hz⟩ := I.list hS
  have hl : s.heap.IsList p its.toArray := pl.isList
  have hlen : its.length = bs.length := by rw [← rv.length, List.length_map]
  obtain ⟨op, hop, _⟩ := id hl
  have hne : p ≠ s.heap.objs.size := Nat.ne_of_lt (Heap.lt_size hop)
  refine call_all_walk (wpAny_pyIter_list hl ?_)
  refine ⟨s.heap.objs.size, _, _, _, _, _, fun i => bs.getD i false, rfl, Walks.list (prog := X.prog) (w := X.w) (A := X.A.in1) (I.ok.hd hc) s.heap.objs.size p hne its.toArray, ⟨⟨_, Heap.get?_push_size _ rfl, rfl, rfl⟩, hl.at fun o e => Heap.get?_push_of_some _ e⟩, ?_, fun h' tk hk => ?_⟩
  · intro i v s' Q' E' hv hq
    have hv : its[i]? = some v := by simpa using hv
    have hi : i < bs.length := by rw [← hlen]; exact (List.getElem?_eq_some_iff.mp hv).1
    obtain ⟨v', e', rr⟩ := rv.get (i := i) (x := .bl bs[i]) (by rw [List.getElem?_map, List.getElem?_eq_getElem hi]; rfl)
    rw [hv] at e'
    cases e'
    cases rr
    have e : bs.getD i false = bs[i] := by rw [List.getD_eq_getElem?_getD, List.getElem?_eq_getElem hi]; rfl
    have hq : Q' (bs.getD i false) s' := hq
    rw [e] at hq
    exact wpAny_truthy_bool hq
  · have e : (List.range its.toArray.size).all (fun i => bs.getD i false) = bs.all id := by rw [List.size_toArray, hlen]; exact range_all
    rw [e]
    refine ⟨.bl _, H, I.kept (t' := tk) fun b o eb => ?_, rfl, q⟩
    exact hk b o (by simpa using Nat.ne_of_lt (Heap.lt_size eb)) (Heap.get?_push_of_some _ eb)
end

/-! ### list(reversed(xs)) -/
theorem lri_nolen : typeLookup (.type "list_reverseiterator") "__len__" = pure none := by
  rw [typeLookup_type, builtinLookup_eq_fast]
  kernel_rfl
theorem lri_hint : typeLookup (.type "list_reverseiterator") "__length_hint__" = pure (some (.builtin "list_reverseiterator.__length_hint__")) := by
  rw [typeLookup_type, builtinLookup_eq_fast]
  kernel_rfl
theorem lri_self : isSubtype (.type "list_reverseiterator") (.type "list_reverseiterator") = pure true := by
  rw [isSubtype_type]
  kernel_rfl
section
variable {prog : Program} {w : World} {A : Around} {s : Shared} {R : Result → Shared → Prop} {S I l : Addr} {items : Array Value}
theorem ext_rev {c₀ : Nat} (hh : A.handled = none) (hl : s.heap.IsList l items) (hi : s.heap.IsRevIter I l ((items.size : Int) - 1)) (n1 : l ≠ I) (n2 : S ≠ I) (n3 : S ≠ l) (hz : items.size ≤ sizeLine) (hS : s.heap.get? S = some { cls := .type "list", data := .seq #[] c₀ })
    (hR : ∀ s' acc c', Moved [S, I] (fun a b => b = a) s s' → s'.heap.get? S = some { cls := .type "list", dict := none, data := .seq acc c', slots := #[] } → ItemsOf (fun i v => items[items.size - 1 - i]? = some v) acc items.size → R (.ok (.ret .none)) s') :
    wpAny (model prog w) A.in1 (Builtin.List.listExtendWith (.ref S) (.ref I) .none)
      (fun fin s' => match fin with | .done f => R (.ok f) s' | .again c' => c'.quiet = true ∧ codeAny (model prog w) A c' R s') (fun e s' => R (.error e) s') s := by
  have st0 : 0 ≤ items.size ∧ s.heap.IsRevIter I l ((items.size : Int) - 1 - ((0 : Nat) : Int)) ∧ s.heap.IsList l items := ⟨Nat.zero_le _, by simpa using hi, hl⟩
  have e1 : Builtin.List.listSameRef (.ref S) (.ref I) = false := by simp [Builtin.List.listSameRef, n2]
  unfold Builtin.List.listExtendWith
  refine wpAny_bind (wpAny_typeOf hi.typeIs ?_)
  rw [if_neg (by rw [e1]; decide)]
  refine wpAny_bind (wpAny_pyIter_revIter hi (wpAny_bind (wpAny_holding ?_)))
  unfold Builtin.List.listLengthHint
  refine wpAny_bind (wpAny_specialOf hi.typeIs lri_nolen ?_)
  show wpAny _ A.in1 (specialOf (.ref I) (Str.ofString "__length_hint__") >>= _) _ _ _
  refine wpAny_bind (wpAny_specialOf hi.typeIs lri_hint ?_)
  generalize hq : ("list_reverseiterator.__length_hint__" : String) = q0
  wp_delta
  rw [show splitId q0 = some ("list_reverseiterator", "__length_hint__") from by subst hq; decide +kernel]
  subst hq
  refine wpAny_bind (wpAny_isInstance (b := true) hi.typeIs lri_self (wpAny_pure ?_))
  rw [if_neg (by decide)]
  exact wpAny_pure ⟨plainId_quiet PySem.F.plain_extend_loop _, codeAny_extend_loopS (Walks.listRev (prog := prog) (w := w) (A := A.in1) hh I l n1 items).toS hz S (by simp [n2, n3]) .none items.size 0 s #[] c₀ rfl (Nat.zero_le _) st0 hS (ItemsOf.nil _) hR⟩
theorem call_rev {E : Value → Shared → Prop} {Q : Value → Shared → Prop} (hh : A.handled = none) (hl : s.heap.IsList l items) (hi : s.heap.IsRevIter I l ((items.size : Int) - 1)) (n1 : l ≠ I) (hz : items.size ≤ sizeLine)
    (hQ : ∀ h' tk acc c', (∀ b o, b ≠ I → s.heap.get? b = some o → h'.get? b = some o) → h'.get? s.heap.objs.size = some { cls := .type "list", dict := none, data := .seq acc c', slots := #[] } →
      ItemsOf (fun i v => items[items.size - 1 - i]? = some v) acc items.size → Q (.ref s.heap.objs.size) { s with heap := h', toks := tk }) : wpAny (model prog w) A (call (.type "list") [.ref I]) Q E s := by
  obtain ⟨oI, hoI, _⟩ := id hi
  obtain ⟨ol, hol, _⟩ := id hl
  have nI := Nat.ne_of_lt (Heap.lt_size hoI)
  have nl := Nat.ne_of_lt (Heap.lt_size hol)
  refine callType_codes (Q₁ := fun v z => v = .ref s.heap.objs.size ∧ z = { s with heap := s.heap.push { cls := .type "list", data := .seq #[] } }) PySem.F.called_list (PySem.F.typeCall_list_1 _) PySem.F.entry_list_init (code_list_new _ ⟨rfl, rfl⟩) ?_
  rintro _ _ ⟨rfl, rfl⟩
  generalize hz1 : ({ s with heap := s.heap.push { cls := .type "list", data := .seq #[] } } : Shared) = z1
  have eh : z1.heap = s.heap.push { cls := .type "list", data := .seq #[] } := by rw [← hz1]
  have g0 : z1.heap.get? s.heap.objs.size = some { cls := .type "list", data := .seq #[] } := by rw [eh]; exact Heap.get?_push_size _ rfl
  have up : ∀ b o, s.heap.get? b = some o → z1.heap.get? b = some o := fun b o e => by rw [eh]; exact Heap.get?_push_of_some _ e
  refine ⟨⟨_, g0, rfl⟩, PySem.F.args_list_init_2 _ _, ?_⟩
  show wpAny _ _ (do
    let old ← Builtin.List.listItems (.ref s.heap.objs.size)
    Builtin.List.listUpdate (.ref s.heap.objs.size) (fun _ => #[])
    letGo old.toList.reverse
    Builtin.List.listExtendWith (.ref s.heap.objs.size) (.ref I) .none) _ _ z1
  refine wpAny_bind ?_
  unfold Builtin.List.listItems
  refine wpAny_bind (wpAny_seqItems g0 rfl (wpAny_pure ?_))
  show wpAny _ _ (updateSeq s.heap.objs.size (fun _ => #[]) >>= fun _ =>
    letGo (#[] : Array Value).toList.reverse >>= fun _ => Builtin.List.listExtendWith (.ref s.heap.objs.size) (.ref I) .none) _ _ z1
  refine wpAny_bind (wpAny_updateSeq g0 rfl (wpAny_bind (wpAny_letGo ?_)))
  have g1 := Heap.get?_update_self (Obj.mapSeq fun _ => (#[] : Array Value)) g0 rfl
  have up1 : ∀ b o, s.heap.get? b = some o → (z1.heap.update s.heap.objs.size (Obj.mapSeq fun _ => (#[] : Array Value))).get? b = some o := fun b o e =>
    (Heap.get?_update_other _ _ (Ne.symm (Nat.ne_of_lt (Heap.lt_size e)))).trans (up b o e)
  refine ext_rev (A := A.in1) hh (hl.at fun o e => up1 _ _ e) (hi.at fun o e => up1 _ _ e) n1 (Ne.symm nI) (Ne.symm nl) hz g1 fun s' acc c' hm hS' ha => ⟨rfl, ?_⟩
  have es := hm.eq_with
  rw [es]
  have key : Q (.ref s.heap.objs.size) { s with heap := s'.heap, toks := s'.toks } := by
    refine hQ s'.heap s'.toks acc c' (fun b o hb e => hm.heap b o (fun hx => ?_) (up1 b o e)) hS' ha
    rcases List.mem_cons.mp hx with z | z
    · exact Nat.ne_of_lt (Heap.lt_size e) z
    · exact hb (List.mem_singleton.mp z)
  rw [← hz1]
  exact key
end
theorem Vals.rev : ∀ {xs : List V} {us : List Value}, Vals xs us → Vals xs.reverse us.reverse
  | _, _, .nil => .nil
  | _, _, .cons r t => by
    rw [List.reverse_cons, List.reverse_cons]
    exact (Vals.rev t).append (.cons r .nil)
theorem rev_items {its : List Value} {acc : Array Value} (h : ItemsOf (fun i v => its.toArray[its.toArray.size - 1 - i]? = some v) acc its.toArray.size) : acc.toList = its.reverse := by
  have h1 : acc.size = its.length := h.1.trans List.size_toArray
  have h2 := h.2
  refine List.ext_getElem? fun i => ?_
  by_cases hi : i < its.length
  · have ha : i < acc.size := by omega
    have q := h2 i acc[i] (Array.getElem?_eq_getElem ha)
    rw [List.getElem?_reverse hi, Array.getElem?_toList, Array.getElem?_eq_getElem ha, ← q]
    simp
  · rw [List.getElem?_eq_none (by rw [Array.length_toList]; omega), List.getElem?_eq_none (by rw [List.length_reverse]; omega)]
section
variable {X : Cx}
def tRev (K : Frag) (te : TE) : TE := fun σ H Q => te σ H fun x H1 => ∃ (p : Addr) (ys : List V), [x] = [.ref p] ∧ SqL K H1 p ys ∧ ∀ l, H1 l = none → Q (.ref l) (upd H1 l (.lst ys.reverse))
theorem pe_list_rev {e : Expr} {te : TE} {p1 p2 pl pr : Pos} (hc : X.calm = true) (hgl : Gl X "list") (hml : X.mg "list" = none) (hgr : Gl X "reversed") (hmr : X.mg "reversed" = none) (he : PE X e te)
    (s1 : starEach [.Call (.Name "reversed" p2) [e] [] pr] X.env = (false, eval (.Call (.Name "reversed" p2) [e] [] pr) X.env) :: starEach [] X.env := by rfl) (s2 : starEach [e] X.env = (false, eval e X.env) :: starEach [] X.env := by rfl)
    (z1 : (backTo pl (starEach [] X.env)).any (·.1) = false := by rfl) (z2 : (backTo pr (starEach [] X.env)).any (·.1) = false := by rfl) :
    PE X (.Call (.Name "list" p1) [.Call (.Name "reversed" p2) [e] [] pr] [] pl) (tRev X.K te) := by
  intro pins s σ H Q I h
  refine wpAny_Call_Name_kw (ld_blt I hgl hml bt_list ?_)
  refine PyProof.Rows.callWith_type1 ?_ s1 z1
  rw [s1]
  show wpAny _ _ (spliced ((false, eval (.Call (.Name "reversed" p2) [e] [] pr) X.env) :: backTo pl (starEach [] X.env))) _ _ s
  refine Calls.spliced_cons ?_
  refine wpAny_Call_Name_kw (ld_blt I hgr hmr bt_reversed ?_)
  refine PyProof.Rows.callWith_type1 (thn (pa_cons he pa_nil s2 pr pins s σ H (fun vs H1 => ∃ (p : Addr) (ys : List V), vs = [.ref p] ∧ SqL X.K H1 p ys ∧ ∀ l, H1 l = none → Q (.ref l) (upd H1 l (.lst ys.reverse))) I ?_) fun us s3 ⟨vs, H1, I1, r1, p, ys, ev, hS, q⟩ => ?_) s2 z2
  · exact h
  subst ev
  obtain ⟨u, rfl, ru⟩ := vals1 r1
  cases ru
  obtain ⟨its, rv, pl', hz⟩ := I1.list hS
  obtain ⟨op, hop, _⟩ := id pl'.isList
  have np : p ≠ s3.heap.objs.size := Nat.ne_of_lt (Heap.lt_size hop)
  refine call_reversed_list pl'.isList (Calls.spliced_nil ?_)
  refine call_rev (A := X.A) (I := s3.heap.objs.size) (l := p) (items := its.toArray) (I1.ok.hd hc) (pl'.isList.at fun o eo => Heap.get?_push_of_some _ eo) ⟨_, Heap.get?_push_size _ rfl, rfl, rfl⟩ np (by rw [List.size_toArray, ← rv.length]; exact hz) fun h' tk acc c' hk hD ha => ?_
  refine ⟨.ref _, _, I1.laid (t' := tk) (o := .lst ys.reverse) (fun b o eb => hk b o (Nat.ne_of_lt (Heap.lt_size eb)) (Heap.get?_push_of_some _ eb)) (by rw [Heap.size_push]; exact Nat.le_succ _) ?_, rfl, q _ (I1.hok.fresh (by rw [Heap.size_push]; exact Nat.le_succ _))⟩
  refine ⟨by rw [List.length_reverse]; exact hz, its.reverse, c', rv.rev, ?_⟩
  rw [hD, ← rev_items ha, Array.toArray_toList]
end
end L2

set_option Elab.async false
set_option linter.all false
set_option maxRecDepth 100000
set_option maxHeartbeats 1000000
namespace L2
open PySem PySem.Spec PyProof.Rows

/-! ### heaps that grow -/
theorem Same.updN {H H' : Hp} {l : Addr} {o : HO} (s : Same H H') (n : H l = none) : Same H (L2.upd H' l o) := fun b u e => by
  rw [upd_ne (ne_of_none e n)]; exact s b u e
theorem Same.of_upd {H H2 : Hp} {p : Addr} {o : HO} (h : L2.upd H p o = H2) (n : H p = none) : Same H H2 := h ▸ Same.upd n
theorem get_of_upd {H H2 : Hp} {p : Addr} {o : HO} (h : upd H p o = H2) : H2 p = some o := h ▸ upd_same
theorem Same.of_updN {H H1 H2 : Hp} {p : Addr} {o : HO} (h : L2.upd H1 p o = H2) (s : Same H H1) (n : H p = none) : Same H H2 := h ▸ s.updN n
theorem keep_of_upd {H H2 : Hp} {p b : Addr} {o u : HO} (h : upd H p o = H2) (hb : b ≠ p) (e : H b = some u) : H2 b = some u := by
  rw [← h, upd_ne hb]; exact e
/-- a step taken by a term alone: what a lemma says of every heap behind -/
theorem alloc {H1 : Hp} {o : HO} {F : Addr → Hp → Prop} (h : ∀ p H2, Same H1 H2 → H1 p = none → H2 p = some o → F p H2) (p : Addr) (hp : H1 p = none) : F p (upd H1 p o) := h p _ (Same.upd hp) hp upd_same
theorem roomH {k : Nat} {A A' : Around} (r : Room k A) (h1 : A'.depth = A.depth) (h2 : A'.units = A.units) : RoomH k A' := ⟨by rw [h1]; exact r.dp, by rw [h2]; exact r.un⟩

/-- isinstance of a tuple of the heap or of the text -/
theorem call_isiT {X : Cx} : CallR X (.builtin "isinstance") (fun xs H Q => ∃ p ys n b, xs = [.ref p, .ty n] ∧ SqT X.K H p ys ∧ PySem.W.kitOne X.K (.type "tuple") (.type n) = some b ∧ Q (.bl b) H) := by
  intro pins s σ H xs us Q I r h
  obtain ⟨p, ys, n, b, rfl, hS, e, q⟩ := h
  obtain ⟨u, w', rfl, ru, rw'⟩ := vals2 r
  cases rw'
  cases ru
  have key : ∃ o, s.heap.get? p = some o ∧ o.cls = .type "tuple" := by
    rcases hS with hS | ⟨o, its, n, ho, hc, _⟩
    · obtain ⟨_, its, rv, o, e, hc, n, hd⟩ := (show ObjOk X.prog X.w H s.heap p (.tup ys) from hS.ok I.hok)
      exact ⟨o, e, hc⟩
    · exact ⟨o, I.kIn _ _ ho, hc⟩
  obtain ⟨o, h1, h2⟩ := key
  exact PySem.W.kia_one PySem.W.kitx_tuple I.kIn ⟨o, h1, h2⟩ e (fun z => nomatch z) fun tk => ⟨.bl b, H, I.tok tk, rfl, q⟩

/-! ### comprehensions, by what is said of each item -/
structure Grows (R : Hp → Nat → V → Prop) : Prop where
  same : ∀ {H H' : Hp} {i : Nat} {y : V}, Same H H' → R H i y → R H' i y
  chg : ∀ {H : Hp} {D : Addr} {xs ys : List V} {i : Nat} {y : V}, H D = some (.lst xs) → R H i y → R (upd H D (.lst ys)) i y
theorem Grows.pure {R : Nat → V → Prop} : Grows fun _ i y => R i y := ⟨fun _ h => h, fun _ h => h⟩
theorem last_item {y z : V} {ys : List V} {j : Nat} (hj : ¬ j < ys.length) (e : (ys ++ [y])[j]? = some z) : j = ys.length ∧ z = y := by
  rw [List.getElem?_append_right (by omega)] at e
  rcases Nat.eq_zero_or_pos (j - ys.length) with h | h
  · rw [h] at e
    simp at e
    exact ⟨by omega, e.symm⟩
  · rw [List.getElem?_eq_none (by simp; omega)] at e
    cases e
section
variable {imp : List (Option Nat)} {te : TE} {σ rest : St} {H : Hp} {Q : VK}
theorem comp_rangeR {lo : Int} {n : Nat} (R : Hp → Nat → V → Prop) (hR : Grows R) (e0 : impS imp σ = none :: rest) (hn : n ≤ sizeLine)
    (hs : ∀ i H' Q', Same H H' → i < n → (∀ y H3, Same H' H3 → R H3 i y → Q' y H3) → te (some (.int (lo + i)) :: rest) H' Q')
    (hd : ∀ l H' ys, Same H H' → H l = none → H' l = some (.lst ys) → ys.length = n → (∀ i y, ys[i]? = some y → R H' i y) → Q (.ref l) H') : tCompR imp (gName 0) te (Itr lo n) σ H Q := by
  refine comp_range (fun D i ys σ' H' => (∃ x, σ' = x :: rest) ∧ Same H H' ∧ H' D = some (.lst ys) ∧ ys.length = i ∧ ∀ j y, ys[j]? = some y → R H' j y)
    (fun D hD => ⟨⟨none, e0⟩, Same.upd hD, upd_same, rfl, fun j y e => by simp at e⟩) ?_ ?_
  · rintro D i ys σ' H' hD hi ⟨⟨x, rfl⟩, s, eD, el, hr⟩
    show te (some (.int (lo + i)) :: rest) H' _
    refine hs i H' _ s hi fun y H3 s3 r3 => ⟨s3 _ _ eD, by omega, ⟨⟨_, rfl⟩, Same.updN (s.trans s3) hD, upd_same, by simp [el], fun j z e => ?_⟩⟩
    refine hR.chg (s3 _ _ eD) ?_
    by_cases hj : j < ys.length
    · rw [List.getElem?_append_left hj] at e
      exact hR.same s3 (hr j z e)
    · obtain ⟨rfl, rfl⟩ := last_item hj e
      rw [el]
      exact r3
  · rintro D ys σ' H' hD ⟨_, s, eD, el, hr⟩
    exact hd D H' ys s hD eD el hr
theorem comp_listR {K : PySem.W.Frag} {a : Addr} {xs : List V} (R : Hp → Nat → V → Prop) (hR : Grows R) (e0 : impS imp σ = none :: rest) (hS : SqL K H a xs) (hn : xs.length ≤ sizeLine)
    (hs : ∀ i x H' Q', Same H H' → xs[i]? = some x → (∀ y H3, Same H' H3 → R H3 i y → Q' y H3) → te (some x :: rest) H' Q')
    (hd : ∀ l H' ys, Same H H' → H l = none → H' l = some (.lst ys) → ys.length = xs.length → (∀ i y, ys[i]? = some y → R H' i y) → Q (.ref l) H') : tCompR imp (gName 0) te (Itl K a) σ H Q := by
  refine comp_list (K := K) (xs := xs) (fun D i ys σ' H' => (∃ x, σ' = x :: rest) ∧ Same H H' ∧ H' D = some (.lst ys) ∧ ys.length = i ∧ ∀ j y, ys[j]? = some y → R H' j y)
    (fun D hD => ⟨⟨none, e0⟩, Same.upd hD, upd_same, rfl, fun j y e => by simp at e⟩) (fun D i ys σ' H' _ p => p.2.1.seq hS) ?_ ?_
  · rintro D i x ys σ' H' hD hi ⟨⟨x0, rfl⟩, s, eD, el, hr⟩
    show te (some x :: rest) H' _
    have hlt : i < xs.length := (List.getElem?_eq_some_iff.mp hi).1
    refine hs i x H' _ s hi fun y H3 s3 r3 => ⟨s3 _ _ eD, by omega, ⟨⟨_, rfl⟩, Same.updN (s.trans s3) hD, upd_same, by simp [el], fun j z e => ?_⟩⟩
    refine hR.chg (s3 _ _ eD) ?_
    by_cases hj : j < ys.length
    · rw [List.getElem?_append_left hj] at e
      exact hR.same s3 (hr j z e)
    · obtain ⟨rfl, rfl⟩ := last_item hj e
      rw [el]
      exact r3
  · rintro D ys σ' H' hD ⟨_, s, eD, el, hr⟩
    exact hd D H' ys s hD eD el hr
end
/-! the rules inside a comprehension's block, without the block's own names in what they ask -/
section
variable {X : Cx} {N : List Str} {scope : Scope} {cl : List (Str × Addr)} {C : Addr} {s : Shared} {H : Hp} {fp : List Addr}
theorem pe_fldC {o : Expr} {f : Str} {pos : Pos} {ta : TE} (ha : PE (cxC X N scope cl C s H fp) o ta) (hb : attributeBase o f (cxC X N scope cl C s H fp).env (eval o (cxC X N scope cl C s H fp).env) = eval o (cxC X N scope cl C s H fp).env) :
    PE (cxC X N scope cl C s H fp) (.Attribute o f pos) (tFld X.K ta f) := pe_fld ha hb
theorem pg_tupC {es : List Expr} {k n : Nat} {t : TGs} {pos : Pos} (hc : (cxC X N scope cl C s H fp).calm = true) (h : PGs (cxC X N scope cl C s H fp) es t)
    (hn : (assignEach es (cxC X N scope cl C s H fp).env).length = n := by rfl) (hst : (assignEach es (cxC X N scope cl C s H fp).env).findIdx? (·.1) = none := by rfl) : PG (cxC X N scope cl C s H fp) (.Tuple es k pos) (gTup X.K n t) := pg_tup hc h hn hst
theorem ix_tupC : IxR (cxC X N scope cl C s H fp) (rIxT X.K) := ix_tup
theorem ix_listC : IxR (cxC X N scope cl C s H fp) (rIxL X.K) := ix_list
end
theorem PS.nox {X : Cx} {st : Stmt} {t : TS} (h : PS X.nox st t) : PS X st t := fun pins s σ H D I hw =>
  wpAny_mono (h pins s σ H D (I.wish _) hw) (fun _ _ q => q.unwish) fun _ _ z => False.elim z
theorem eq_map_of {α β : Type} {g : α → β} {xs : List α} {ys : List β} (hl : ys.length = xs.length) (h : ∀ (i : Nat) (y : β), ys[i]? = some y → ∀ x, xs[i]? = some x → y = g x) : ys = xs.map g := by
  refine List.ext_getElem? fun i => ?_
  by_cases hi : i < xs.length
  · rw [List.getElem?_map, List.getElem?_eq_getElem hi, List.getElem?_eq_getElem (by omega)]
    exact congrArg some (h i _ (List.getElem?_eq_getElem (by omega)) _ (List.getElem?_eq_getElem hi))
  · rw [List.getElem?_eq_none (by omega), List.getElem?_eq_none (by simp; omega)]
theorem paired_of {α β : Type} {R : α → β → Prop} : ∀ {xs : List α} {ys : List β}, xs.length = ys.length → (∀ (i : Nat) (x : α), xs[i]? = some x → ∀ y, ys[i]? = some y → R x y) → Paired R xs ys
  | [], [], _, _ => .nil
  | [], _ :: _, h, _ => by simp at h
  | _ :: _, [], h, _ => by simp at h
  | x :: xs, y :: ys, h, q => .cons (q 0 x rfl y rfl) (paired_of (by simpa using h) fun i a ha b hb => q (i + 1) a (by simpa using ha) b (by simpa using hb))

/-! ### fractions: as tuples of the heap or of the text -/
def FrV (K : PySem.W.Frag) (H : Hp) (r : V) (f : Int × Int) : Prop := ∃ a, r = V.ref a ∧ SqT K H a [.int f.1, .int f.2]
/-- a list, a tuple of fractions -/
def FL (K : PySem.W.Frag) (H : Hp) (p : Addr) (fs : List (Int × Int)) : Prop := ∃ rs, H p = some (.lst rs) ∧ Paired (FrV K H) rs fs
def FT (K : PySem.W.Frag) (H : Hp) (p : Addr) (fs : List (Int × Int)) : Prop := ∃ rs, H p = some (.tup rs) ∧ Paired (FrV K H) rs fs
/-- a new list of fractions comes back -/
def RetL (K : PySem.W.Frag) (H : Hp) (Q : VK) (fs : List (Int × Int)) : Prop := ∀ l H', Same H H' → H l = none → FL K H' l fs → Q (.ref l) H'
section
variable {K : PySem.W.Frag} {H H' : Hp}
theorem FrV.same {r : V} {f : Int × Int} (e : Same H H') (h : FrV K H r f) : FrV K H' r f := by
  obtain ⟨a, e1, e2⟩ := h
  exact ⟨a, e1, e2.same e⟩
theorem FrV.of {a : Addr} {f : Int × Int} (h : H a = some (.tup [.int f.1, .int f.2])) : FrV K H (.ref a) f := ⟨a, rfl, SqT.of h⟩
theorem SqT.chg {a D : Addr} {xs ys zs : List V} (hD : H D = some (.lst xs)) (h : SqT K H a zs) : SqT K (upd H D (.lst ys)) a zs := by
  rcases h with h | h
  · refine .inl ?_
    have key : ∀ u, H a = some u → u ≠ .lst xs → upd H D (.lst ys) a = some u := fun u e n => by
      rw [upd_ne (ne_of e hD n)]; exact e
    rcases h with h | ⟨o, h⟩
    · exact .inl (key _ h (by intro z; cases z))
    · exact .inr ⟨o, key _ h (by intro z; cases z)⟩
  · exact .inr h
theorem FrV.chg {r : V} {f : Int × Int} {D : Addr} {xs ys : List V} (hD : H D = some (.lst xs)) (h : FrV K H r f) : FrV K (upd H D (.lst ys)) r f := by
  obtain ⟨a, e1, e2⟩ := h
  exact ⟨a, e1, e2.chg hD⟩
theorem frs_same {rs : List V} {fs : List (Int × Int)} (e : Same H H') (h : Paired (FrV K H) rs fs) : Paired (FrV K H') rs fs := Paired.mapP h fun _ _ z => z.same e
theorem frs_chg {rs : List V} {fs : List (Int × Int)} {D : Addr} {xs ys : List V} (hD : H D = some (.lst xs)) (h : Paired (FrV K H) rs fs) : Paired (FrV K (upd H D (.lst ys))) rs fs := Paired.mapP h fun _ _ z => z.chg hD
theorem FL.same {p : Addr} {fs : List (Int × Int)} (e : Same H H') (h : FL K H p fs) : FL K H' p fs := by
  obtain ⟨rs, h1, h2⟩ := h
  exact ⟨rs, e _ _ h1, frs_same e h2⟩
theorem FT.same {p : Addr} {fs : List (Int × Int)} (e : Same H H') (h : FT K H p fs) : FT K H' p fs := by
  obtain ⟨rs, h1, h2⟩ := h
  exact ⟨rs, e _ _ h1, frs_same e h2⟩
theorem frG (f : Nat → Int × Int) : Grows fun H i y => FrV K H y (f i) := ⟨fun e h => h.same e, fun e h => h.chg e⟩
theorem RetL.up {H1 : Hp} {Q : VK} {fs : List (Int × Int)} (e : Same H H1) (h : RetL K H Q fs) : RetL K H1 Q fs := fun l H' s n z => h l H' (e.trans s) (e.free n) z
theorem Paired.app {α β : Type} {R : α → β → Prop} : ∀ {xs zs : List α} {ys ws : List β}, Paired R xs ys → Paired R zs ws → Paired R (xs ++ zs) (ys ++ ws)
  | _, _, _, _, .nil, h => h
  | _, _, _, _, .cons r t, h => .cons r (Paired.app t h)
theorem Paired.revA {α β : Type} {R : α → β → Prop} : ∀ {xs : List α} {ys : List β}, Paired R xs ys → Paired R xs.reverse ys.reverse
  | _, _, .nil => .nil
  | _, _, .cons r t => by
    rw [List.reverse_cons, List.reverse_cons]
    exact Paired.app (Paired.revA t) (.cons r .nil)
theorem Paired.setA {α β : Type} {R : α → β → Prop} : ∀ {xs : List α} {ys : List β} {j : Nat} {x : α} {y : β}, Paired R xs ys → R x y → Paired R (xs.set j x) (ys.set j y)
  | _, _, _, _, _, .nil, _ => .nil
  | _, _, 0, _, _, .cons _ t, h => .cons h t
  | _, _, j + 1, _, _, .cons r t, h => .cons r (Paired.setA t h)
/-- data of fractions -/
def frD (f : Int × Int) : PyData := .tuple [.int f.1, .int f.2]
theorem frD_lay (f : Int × Int) : (frD f).canLay0 = true := rfl
theorem frs_lay : ∀ fs : List (Int × Int), PyData.canLayAll0 (fs.map frD) = true
  | [] => rfl
  | f :: fs => by
    show ((frD f).canLay0 && PyData.canLayAll0 (fs.map frD)) = true
    rw [frs_lay fs]; rfl
theorem fl_lay (fs : List (Int × Int)) : (PyData.list (fs.map frD)).canLay0 = true := frs_lay fs
theorem FrV.dv {r : V} {f : Int × Int} (h : FrV K H r f) : DV K H r (frD f) := by
  obtain ⟨a, rfl, e⟩ := h
  exact .tup e (.cons (.int _) (.cons (.int _) .nil))
theorem frs_dv : ∀ {rs : List V} {fs : List (Int × Int)}, Paired (FrV K H) rs fs → DVs K H rs (fs.map frD)
  | _, _, .nil => .nil
  | _, _, .cons r t => .cons r.dv (frs_dv t)
theorem FL.dv {p : Addr} {fs : List (Int × Int)} (h : FL K H p fs) : DV K H (.ref p) (.list (fs.map frD)) := by
  obtain ⟨rs, h1, h2⟩ := h
  exact .lst (.inl h1) (frs_dv h2)
end
theorem frD_depth (f : Int × Int) : (frD f).depth ≤ 3 := by simp [frD, PyData.depth, PyData.depthAll]
theorem depthAll_fr : ∀ fs : List (Int × Int), PyData.depthAll (fs.map frD) ≤ 3
  | [] => by simp [PyData.depthAll]
  | f :: fs => by
    have h1 := frD_depth f
    have h2 := depthAll_fr fs
    simp only [List.map_cons, PyData.depthAll]
    omega
theorem depth_fr (fs : List (Int × Int)) : (PyData.list (fs.map frD)).depth ≤ 60 := by
  have h := depthAll_fr fs
  simp only [PyData.depth]
  omega
theorem iteD {c A B : Prop} [Decidable c] (h : c) (a : A) : if c then A else B := by rw [if_pos h]; exact a
theorem iteE {c A B : Prop} [Decidable c] (h : ¬ c) (b : B) : if c then A else B := by rw [if_neg h]; exact b
theorem ixN_pos {n : Nat} {k : Int} (h0 : 0 ≤ k) (h1 : k < n) : ixN n k = some k.toNat := by unfold ixN; rw [if_pos h0, if_pos h1]
theorem ixN_last {n : Nat} (h : 0 < n) : ixN n (-1) = some (n - 1) := by
  unfold ixN
  rw [if_neg (by omega), if_pos (by omega)]
  congr 1
  omega
theorem atI_mod {K : PySem.W.Frag} {H : Hp} {rs : List V} {fs : List (Int × Int)} (h : Paired (FrV K H) rs fs) {i : Int} (h0 : 0 ≤ i) (h1 : i < fs.length) : ∃ v f, atI rs i = some v ∧ FrV K H v f ∧ fs[i.toNat]? = some f := by
  obtain ⟨f, ef⟩ : ∃ f, fs[i.toNat]? = some f := ⟨_, List.getElem?_eq_getElem (by omega)⟩
  obtain ⟨v, ev, hv⟩ := Paired.get h ef
  refine ⟨v, f, ?_, hv, ef⟩
  have := atI_nat ev
  rwa [Int.toNat_of_nonneg h0] at this
theorem FL.chg {K : PySem.W.Frag} {H : Hp} {p D : Addr} {fs : List (Int × Int)} {xs ys : List V} (hp : p ≠ D) (hD : H D = some (.lst xs)) (h : FL K H p fs) : FL K (upd H D (.lst ys)) p fs := by
  obtain ⟨rs, h1, h2⟩ := h
  exact ⟨rs, by rw [upd_ne hp]; exact h1, frs_chg hD h2⟩
theorem at0 {x y : V} : atI [x, y] 0 = some x := rfl
theorem at1 {x y : V} : atI [x, y] 1 = some y := rfl
end L2

set_option Elab.async false
set_option linter.all false
set_option maxRecDepth 100000
set_option maxHeartbeats 1000000
namespace L2
open PySem PySem.Spec PyProof.Rows

/-! ### for k, x in enumerate(xs) -/
theorem Inv.turnedL {X : Cx} {pins : List (Addr × Obj)} {σ : St} {H : Hp} {s : Shared} {h' : Heap} {t' : Nat} {fp : List Addr} (I : Inv X pins σ H s) (k : ∀ b o, b ∉ fp → s.heap.get? b = some o → h'.get? b = some o) (hf : ∀ b ∈ fp, FpOk X pins H b) :
    Inv X pins σ H { s with heap := h', toks := t' } := by
  have nit : ∀ b u, H b = some u → b ∉ fp := fun b u e z => by rw [(hf b z).1] at e; cases e
  refine I.step (g' := s.gens) (d' := s.drawn) (ch := fp) (fun b hb => ?_) (fun b o _ _ hc e _ => k b o hc e) (fun b o _ _ hc e _ => ⟨o.slots, k b o hc e⟩) (fun _ _ _ _ n => n)
    (fun b o hc e => ⟨o, k b o hc e⟩) (fun _ _ e => e) (fun _ _ _ e => e) (fun b ps e => ⟨#[], by rw [e]; simp⟩) (fun m hm => ?_) (fun b u e => ?_) I.bare
  · obtain ⟨f0, f1, f2, f3, f4, f5⟩ := hf b hb
    exact ⟨f3, f1, f4, f5⟩
  · obtain ⟨o, es, ep, ho, r⟩ := hm
    exact ⟨o, es, ep, k _ o (fun z => (hf _ z).2.1 rfl) ho, r⟩
  · refine (I.hok b u e).stay (fun c v hc q => k c v ?_ q) (fun _ q => q) fun _ _ q => q
    rcases hc with z | z
    · rw [z]; exact nit b u e
    · exact nit c _ z
def Ite (K : PySem.W.Frag) (a : Addr) : It :=
  ⟨fun i H => ∃ xs x, SqL K H a xs ∧ xs[i]? = some x, fun i H v H' => ∃ T, H T = none ∧ v = .ref T ∧ ∀ xs x, SqL K H a xs → xs[i]? = some x → H' = upd H T (.tup [.int i, x]), fun i H => ∃ xs, SqL K H a xs ∧ xs.length ≤ i⟩
theorem turn_enum {P : Program} {w : World} {K : PySem.W.Frag} {elts : List Expr} {k} {pos : Pos} (a e it : Addr) (hei : e ≠ it) :
    Turn P w K (.Tuple elts k pos) (Ite K a) [e, it] e (fun i h => (∃ old, IsEnum h e it i old) ∧ h.IsListIter it a i) where
  mem := by simp
  obj := fun i h st b hb => by
    obtain ⟨⟨old, he⟩, o, ho, c, d⟩ := st
    rcases List.mem_cons.mp hb with rfl | hb
    · exact ⟨_, he, fun v z => by
        have z' : Data.fields _ = Data.cell v := z
        cases z'⟩
    · have e : b = it := by simpa using hb
      subst e
      exact ⟨o, ho, fun v z => by rw [d] at z; cases z⟩
  keep := fun i h h' st kk => by
    obtain ⟨⟨old, he⟩, hi⟩ := st
    exact ⟨⟨old, kk e (by simp) _ he⟩, hi.at fun o x => kk it (by simp) o x⟩
  item := by
    intro X hP hw hK hc i pins s σ H E I hf st hg
    subst hP hw hK
    obtain ⟨xs, x, hq, hx⟩ := hg
    obtain ⟨its, rv, p, hz⟩ := I.list hq
    obtain ⟨u, hu, ru⟩ := rv.get hx
    obtain ⟨⟨old, he⟩, hi⟩ := st
    have hel : e < s.heap.objs.size := Heap.lt_size he
    have hil : it < s.heap.objs.size := by obtain ⟨o, z, _⟩ := id hi; exact Heap.lt_size z
    refine wpAny_pyNext_enum_item he hi p.isList (x := u) (by simpa using hu) hei fun h' ho hit' hT hsz hk => ⟨_, rfl, ?_⟩
    refine wpAny_letOwnedTupleGo_enum ho fun h2 he2 hs2 => ?_
    have I2 : Inv X pins σ H { s with heap := h2, toks := s.toks + 1 } := I.turnedL (fp := [e, it]) (fun b o hb q => by
      have b1 : b ≠ e := fun z => hb (by simp [z])
      have b2 : b ≠ it := fun z => hb (by simp [z])
      exact (hs2.2 b b1).trans (hk b o b1 b2 q)) hf
    have hT2 : h2.get? s.heap.objs.size = some { cls := .type "tuple", data := .seq #[.int i s.toks, u] } := (hs2.2 _ (Nat.ne_of_gt hel)).trans hT
    obtain ⟨f0, f1, f2, f3, f4, f5⟩ := I.fpOk (H' := H) (b := s.heap.objs.size) (Nat.le_refl _) I.fresh
    have h0 : X.s₀.heap.get? s.heap.objs.size = none := by
      cases hq : X.s₀.heap.get? s.heap.objs.size with
      | none => rfl
      | some o => exact absurd (Nat.lt_of_lt_of_le (Heap.lt_size hq) I.sz) (Nat.lt_irrefl _)
    have I3 := I2.track (x := s.heap.objs.size) (o := .tup [.int i, x]) f0 h0 (Ne.symm f1) f4 f5 ⟨by show 2 ≤ sizeLine; decide, [.int i s.toks, u], .cons ⟨_, rfl⟩ (.cons ru .nil), ⟨_, hT2, rfl, _, rfl⟩⟩
    refine ⟨.ref s.heap.objs.size, _, I3, rfl, ⟨_, f0, rfl, fun ys y hy ey => ?_⟩, ⟨⟨u, by simpa using he2⟩, hit'.at fun o z => (hs2.2 it (Ne.symm hei)).trans z⟩, fun b hb => ?_⟩
    · have e1 := I.list_inj hy hq
      subst e1
      rw [hx] at ey
      cases ey
      rfl
    · have : b ≠ s.heap.objs.size := by
        rcases List.mem_cons.mp hb with rfl | hb
        · exact Nat.ne_of_lt hel
        · have e : b = it := by simpa using hb
          subst e
          exact Nat.ne_of_lt hil
      rw [upd_ne this]
      exact (hf b hb).1
  done := by
    intro X hP hw hK hc i pins s σ H E I hf st hg
    subst hP hw hK
    obtain ⟨xs, hq, hx⟩ := hg
    obtain ⟨its, rv, p, hz⟩ := I.list hq
    obtain ⟨⟨old, he⟩, hi⟩ := st
    obtain ⟨f0, f1, f2, f3, f4, f5⟩ := hf it (by simp)
    have hl := rv.length
    exact wpAny_pyNext_enum_end (I.ok.hd hc) he hi p.isList (by simp; omega) fun h' eb => ⟨rfl, I.turned (t' := s.toks) (fun b o hb q => eb b o hb q) f0 f1 f3 f4 f5⟩
  self := fun _ _ _ _ _ st h => by
    obtain ⟨⟨old, he⟩, _⟩ := st
    exact wpAny_pyIter_enum he h
theorem bt_enumerate : bootBuiltins "enumerate" = some (.type "enumerate") := by decide +kernel
def iEnum (K : PySem.W.Frag) (ta : TA) : TI := fun σ H R => ta σ H fun vs H1 => ∃ a, vs = [.ref a] ∧ (∃ xs, SqL K H1 a xs) ∧ R (Ite K a) H1
theorem pi_enum {X : Cx} {elts : List Expr} {k} {tpos : Pos} {a : Expr} {ta : TA} {p pos : Pos} (hg : Gl X "enumerate") (hm : X.mg "enumerate" = none) (ha : PA X [a] ta) (hs : starEach [a] X.env = [(false, eval a X.env)] := by rfl) :
    PI X (.Tuple elts k tpos) (.Call (.Name "enumerate" p) [a] [] pos) (iEnum X.K ta) := by
  intro pins s σ H R I h
  refine Call_ (ld_blt I hg hm bt_enumerate (PyProof.Rows.callWith_type1 (thn (ha pos pins s σ H _ I h) fun us s1 ⟨vs, H1, I1, r1, q1⟩ => ?_) hs rfl))
  obtain ⟨l, e, ⟨xs, hq⟩, q⟩ := q1
  subst e
  obtain ⟨u, rfl, ru⟩ := vals1 r1
  cases ru
  obtain ⟨its, rv, p, hz⟩ := I1.list hq
  refine call_enumerate_list p.isList fun h' he hi hsz hk => ?_
  have I2 : Inv X pins σ H1 { s1 with heap := h' } := I1.kept (t' := s1.toks) hk
  refine wpAny_pyIter_enum (i := 0) he ⟨s1.heap.objs.size + 1, [s1.heap.objs.size + 1, s1.heap.objs.size], _, _, H1, rfl, I2, turn_enum l _ _ (Nat.succ_ne_self _), ⟨⟨_, he⟩, hi⟩, fun b hb => ?_, q⟩
  have hb : s1.heap.objs.size ≤ b := by
    rcases List.mem_cons.mp hb with rfl | hb
    · exact Nat.le_succ _
    · have e : b = s1.heap.objs.size := by simpa using hb
      exact Nat.le_of_eq e.symm
  exact I1.fpOk hb (I1.hok.fresh hb)
theorem for_enum {K : PySem.W.Frag} {a : Addr} {xs : List V} {g : TG} {tb : TS} {D : Ends} {σ : St} {H : Hp} (Pv : Nat → St → Hp → Prop) (h0 : Pv 0 σ H) (hl : ∀ i σ H, i ≤ xs.length → Pv i σ H → SqL K H a xs)
    (hs : ∀ i x σ H T, xs[i]? = some x → Pv i σ H → H T = none → g (.ref T) σ (upd H T (.tup [.int i, x])) fun σ2 H2 => tb { D with nx := Pv (i + 1), ct := Pv (i + 1), bk := D.nx } σ2 H2) (hd : ∀ σ H, Pv xs.length σ H → D.nx σ H) :
    ∃ W : Nat → Nat → St → Hp → Prop, (∃ m, W 0 m σ H) ∧ ∀ i m σ H, W i m σ H →
      ((Ite K a).stop i H ∧ D.nx σ H) ∨ ((Ite K a).go i H ∧ ∃ N : St → Hp → Prop, (∀ σ' H', N σ' H' → ∃ m', m' < m ∧ W (i + 1) m' σ' H') ∧ ∀ x H', (Ite K a).yld i H x H' → g x σ H' fun σ2 H2 => tb { D with nx := N, ct := N, bk := D.nx } σ2 H2) := by
  refine ⟨fun i m σ H => m = xs.length - i ∧ i ≤ xs.length ∧ Pv i σ H, ⟨xs.length, by simp, Nat.zero_le _, h0⟩, ?_⟩
  rintro i m σ H ⟨rfl, hi, p⟩
  have q := hl i σ H hi p
  by_cases hlt : i < xs.length
  · refine .inr ⟨⟨xs, xs[i], q, by simp [hlt]⟩, Pv (i + 1), fun σ' H' p' => ⟨xs.length - (i + 1), by omega, rfl, hlt, p'⟩, fun v H' y => ?_⟩
    obtain ⟨T, hT, e1, y⟩ := y
    subst e1
    have ex : xs[i]? = some xs[i] := List.getElem?_eq_getElem hlt
    rw [y xs _ q ex]
    exact hs i _ σ H T ex p hT
  · have e : i = xs.length := by omega
    subst e
    exact .inl ⟨⟨xs, q, Nat.le_refl _⟩, hd σ H p⟩
end L2

set_option linter.all false
namespace L2R
/-! ### fractions in lowest terms are rational numbers -/
def lowQ (t b : Int) : Int × Int := (t / (Int.gcd t b : Int), b / (Int.gcd t b : Int))
def rp (q : Rat) : Int × Int := (q.num, (q.den : Int))
theorem low_rat {t b : Int} (hb : 0 < b) : lowQ t b = rp ((t : Rat) / (b : Rat)) := by
  obtain ⟨d, rfl⟩ := Int.eq_ofNat_of_zero_le (Int.le_of_lt hb)
  have hd : d ≠ 0 := by omega
  have e : (t : Rat) / ((d : Int) : Rat) = mkRat t d := (Rat.mkRat_eq_div t d).symm
  rw [e]
  unfold lowQ rp
  rw [Rat.num_mkRat, Rat.den_mkRat, if_neg hd, if_neg hd]
  have g : Int.gcd t (d : Int) = d.gcd t.natAbs := by
    rw [Int.gcd_comm]
    rfl
  rw [g]
  simp
theorem rp_pos (q : Rat) : 0 < (rp q).2 := by
  have := q.den_pos
  show 0 < (q.den : Int)
  omega
theorem rp_div (q : Rat) : ((rp q).1 : Rat) / ((rp q).2 : Rat) = q := by
  show (q.num : Rat) / ((q.den : Int) : Rat) = q
  rw [← Rat.mkRat_self q]
  have := Rat.mkRat_eq_div q.num q.den
  rw [Rat.mkRat_self] at *
  exact this.symm
theorem den_ne (q : Rat) : (((rp q).2 : Int) : Rat) ≠ 0 := by
  have := rp_pos q
  intro z
  have : (rp q).2 = 0 := Rat.intCast_eq_zero_iff.mp z
  omega
theorem rp_inj {a b : Rat} (h : rp a = rp b) : a = b := by
  have h1 := congrArg Prod.fst h
  have h2 := congrArg Prod.snd h
  have h2 : ((a.den : Nat) : Int) = b.den := h2
  exact Rat.ext h1 (by omega)
theorem rp_add (a b : Rat) : lowQ ((rp a).1 * (rp b).2 + (rp b).1 * (rp a).2) ((rp a).2 * (rp b).2) = rp (a + b) := by
  rw [low_rat (Int.mul_pos (rp_pos a) (rp_pos b))]
  have h1 := rp_div a
  have h2 := rp_div b
  have n1 := den_ne a
  have n2 := den_ne b
  generalize rp a = x at *
  generalize rp b = y at *
  congr 1
  rw [← h1, ← h2, Rat.intCast_add, Rat.intCast_mul, Rat.intCast_mul, Rat.intCast_mul]
  grind
theorem rp_mul (a b : Rat) : lowQ ((rp a).1 * (rp b).1) ((rp a).2 * (rp b).2) = rp (a * b) := by
  rw [low_rat (Int.mul_pos (rp_pos a) (rp_pos b))]
  have h1 := rp_div a
  have h2 := rp_div b
  have n1 := den_ne a
  have n2 := den_ne b
  generalize rp a = x at *
  generalize rp b = y at *
  congr 1
  rw [← h1, ← h2, Rat.intCast_mul, Rat.intCast_mul]
  grind
theorem rp_neg (a : Rat) : (0 - (rp a).1, (rp a).2) = rp (-a) := by
  show (0 - a.num, (a.den : Int)) = ((-a).num, ((-a).den : Int))
  rw [Rat.neg_num, Rat.neg_den]
  simp
theorem rp_le {a b : Rat} : (rp a).1 * (rp b).2 ≤ (rp b).1 * (rp a).2 ↔ a ≤ b := (Rat.le_iff a b).symm
theorem rp_zero : rp 0 = (0, 1) := rfl
theorem rp_one : rp 1 = (1, 1) := rfl
/-- a number that is whole over d has a bottom that is no greater -/
theorem den_le {q : Rat} {t : Int} {d : Nat} (hd : 0 < d) (h : q = (t : Rat) / (d : Rat)) : q.den ≤ d := by
  have e : q = mkRat t d := by rw [Rat.mkRat_eq_div]; exact h
  rw [e, Rat.den_mkRat, if_neg (by omega)]
  exact Nat.div_le_self ..
theorem num_le_den {q : Rat} (h0 : 0 ≤ q) (h1 : q ≤ 1) : 0 ≤ q.num ∧ q.num ≤ q.den := by
  have a := Rat.num_nonneg.mpr h0
  have b := (Rat.le_iff q 1).mp h1
  simp at b
  exact ⟨a, b⟩
end L2R

set_option linter.all false
namespace L2R
/-! ### sums -/
def sumN (n : Nat) (f : Nat → Rat) : Rat := match n with
  | 0 => 0
  | n + 1 => sumN n f + f n
theorem sumN_congr {n : Nat} {f g : Nat → Rat} (h : ∀ k, k < n → f k = g k) : sumN n f = sumN n g := by
  induction n with
  | zero => rfl
  | succ n ih => simp only [sumN]; rw [ih fun k hk => h k (by omega), h n (by omega)]
theorem sumN_add (n : Nat) (f g : Nat → Rat) : sumN n (fun k => f k + g k) = sumN n f + sumN n g := by
  induction n with
  | zero => simp only [sumN]; grind
  | succ n ih => simp only [sumN]; rw [ih]; grind
theorem sumN_sub (n : Nat) (f g : Nat → Rat) : sumN n (fun k => f k - g k) = sumN n f - sumN n g := by
  induction n with
  | zero => simp [sumN]; grind
  | succ n ih => simp only [sumN]; rw [ih]; grind
theorem sumN_mul (n : Nat) (c : Rat) (f : Nat → Rat) : sumN n (fun k => c * f k) = c * sumN n f := by
  induction n with
  | zero => simp [sumN]
  | succ n ih => simp only [sumN]; rw [ih]; grind
theorem sumN_zero (n : Nat) : sumN n (fun _ => 0) = 0 := by
  induction n with
  | zero => rfl
  | succ n ih => simp only [sumN]; rw [ih]; grind
theorem sumN_head (n : Nat) (f : Nat → Rat) : sumN (n + 1) f = f 0 + sumN n (fun k => f (k + 1)) := by
  induction n with
  | zero => simp [sumN]; grind
  | succ n ih => rw [sumN, ih]; simp only [sumN]; grind
theorem sumN_nonneg {n : Nat} {f : Nat → Rat} (h : ∀ k, k < n → 0 ≤ f k) : 0 ≤ sumN n f := by
  induction n with
  | zero => exact Rat.le_refl
  | succ n ih => exact Rat.add_nonneg (ih fun k hk => h k (by omega)) (h n (by omega))
theorem sumN_le {n : Nat} {f g : Nat → Rat} (h : ∀ k, k < n → f k ≤ g k) : sumN n f ≤ sumN n g := by
  induction n with
  | zero => exact Rat.le_refl
  | succ n ih =>
    have h1 := ih fun k hk => h k (by omega)
    have h2 := h n (by omega)
    simp only [sumN]
    grind
theorem le_sumN {n k : Nat} {f : Nat → Rat} (h : ∀ k, k < n → 0 ≤ f k) (hk : k < n) : f k ≤ sumN n f := by
  induction n with
  | zero => omega
  | succ n ih =>
    have h0 := sumN_nonneg (f := f) (n := n) fun k hk => h k (by omega)
    have hn := h n (by omega)
    simp only [sumN]
    by_cases e : k = n
    · subst e; grind
    · have := ih (fun k hk => h k (by omega)) (by omega)
      grind
theorem sumN_rev (n : Nat) (f : Nat → Rat) : sumN n (fun k => f (n - 1 - k)) = sumN n f := by
  induction n generalizing f with
  | zero => rfl
  | succ n ih =>
    rw [sumN_head]
    have e : sumN n (fun k => f (n + 1 - 1 - (k + 1))) = sumN n f := by
      rw [← ih f]
      exact sumN_congr fun k hk => by congr 1; omega
    rw [e]
    simp only [sumN]
    have : n + 1 - 1 - 0 = n := by omega
    rw [this]
    grind
/-! ### what goes -/
structure Go where
  r : Nat → Rat
  l : Nat → Rat
def stp (n : Nat) (p : Nat → Rat) (s : Go) : Go where
  r := fun k => match k with
    | 0 => 0
    | k + 1 => if k < n then s.r k * (1 - p k) + s.l (k + 1) * p k else 0
  l := fun k => if k < n then s.r k * p k + s.l (k + 1) * (1 - p k) else 0
def fro (n : Nat) (p : Nat → Rat) (s : Go) : Nat → Go
  | 0 => s
  | m + 1 => stp n p (fro n p s m)
def go0 : Go := ⟨fun k => if k = 0 then 1 else 0, fun _ => 0⟩
def run (n : Nat) (p : Nat → Rat) (m : Nat) : Go := fro n p go0 m
/-- heard, lost at the moment m + 1 -/
def hrd (n : Nat) (p : Nat → Rat) (m : Nat) : Rat := (run n p m).l 0
def lst (n : Nat) (p : Nat → Rat) (m : Nat) : Rat := (run n p m).r n
theorem run_succ (n : Nat) (p : Nat → Rat) (m : Nat) : run n p (m + 1) = stp n p (run n p m) := rfl
theorem stp_r0 (n : Nat) (p : Nat → Rat) (s : Go) : (stp n p s).r 0 = 0 := rfl
theorem stp_rs {n : Nat} {p : Nat → Rat} {s : Go} {k : Nat} (h : k < n) : (stp n p s).r (k + 1) = s.r k * (1 - p k) + s.l (k + 1) * p k := by
  show (if k < n then _ else _) = _
  rw [if_pos h]
theorem stp_l {n : Nat} {p : Nat → Rat} {s : Go} {k : Nat} (h : k < n) : (stp n p s).l k = s.r k * p k + s.l (k + 1) * (1 - p k) := by
  show (if k < n then _ else _) = _
  rw [if_pos h]
theorem stp_ln (n : Nat) (p : Nat → Rat) (s : Go) : (stp n p s).l n = 0 := by
  show (if n < n then _ else _) = _
  rw [if_neg (Nat.lt_irrefl n)]
/-- all that goes -/
def allG (n : Nat) (s : Go) : Rat := sumN (n + 1) fun k => s.r k + s.l k
theorem all_stp (n : Nat) (p : Nat → Rat) (s : Go) : allG n (stp n p s) = allG n s - s.l 0 - s.r n := by
  unfold allG
  rw [sumN_add, sumN_add, sumN_head n (stp n p s).r, stp_r0]
  have e1 : sumN n (fun k => (stp n p s).r (k + 1)) + sumN n (stp n p s).l = sumN n s.r + sumN n (fun k => s.l (k + 1)) := by
    rw [← sumN_add, ← sumN_add]
    refine sumN_congr fun k hk => ?_
    rw [stp_rs hk, stp_l hk]
    grind
  have e2 := sumN_head n s.l
  simp only [sumN] at *
  rw [stp_ln]
  grind
theorem all_run (n : Nat) (p : Nat → Rat) (m : Nat) : allG n (run n p m) + sumN m (hrd n p) + sumN m (lst n p) = 1 := by
  induction m with
  | zero =>
    unfold allG run fro go0
    simp only [sumN]
    have : sumN n (fun k => (if k = 0 then (1 : Rat) else 0) + 0) + ((if n = 0 then (1 : Rat) else 0) + 0) = 1 := by
      have := sumN_head n (fun k => (if k = 0 then (1 : Rat) else 0) + 0)
      simp only [sumN] at this
      rw [this]
      have z : sumN n (fun k => (if k + 1 = 0 then (1 : Rat) else 0) + 0) = 0 := by
        have : (fun k => (if k + 1 = 0 then (1 : Rat) else 0) + 0) = fun _ => (0 : Rat) := by
          funext k
          rw [if_neg (by omega)]
          grind
        rw [this, sumN_zero]
      rw [z]
      simp
      grind
    rw [this]
    grind
  | succ m ih =>
    rw [run_succ, all_stp]
    simp only [sumN]
    unfold hrd lst at *
    grind
def Part (n : Nat) (p : Nat → Rat) : Prop := ∀ k, k < n → 0 ≤ p k ∧ p k ≤ 1
theorem sub_nonneg' {a : Rat} (h : a ≤ 1) : 0 ≤ 1 - a := by grind
theorem run_nonneg {n : Nat} {p : Nat → Rat} (hp : Part n p) (m : Nat) : ∀ k, 0 ≤ (run n p m).r k ∧ 0 ≤ (run n p m).l k := by
  induction m with
  | zero =>
    intro k
    refine ⟨?_, Rat.le_refl⟩
    show 0 ≤ (if k = 0 then (1 : Rat) else 0)
    split
    · decide
    · exact Rat.le_refl
  | succ m ih =>
    intro k
    rw [run_succ]
    constructor
    · cases k with
      | zero => exact Rat.le_refl
      | succ k =>
        show 0 ≤ (if k < n then _ else (0 : Rat))
        split
        · next h => exact Rat.add_nonneg (Rat.mul_nonneg (ih k).1 (sub_nonneg' (hp k h).2)) (Rat.mul_nonneg (ih (k + 1)).2 (hp k h).1)
        · exact Rat.le_refl
    · show 0 ≤ (if k < n then _ else (0 : Rat))
      split
      · next h => exact Rat.add_nonneg (Rat.mul_nonneg (ih k).1 (hp k h).1) (Rat.mul_nonneg (ih (k + 1)).2 (sub_nonneg' (hp k h).2))
      · exact Rat.le_refl
theorem hrd_nonneg {n : Nat} {p : Nat → Rat} (hp : Part n p) (m : Nat) : 0 ≤ hrd n p m := (run_nonneg hp m 0).2
theorem lst_nonneg {n : Nat} {p : Nat → Rat} (hp : Part n p) (m : Nat) : 0 ≤ lst n p m := (run_nonneg hp m n).1
theorem run_le {n : Nat} {p : Nat → Rat} (hp : Part n p) (m k : Nat) (hk : k ≤ n) : (run n p m).r k ≤ 1 ∧ (run n p m).l k ≤ 1 := by
  have h0 := run_nonneg hp m
  have h := all_run n p m
  have a1 := sumN_nonneg (n := m) (f := hrd n p) fun j _ => hrd_nonneg hp j
  have a2 := sumN_nonneg (n := m) (f := lst n p) fun j _ => lst_nonneg hp j
  have a3 := le_sumN (n := n + 1) (k := k) (f := fun k => (run n p m).r k + (run n p m).l k) (fun j _ => Rat.add_nonneg (h0 j).1 (h0 j).2) (by omega)
  have b1 := (h0 k).1
  have b2 := (h0 k).2
  unfold allG at h
  constructor <;> grind
/-! at odd moments nothing is heard -/
theorem run_par (n : Nat) (p : Nat → Rat) (m : Nat) : ∀ k, ((k + m) % 2 = 1 → (run n p m).r k = 0) ∧ ((k + m) % 2 = 0 → (run n p m).l k = 0) := by
  induction m with
  | zero =>
    intro k
    refine ⟨fun h => ?_, fun _ => rfl⟩
    show (if k = 0 then (1 : Rat) else 0) = 0
    rw [if_neg (by omega)]
  | succ m ih =>
    intro k
    rw [run_succ]
    constructor
    · intro h
      cases k with
      | zero => rfl
      | succ k =>
        show (if k < n then _ else (0 : Rat)) = 0
        split
        · rw [(ih k).1 (by omega), (ih (k + 1)).2 (by omega)]
          grind
        · rfl
    · intro h
      show (if k < n then _ else (0 : Rat)) = 0
      split
      · rw [(ih k).1 (by omega), (ih (k + 1)).2 (by omega)]
        grind
      · rfl
theorem hrd_odd (n : Nat) (p : Nat → Rat) {m : Nat} (h : m % 2 = 0) : hrd n p m = 0 := (run_par n p m 0).2 (by omega)
/-! ### from the other end -/
/-- a pairing by which a step may be taken on either side -/
def pair (n : Nat) (s t : Go) : Rat := sumN (n + 1) fun k => s.r k * t.l k + s.l k * t.r k
theorem pair_stp (n : Nat) (p : Nat → Rat) (s t : Go) : pair n (stp n p s) t = pair n s (stp n p t) := by
  unfold pair
  rw [sumN_add, sumN_add]
  rw [sumN_head n (fun k => (stp n p s).r k * t.l k), sumN_head n (fun k => s.l k * (stp n p t).r k)]
  rw [stp_r0, stp_r0]
  have e0 : sumN (n + 1) (fun k => (stp n p s).l k * t.r k) = sumN n (fun k => (stp n p s).l k * t.r k) := by
    simp only [sumN]
    rw [stp_ln]
    grind
  have e1 : sumN (n + 1) (fun k => s.r k * (stp n p t).l k) = sumN n (fun k => s.r k * (stp n p t).l k) := by
    simp only [sumN]
    rw [stp_ln]
    grind
  rw [e0, e1]
  have : sumN n (fun k => (stp n p s).r (k + 1) * t.l (k + 1)) + sumN n (fun k => (stp n p s).l k * t.r k) = sumN n (fun k => s.r k * (stp n p t).l k) + sumN n (fun k => s.l (k + 1) * (stp n p t).r (k + 1)) := by
    rw [← sumN_add, ← sumN_add]
    refine sumN_congr fun k hk => ?_
    rw [stp_rs hk, stp_l hk, stp_rs hk, stp_l hk]
    grind
  grind
theorem pair_fro (n : Nat) (p : Nat → Rat) (s t : Go) (m : Nat) : pair n (fro n p s m) t = pair n s (fro n p t m) := by
  induction m generalizing s t with
  | zero => rfl
  | succ m ih =>
    show pair n (stp n p (fro n p s m)) t = pair n s (stp n p (fro n p t m))
    rw [pair_stp, ih, ← ih s (stp n p t)]
    have : ∀ m, fro n p (stp n p t) m = stp n p (fro n p t m) := fun m => by
      induction m with
      | zero => rfl
      | succ m ih => show stp n p (fro n p (stp n p t) m) = _; rw [ih]; rfl
    rw [ih, this]
def goN (n : Nat) : Go := ⟨fun _ => 0, fun k => if k = n then 1 else 0⟩
theorem sumN_pick {n k : Nat} {f : Nat → Rat} (hk : k < n) (h : ∀ j, j < n → j ≠ k → f j = 0) : sumN n f = f k := by
  induction n with
  | zero => omega
  | succ n ih =>
    simp only [sumN]
    by_cases e : k = n
    · subst e
      have : sumN k f = 0 := by
        rw [← sumN_zero k]
        exact sumN_congr fun j hj => h j (by omega) (by omega)
      rw [this]
      grind
    · rw [ih (by omega) fun j hj hne => h j (by omega) hne, h n (by omega) (by omega)]
      grind
theorem lst_other (n : Nat) (p : Nat → Rat) (m : Nat) : lst n p m = (fro n p (goN n) m).l 0 := by
  have h := pair_fro n p go0 (goN n) m
  have e1 : pair n (fro n p go0 m) (goN n) = lst n p m := by
    unfold pair
    rw [sumN_pick (k := n) (by omega)]
    · show (run n p m).r n * (if n = n then 1 else 0) + _ * 0 = _
      rw [if_pos rfl]
      unfold lst
      grind
    · intro j hj hne
      show _ * (if j = n then (1 : Rat) else 0) + _ * 0 = 0
      rw [if_neg hne]
      grind
  have e2 : pair n go0 (fro n p (goN n) m) = (fro n p (goN n) m).l 0 := by
    unfold pair
    rw [sumN_pick (k := 0) (by omega)]
    · show (if 0 = 0 then (1 : Rat) else 0) * _ + 0 * _ = _
      rw [if_pos rfl]
      grind
    · intro j hj hne
      show (if j = 0 then (1 : Rat) else 0) * _ + 0 * _ = 0
      rw [if_neg hne]
      grind
  rw [← e1, h, e2]
/-- the other way round, for cells up to n -/
theorem fro_turn (n : Nat) (p q : Nat → Rat) (hpq : ∀ k, k < n → q k = p (n - 1 - k)) (m : Nat) :
    ∀ k, k ≤ n → (fro n p (goN n) m).l k = (run n q m).r (n - k) ∧ (fro n p (goN n) m).r k = (run n q m).l (n - k) := by
  induction m with
  | zero =>
    intro k hk
    refine ⟨?_, rfl⟩
    show (if k = n then (1 : Rat) else 0) = (if n - k = 0 then (1 : Rat) else 0)
    by_cases e : k = n
    · rw [if_pos e, if_pos (by omega)]
    · rw [if_neg e, if_neg (by omega)]
  | succ m ih =>
    intro k hk
    rw [run_succ]
    show (stp n p (fro n p (goN n) m)).l k = _ ∧ (stp n p (fro n p (goN n) m)).r k = _
    constructor
    · by_cases e : k = n
      · subst e
        rw [stp_ln, Nat.sub_self, stp_r0]
      · have hk : k < n := by omega
        obtain ⟨j, hj⟩ : ∃ j, n - k = j + 1 := ⟨n - k - 1, by omega⟩
        rw [stp_l hk, hj, stp_rs (by omega), hpq j (by omega), (ih k (by omega)).2, (ih (k + 1) (by omega)).1]
        have e1 : n - 1 - j = k := by omega
        have e2 : n - (k + 1) = j := by omega
        rw [e1, e2, hj]
        grind
    · cases k with
      | zero =>
        rw [stp_r0]
        show (0 : Rat) = (stp n q (run n q m)).l n
        rw [stp_ln]
      | succ k =>
        have hk : k < n := by omega
        rw [stp_rs hk, stp_l (show n - (k + 1) < n by omega), hpq _ (by omega), (ih k (by omega)).2, (ih (k + 1) (by omega)).1]
        have e1 : n - 1 - (n - (k + 1)) = k := by omega
        have e2 : n - (k + 1) + 1 = n - k := by omega
        rw [e1, e2]
        grind
theorem lst_turn (n : Nat) (p q : Nat → Rat) (hpq : ∀ k, k < n → q k = p (n - 1 - k)) (m : Nat) : lst n p m = lst n q m := by
  rw [lst_other, (fro_turn n p q hpq m 0 (by omega)).1]
  rfl
end L2R

set_option linter.all false
namespace L2R
/-! ### in all -/
def bar (p : Nat → Rat) (k : Nat) : Rat := p k / (1 - p k)
def S (n : Nat) (p : Nat → Rat) : Rat := sumN n (bar p)
/-- the bars from wall k on -/
def T (n : Nat) (p : Nat → Rat) (k : Nat) : Rat := S n p - sumN k (bar p)
def phi (n : Nat) (p : Nat → Rat) (s : Go) : Rat := sumN (n + 1) fun k => s.r k * T n p k + s.l k * (1 + T n p k)
theorem T_succ (n : Nat) (p : Nat → Rat) (k : Nat) : T n p k = bar p k + T n p (k + 1) := by
  unfold T
  simp only [sumN]
  grind
theorem T_n (n : Nat) (p : Nat → Rat) : T n p n = 0 := by
  unfold T S
  grind
theorem T_0 (n : Nat) (p : Nat → Rat) : T n p 0 = S n p := by
  unfold T
  simp only [sumN]
  grind
theorem phi_stp {n : Nat} {p : Nat → Rat} (hp : ∀ k, k < n → p k ≠ 1) (s : Go) : phi n p (stp n p s) = phi n p s - (1 + S n p) * s.l 0 := by
  unfold phi
  rw [sumN_add, sumN_add, sumN_head n (fun k => (stp n p s).r k * T n p k), sumN_head n (fun k => s.l k * (1 + T n p k)), stp_r0, T_0]
  have e1 : sumN n (fun k => (stp n p s).r (k + 1) * T n p (k + 1)) + sumN n (fun k => (stp n p s).l k * (1 + T n p k)) = sumN n (fun k => s.r k * T n p k) + sumN n (fun k => s.l (k + 1) * (1 + T n p (k + 1))) := by
    rw [← sumN_add, ← sumN_add]
    refine sumN_congr fun k hk => ?_
    rw [stp_rs hk, stp_l hk, T_succ n p k]
    have h1 : 1 - p k ≠ 0 := by have := hp k hk; grind
    have hb : bar p k * (1 - p k) = p k := by unfold bar; grind
    generalize bar p k = b at *
    generalize T n p (k + 1) = t at *
    grind
  simp only [sumN]
  rw [stp_ln, T_n]
  grind
theorem phi_run {n : Nat} {p : Nat → Rat} (hp : ∀ k, k < n → p k ≠ 1) (m : Nat) : phi n p (run n p m) + (1 + S n p) * sumN m (hrd n p) = S n p := by
  induction m with
  | zero =>
    unfold phi
    rw [sumN_pick (k := 0) (by omega)]
    · show (if 0 = 0 then (1 : Rat) else 0) * T n p 0 + 0 * _ + _ * sumN 0 _ = _
      rw [if_pos rfl, T_0]
      simp only [sumN]
      grind
    · intro j hj hne
      show (if j = 0 then (1 : Rat) else 0) * _ + 0 * _ = 0
      rw [if_neg hne]
      grind
  | succ m ih =>
    rw [run_succ, phi_stp hp]
    simp only [sumN]
    unfold hrd at *
    grind
theorem bar_nonneg {n : Nat} {p : Nat → Rat} (hp : Part n p) (h1 : ∀ k, k < n → p k ≠ 1) {k : Nat} (hk : k < n) : 0 ≤ bar p k := by
  unfold bar
  have a := hp k hk
  have b : 0 < 1 - p k := by have := h1 k hk; grind
  rw [Rat.div_def]
  exact Rat.mul_nonneg a.1 (Rat.le_of_lt (Rat.inv_pos.mpr b))
theorem sumN_split {n k : Nat} (f : Nat → Rat) (hk : k ≤ n) : sumN n f = sumN k f + sumN (n - k) (fun j => f (k + j)) := by
  obtain ⟨d, rfl⟩ : ∃ d, n = k + d := ⟨n - k, by omega⟩
  have e : k + d - k = d := by omega
  rw [e]
  clear hk e
  induction d with
  | zero => simp only [sumN]; show sumN k f = _; grind
  | succ d ih =>
    show sumN (k + d) f + f (k + d) = _
    rw [ih]
    simp only [sumN]
    grind
theorem T_le {n : Nat} {p : Nat → Rat} (hp : Part n p) (h1 : ∀ k, k < n → p k ≠ 1) {k : Nat} (hk : k ≤ n) : 0 ≤ T n p k ∧ T n p k ≤ S n p := by
  unfold T S
  have a := sumN_nonneg (n := k) (f := bar p) fun j hj => bar_nonneg hp h1 (by omega)
  have b := sumN_nonneg (n := n - k) (f := fun j => bar p (k + j)) fun j hj => bar_nonneg hp h1 (by omega)
  have e := sumN_split (bar p) hk
  constructor <;> grind
theorem mul_le_r {a b c : Rat} (h : a ≤ b) (hc : 0 ≤ c) : c * a ≤ c * b := Rat.mul_le_mul_of_nonneg_left h hc
theorem phi_le {n : Nat} {p : Nat → Rat} (hp : Part n p) (h1 : ∀ k, k < n → p k ≠ 1) (m : Nat) : 0 ≤ phi n p (run n p m) ∧ phi n p (run n p m) ≤ (1 + S n p) * allG n (run n p m) := by
  have h0 := run_nonneg hp m
  unfold phi allG
  constructor
  · refine sumN_nonneg fun k hk => ?_
    have t := T_le hp h1 (k := k) (by omega)
    exact Rat.add_nonneg (Rat.mul_nonneg (h0 k).1 t.1) (Rat.mul_nonneg (h0 k).2 (by grind))
  · rw [← sumN_mul]
    refine sumN_le fun k hk => ?_
    have t := T_le hp h1 (k := k) (by omega)
    have a1 := mul_le_r t.2 (h0 k).1
    have a2 := mul_le_r (show 1 + T n p k ≤ 1 + S n p by grind) (h0 k).2
    have b1 := (h0 k).1
    grind
theorem S_nonneg {n : Nat} {p : Nat → Rat} (hp : Part n p) (h1 : ∀ k, k < n → p k ≠ 1) : 0 ≤ S n p := sumN_nonneg fun j hj => bar_nonneg hp h1 hj
/-- heard and lost in all -/
def hAll (n : Nat) (p : Nat → Rat) : Rat := S n p / (1 + S n p)
def lAll (n : Nat) (p : Nat → Rat) : Rat := 1 / (1 + S n p)
theorem le_div {a b c : Rat} (hc : 0 < c) (h : c * a ≤ b) : a ≤ b / c := by
  refine Rat.le_of_mul_le_mul_left (c := c) ?_ hc
  have : c * (b / c) = b := by have : c ≠ 0 := by grind
                               grind
  rw [this]
  exact h
theorem div_le' {a b c : Rat} (hc : 0 < c) (h : b ≤ c * a) : b / c ≤ a := by
  refine Rat.le_of_mul_le_mul_left (c := c) ?_ hc
  have : c * (b / c) = b := by have : c ≠ 0 := by grind
                               grind
  rw [this]
  exact h
theorem in_all_ok {n : Nat} {p : Nat → Rat} (hp : Part n p) (h1 : ∀ k, k < n → p k ≠ 1) (m : Nat) :
    sumN m (hrd n p) ≤ hAll n p ∧ hAll n p ≤ sumN m (hrd n p) + allG n (run n p m) ∧ sumN m (lst n p) ≤ lAll n p ∧ lAll n p ≤ sumN m (lst n p) + allG n (run n p m) := by
  have s0 := S_nonneg hp h1
  have a := phi_run h1 m
  have b := phi_le hp h1 m
  have c := all_run n p m
  have hs : 0 < 1 + S n p := by grind
  have e : hAll n p + lAll n p = 1 := by unfold hAll lAll; have : 1 + S n p ≠ 0 := by grind
                                         grind
  have x1 : sumN m (hrd n p) ≤ hAll n p := le_div hs (by grind)
  have x2 : hAll n p ≤ sumN m (hrd n p) + allG n (run n p m) := div_le' hs (by grind)
  refine ⟨x1, x2, ?_, ?_⟩ <;> grind
/-- behind a wall that returns all nothing goes -/
theorem run_shut {n : Nat} {p : Nat → Rat} {j : Nat} (hj : j < n) (h1 : p j = 1) (m : Nat) : ∀ k, j < k → (run n p m).r k = 0 ∧ (run n p m).l k = 0 := by
  induction m with
  | zero =>
    intro k hk
    refine ⟨?_, rfl⟩
    show (if k = 0 then (1 : Rat) else 0) = 0
    rw [if_neg (by omega)]
  | succ m ih =>
    intro k hk
    rw [run_succ]
    constructor
    · cases k with
      | zero => rfl
      | succ k =>
        show (if k < n then _ else (0 : Rat)) = 0
        split
        · rw [(ih (k + 1) hk).2]
          by_cases e : k = j
          · rw [e, h1]; grind
          · rw [(ih k (by omega)).1]; grind
        · rfl
    · show (if k < n then _ else (0 : Rat)) = 0
      split
      · rw [(ih k hk).1, (ih (k + 1) (by omega)).2]; grind
      · rfl
theorem shut_ok {n : Nat} {p : Nat → Rat} (hp : Part n p) {j : Nat} (hj : j < n) (h1 : p j = 1) (m : Nat) :
    sumN m (hrd n p) ≤ 1 ∧ 1 ≤ sumN m (hrd n p) + allG n (run n p m) ∧ sumN m (lst n p) ≤ 0 ∧ 0 ≤ sumN m (lst n p) + allG n (run n p m) := by
  have c := all_run n p m
  have z : sumN m (lst n p) = 0 := by
    rw [← sumN_zero m]
    exact sumN_congr fun k _ => (run_shut hj h1 k n hj).1
  have h0 := run_nonneg hp m
  have a : 0 ≤ allG n (run n p m) := sumN_nonneg fun k _ => Rat.add_nonneg (h0 k).1 (h0 k).2
  refine ⟨?_, ?_, ?_, ?_⟩ <;> grind
end L2R

set_option linter.all false
namespace L2R
/-! ### the same in whole numbers -/
structure IGo where
  r : Nat → Int
  l : Nat → Int
def istp (n : Nat) (U : Int) (q : Nat → Int) (s : IGo) : IGo where
  r := fun k => match k with
    | 0 => 0
    | k + 1 => if k < n then s.r k * (U - q k) + s.l (k + 1) * q k else 0
  l := fun k => if k < n then s.r k * q k + s.l (k + 1) * (U - q k) else 0
def igo0 : IGo := ⟨fun k => if k = 0 then 1 else 0, fun _ => 0⟩
def irun (n : Nat) (U : Int) (q : Nat → Int) : Nat → IGo
  | 0 => igo0
  | m + 1 => istp n U q (irun n U q m)
theorem irun_rat {n : Nat} {U : Int} {q : Nat → Int} {p : Nat → Rat} (hq : ∀ k, k < n → (q k : Rat) = p k * (U : Rat)) (m : Nat) :
    ∀ k, ((irun n U q m).r k : Rat) = (run n p m).r k * (U : Rat) ^ m ∧ ((irun n U q m).l k : Rat) = (run n p m).l k * (U : Rat) ^ m := by
  induction m with
  | zero =>
    intro k
    have e : (U : Rat) ^ 0 = 1 := Rat.pow_zero _
    rw [e]
    constructor
    · show (((if k = 0 then (1 : Int) else 0) : Int) : Rat) = (if k = 0 then (1 : Rat) else 0) * 1
      split <;> simp
    · show (((0 : Int)) : Rat) = 0 * 1
      simp
  | succ m ih =>
    intro k
    rw [Rat.pow_succ]
    have key : ∀ j, j < n → ((((irun n U q m).r j * (U - q j) + (irun n U q m).l (j + 1) * q j : Int)) : Rat) = ((run n p m).r j * (1 - p j) + (run n p m).l (j + 1) * p j) * ((U : Rat) ^ m * U)
        ∧ ((((irun n U q m).r j * q j + (irun n U q m).l (j + 1) * (U - q j) : Int)) : Rat) = ((run n p m).r j * p j + (run n p m).l (j + 1) * (1 - p j)) * ((U : Rat) ^ m * U) := fun j hj => by
      have h1 := (ih j).1
      have h2 := (ih (j + 1)).2
      have h3 := hq j hj
      simp only [Rat.intCast_add, Rat.intCast_mul, Rat.intCast_sub]
      rw [h1, h2, h3]
      constructor <;> grind
    constructor
    · cases k with
      | zero =>
        show (((0 : Int)) : Rat) = 0 * _
        simp
      | succ k =>
        show (((if k < n then _ else (0 : Int)) : Int) : Rat) = (if k < n then _ else (0 : Rat)) * _
        by_cases h : k < n
        · rw [if_pos h, if_pos h]; exact (key k h).1
        · rw [if_neg h, if_neg h]; simp
    · show (((if k < n then _ else (0 : Int)) : Int) : Rat) = (if k < n then _ else (0 : Rat)) * _
      by_cases h : k < n
      · rw [if_pos h, if_pos h]; exact (key k h).2
      · rw [if_neg h, if_neg h]; simp
theorem irun_bounds {n : Nat} {U : Int} {q : Nat → Int} {p : Nat → Rat} (hU : 0 < U) (hp : Part n p) (hq : ∀ k, k < n → (q k : Rat) = p k * (U : Rat)) (m k : Nat) (hk : k ≤ n) :
    (0 ≤ (irun n U q m).r k ∧ (irun n U q m).r k ≤ U ^ m) ∧ (0 ≤ (irun n U q m).l k ∧ (irun n U q m).l k ≤ U ^ m) := by
  have h := irun_rat hq m k
  have h0 := run_nonneg hp m k
  have h1 := run_le hp m k hk
  have hu : 0 < (U : Rat) ^ m := Rat.pow_pos (Rat.intCast_pos.mpr hU)
  have e : ((U ^ m : Int) : Rat) = (U : Rat) ^ m := Rat.intCast_pow U m
  have key : ∀ {x : Rat} {i : Int}, (i : Rat) = x * (U : Rat) ^ m → 0 ≤ x → x ≤ 1 → 0 ≤ i ∧ i ≤ U ^ m := fun {x i} hi x0 x1 => by
    constructor
    · rw [← Rat.intCast_nonneg, hi]
      exact Rat.mul_nonneg x0 (Rat.le_of_lt hu)
    · rw [← Rat.intCast_le_intCast, e, hi]
      have := Rat.mul_le_mul_of_nonneg_right x1 (Rat.le_of_lt hu)
      grind
  exact ⟨key h.1 h0.1 h1.1, key h.2 h0.2 h1.2⟩
/-- brought to lowest terms it is the strength -/
theorem low_of {U : Int} (hU : 0 < U) {m : Nat} {i : Int} {x : Rat} (h : (i : Rat) = x * (U : Rat) ^ m) : lowQ i (U ^ m) = rp x := by
  have hu : 0 < U ^ m := Int.pow_pos hU
  rw [low_rat hu, h, Rat.intCast_pow]
  have : (U : Rat) ^ m ≠ 0 := by
    have : 0 < (U : Rat) ^ m := Rat.pow_pos (Rat.intCast_pos.mpr hU)
    grind
  congr 1
  grind
/-! ### a common bottom -/
def lcm1 (u b : Int) : Int := u / (Int.gcd u b : Int) * b
def lcmL (u : Int) : List Int → Int
  | [] => u
  | b :: bs => lcmL (lcm1 u b) bs
theorem lcm1_nat {u b : Nat} (hu : 0 < u) : lcm1 (u : Int) (b : Int) = ((Nat.lcm u b : Nat) : Int) := by
  unfold lcm1
  have g : Int.gcd (u : Int) (b : Int) = Nat.gcd u b := rfl
  rw [g, ← Int.natCast_ediv, ← Int.natCast_mul]
  congr 1
  unfold Nat.lcm
  obtain ⟨c, hc⟩ := Nat.gcd_dvd_left u b
  have hg : 0 < Nat.gcd u b := Nat.gcd_pos_of_pos_left b hu
  generalize hG : Nat.gcd u b = G at *
  rw [hc, Nat.mul_div_cancel_left _ hg, Nat.mul_assoc, Nat.mul_div_cancel_left _ hg]
theorem lcm1_ok {u b M : Int} (hu : 0 < u) (hb : 0 < b) : 0 < lcm1 u b ∧ u ∣ lcm1 u b ∧ b ∣ lcm1 u b ∧ (u ∣ M → b ∣ M → lcm1 u b ∣ M) := by
  obtain ⟨x, rfl⟩ := Int.eq_ofNat_of_zero_le (Int.le_of_lt hu)
  obtain ⟨y, rfl⟩ := Int.eq_ofNat_of_zero_le (Int.le_of_lt hb)
  rw [lcm1_nat (by omega)]
  refine ⟨?_, ?_, ?_, ?_⟩
  · have := Nat.lcm_pos (m := x) (n := y) (by omega) (by omega)
    omega
  · exact Int.natCast_dvd_natCast.mpr (Nat.dvd_lcm_left x y)
  · exact Int.natCast_dvd_natCast.mpr (Nat.dvd_lcm_right x y)
  · intro h1 h2
    exact Int.ofNat_dvd_left.mpr (Nat.lcm_dvd (Int.ofNat_dvd_left.mp h1) (Int.ofNat_dvd_left.mp h2))
theorem lcmL_ok {M : Int} (bs : List Int) : ∀ u : Int, 0 < u → (∀ b ∈ bs, 0 < b) → 0 < lcmL u bs ∧ u ∣ lcmL u bs ∧ (∀ b ∈ bs, b ∣ lcmL u bs) ∧ (u ∣ M → (∀ b ∈ bs, b ∣ M) → lcmL u bs ∣ M) := by
  induction bs with
  | nil => intro u hu _; exact ⟨hu, Int.dvd_refl u, by simp, fun h _ => h⟩
  | cons b bs ih =>
    intro u hu hb
    obtain ⟨a1, a2, a3, a4⟩ := lcm1_ok (M := M) hu (hb b (by simp))
    obtain ⟨b1, b2, b3, b4⟩ := ih (lcm1 u b) a1 fun c hc => hb c (by simp [hc])
    refine ⟨b1, Int.dvd_trans a2 b2, fun c hc => ?_, fun h1 h2 => b4 (a4 h1 (h2 b (by simp))) fun c hc => h2 c (by simp [hc])⟩
    rcases List.mem_cons.mp hc with rfl | hc
    · exact Int.dvd_trans a3 b2
    · exact b3 c hc
theorem lcmL_app (u : Int) (xs ys : List Int) : lcmL u (xs ++ ys) = lcmL (lcmL u xs) ys := by
  induction xs generalizing u with
  | nil => rfl
  | cons x xs ih => exact ih _
end L2R

set_option Elab.async false
set_option linter.all false
set_option maxRecDepth 100000
set_option maxHeartbeats 1000000
namespace L2
open PySem PySem.Spec PyProof.Rows L2R

/-! ### a comprehension over pairs -/
section
variable {imp : List (Option Nat)} {te : TE} {σ rest : St} {H : Hp} {Q : VK}
theorem comp_listR2 {K : PySem.W.Frag} {a : Addr} {xs : List V} (R : Hp → Nat → V → Prop) (hR : Grows R) (e0 : impS imp σ = none :: none :: rest) (hS : SqL K H a xs) (hn : xs.length ≤ sizeLine)
    (hs : ∀ i x H', Same H H' → xs[i]? = some x → ∃ p u v, x = .ref p ∧ SqT K H' p [u, v] ∧ ∀ Q' : VK, (∀ y H3, Same H' H3 → R H3 i y → Q' y H3) → te (some u :: some v :: rest) H' Q')
    (hd : ∀ l H' ys, Same H H' → H l = none → H' l = some (.lst ys) → ys.length = xs.length → (∀ i y, ys[i]? = some y → R H' i y) → Q (.ref l) H') :
    tCompR imp (gTup K 2 (gCons (gName 0) (gCons (gName 1) gNil))) te (Itl K a) σ H Q := by
  refine comp_list (K := K) (xs := xs) (fun D i ys σ' H' => (∃ x y, σ' = x :: y :: rest) ∧ Same H H' ∧ H' D = some (.lst ys) ∧ ys.length = i ∧ ∀ j y, ys[j]? = some y → R H' j y)
    (fun D hD => ⟨⟨none, none, e0⟩, Same.upd hD, upd_same, rfl, fun j y e => by simp at e⟩) (fun D i ys σ' H' _ p => p.2.1.seq hS) ?_ ?_
  · rintro D i x ys σ' H' hD hi ⟨⟨x0, y0, rfl⟩, s, eD, el, hr⟩
    have hlt : i < xs.length := (List.getElem?_eq_some_iff.mp hi).1
    obtain ⟨p, u, v, rfl, hp, hh⟩ := hs i x H' s hi
    refine ⟨p, [u, v], rfl, hp, rfl, u, [v], rfl, v, [], rfl, rfl, ?_⟩
    refine hh _ fun y H3 s3 r3 => ⟨s3 _ _ eD, by omega, ⟨⟨_, _, rfl⟩, Same.updN (s.trans s3) hD, upd_same, by simp [el], fun j z e => ?_⟩⟩
    refine hR.chg (s3 _ _ eD) ?_
    by_cases hj : j < ys.length
    · rw [List.getElem?_append_left hj] at e
      exact hR.same s3 (hr j z e)
    · obtain ⟨rfl, rfl⟩ := last_item hj e
      rw [el]
      exact r3
  · rintro D ys σ' H' hD ⟨_, s, eD, el, hr⟩
    exact hd D H' ys s hD eD el hr
end
/-! ### lists by the row of numbers -/
def iL (n : Nat) (f : Nat → Int) : List V := (List.range n).map fun k => V.int (f k)
def qL (n : Nat) (f : Nat → Rat) : List (Int × Int) := (List.range n).map fun k => rp (f k)
theorem range_map_get {α : Type} {n k : Nat} {f : Nat → α} (h : k < n) : ((List.range n).map f)[k]? = some (f k) := by
  rw [List.getElem?_map, List.getElem?_range h]
  rfl
theorem iL_len (n : Nat) (f : Nat → Int) : (iL n f).length = n := by simp [iL]
theorem qL_len (n : Nat) (f : Nat → Rat) : (qL n f).length = n := by simp [qL]
theorem iL_at {n k : Nat} {f : Nat → Int} (h : k < n) : atI (iL n f) (k : Int) = some (.int (f k)) := atI_nat (range_map_get h)
theorem iL_at0 {n : Nat} {f : Nat → Int} (h : 0 < n) : atI (iL n f) 0 = some (.int (f 0)) := iL_at h
theorem iL_at1 {n k : Nat} {f : Nat → Int} (h : k + 1 < n) : atI (iL n f) ((k : Int) + 1) = some (.int (f (k + 1))) := iL_at h
theorem iL_last {n : Nat} {f : Nat → Int} : atI (iL (n + 1) f) (-1) = some (.int (f n)) := by
  unfold atI
  rw [iL_len, ixN_last (by omega)]
  exact range_map_get (by omega)
theorem range_map_set {α : Type} {n j : Nat} {f : Nat → α} {v : α} : ((List.range n).map f).set j v = (List.range n).map fun k => if k = j then v else f k := by
  refine List.ext_getElem? fun i => ?_
  by_cases hi : i < n
  · rw [range_map_get hi]
    by_cases e : i = j
    · subst e
      rw [if_pos rfl, List.getElem?_set_self (by simp; exact hi)]
    · rw [if_neg e, List.getElem?_set_ne (Ne.symm e), range_map_get hi]
  · rw [List.getElem?_eq_none (by simp; omega), List.getElem?_eq_none (by simp; omega)]
theorem iL_set {n j : Nat} {f : Nat → Int} {v : Int} : (iL n f).set j (.int v) = iL n fun k => if k = j then v else f k := by
  unfold iL
  rw [range_map_set]
  refine List.map_congr_left fun k _ => ?_
  dsimp only
  by_cases e : k = j
  · rw [if_pos e, if_pos e]
  · rw [if_neg e, if_neg e]
theorem iL_congr {n : Nat} {f g : Nat → Int} (h : ∀ k, k < n → f k = g k) : iL n f = iL n g := List.map_congr_left fun k hk => by rw [h k (List.mem_range.mp hk)]
theorem qL_congr {n : Nat} {f g : Nat → Rat} (h : ∀ k, k < n → f k = g k) : qL n f = qL n g := List.map_congr_left fun k hk => by rw [h k (List.mem_range.mp hk)]
theorem qL_set {n j : Nat} {f : Nat → Rat} {v : Rat} : (qL n f).set j (rp v) = qL n fun k => if k = j then v else f k := by
  unfold qL
  rw [range_map_set]
  refine List.map_congr_left fun k _ => ?_
  dsimp only
  by_cases e : k = j
  · rw [if_pos e, if_pos e]
  · rw [if_neg e, if_neg e]
theorem iL_succ (n : Nat) (f : Nat → Int) : iL (n + 1) f = iL n f ++ [.int (f n)] := by simp [iL, List.range_succ]
theorem qL_succ (n : Nat) (f : Nat → Rat) : qL (n + 1) f = qL n f ++ [rp (f n)] := by simp [qL, List.range_succ]
theorem qL_get {n k : Nat} {f : Nat → Rat} (h : k < n) : (qL n f)[k]? = some (rp (f k)) := range_map_get h
theorem rep_one {α : Type} (k : Nat) (v : α) : (List.replicate k [v]).flatten = List.replicate k v := by
  induction k with
  | zero => rfl
  | succ k ih => rw [List.replicate_succ, List.flatten_cons, ih, List.replicate_succ]; rfl
theorem rep_map {α : Type} (k : Nat) (v : α) : List.replicate k v = (List.range k).map fun _ => v := by
  refine List.ext_getElem? fun i => ?_
  by_cases hi : i < k
  · rw [range_map_get hi, List.getElem?_replicate, if_pos hi]
  · rw [List.getElem?_eq_none (by simp; omega), List.getElem?_eq_none (by simp; omega)]
theorem iL_rep (k : Nat) (v : Int) : (List.replicate k [V.int v]).flatten = iL k fun _ => v := by rw [rep_one, rep_map]; rfl
/-- an item of a list of fractions -/
theorem FL.item {K : PySem.W.Frag} {H : Hp} {l : Addr} {fs : List (Int × Int)} {k : Nat} {f : Int × Int} (h : FL K H l fs) (e : fs[k]? = some f) : ∃ rs v, H l = some (.lst rs) ∧ atI rs (k : Int) = some v ∧ FrV K H v f := by
  obtain ⟨rs, h1, h2⟩ := h
  obtain ⟨v, ev, hv⟩ := Paired.get h2 e
  exact ⟨rs, v, h1, atI_nat ev, hv⟩
/-! ### sizes -/
def Sz (w : Nat) (a : Rat) : Prop := Fig w (rp a).1 ∧ Fig w (rp a).2
theorem Sz.mono {w w' : Nat} {a : Rat} (h : Sz w a) (e : w ≤ w') : Sz w' a := ⟨h.1.mono e, h.2.mono e⟩
theorem low_abs {t b : Int} (hb : 0 < b) : (lowP t b).1.natAbs ≤ t.natAbs ∧ (lowP t b).2.natAbs ≤ b.natAbs := by
  have hg := gcd_pos' (t := t) hb
  obtain ⟨c, hc⟩ : (Int.gcd t b : Int) ∣ t := Int.gcd_dvd_left ..
  obtain ⟨d, hd⟩ : (Int.gcd t b : Int) ∣ b := Int.gcd_dvd_right ..
  have e1 : t / (Int.gcd t b : Int) = c := Int.ediv_eq_of_eq_mul_right (by omega) hc
  have e2 : b / (Int.gcd t b : Int) = d := Int.ediv_eq_of_eq_mul_right (by omega) hd
  unfold lowP
  rw [e1, e2]
  generalize (Int.gcd t b : Int) = g at *
  have gn : 0 < g.natAbs := by omega
  constructor
  · show c.natAbs ≤ t.natAbs
    rw [hc, Int.natAbs_mul]
    exact Nat.le_mul_of_pos_left _ gn
  · show d.natAbs ≤ b.natAbs
    rw [hd, Int.natAbs_mul]
    exact Nat.le_mul_of_pos_left _ gn
theorem Sz.of_low {w : Nat} {t b : Int} (hb : 0 < b) (h1 : Fig w t) (h2 : Fig w b) : Sz w ((t : Rat) / (b : Rat)) := by
  have e : lowP t b = rp ((t : Rat) / (b : Rat)) := low_rat hb
  have a := low_abs (t := t) hb
  unfold Sz
  rw [← e]
  exact ⟨h1.le a.1, h2.le a.2⟩
theorem Sz.mul {w v : Nat} {a b : Rat} (h : Sz w a) (h' : Sz v b) : Sz (w + v) (a * b) := by
  have e := rp_mul a b
  have hb := Int.mul_pos (rp_pos a) (rp_pos b)
  have x := low_abs (t := (rp a).1 * (rp b).1) hb
  have e' : lowP ((rp a).1 * (rp b).1) ((rp a).2 * (rp b).2) = rp (a * b) := e
  rw [e'] at x
  exact ⟨(h.1.mul h'.1).le x.1, (h.2.mul h'.2).le x.2⟩
theorem Sz.add {w v : Nat} {a b : Rat} (h : Sz w a) (h' : Sz v b) : Sz (w + v + 1) (a + b) := by
  have e := rp_add a b
  have hb := Int.mul_pos (rp_pos a) (rp_pos b)
  have x := low_abs (t := (rp a).1 * (rp b).2 + (rp b).1 * (rp a).2) hb
  have e' : lowP ((rp a).1 * (rp b).2 + (rp b).1 * (rp a).2) ((rp a).2 * (rp b).2) = rp (a + b) := e
  rw [e'] at x
  refine ⟨Fig.le (Fig.add (h.1.mul h'.2) ((h'.1.mul h.2).mono (by omega))) x.1, ((h.2.mul h'.2).mono (by omega)).le x.2⟩
theorem Sz.neg {w : Nat} {a : Rat} (h : Sz w a) : Sz w (-a) := by
  have e := rp_neg a
  unfold Sz
  rw [← e]
  exact ⟨by show Fig w (0 - (rp a).1); rw [Int.zero_sub]; exact h.1.neg, h.2⟩
theorem fig_pow {u : Nat} {U : Int} (h : Fig u U) (m : Nat) : Fig (u * m + 1) (U ^ m) := by
  unfold Fig at *
  rw [Int.natAbs_pow]
  rcases Nat.eq_zero_or_pos m with rfl | hm
  · simp
  · have h1 : U.natAbs ^ m ≤ (2 ^ u) ^ m := Nat.pow_le_pow_left (Nat.le_of_lt h) m
    rw [← Nat.pow_mul] at h1
    have h2 : 2 ^ (u * m) < 2 ^ (u * m + 1) := Nat.pow_lt_pow_right (by decide) (by omega)
    omega
/-! ### what a sound's numbers keep to -/
structure Num (n : Nat) (p : Nat → Rat) (U : Int) (q : Nat → Int) (u : Nat) : Prop where
  pos : 0 < U
  part : Part n p
  hq : ∀ k, k < n → (q k : Rat) = p k * (U : Rat)
  fig : Fig u U
  few : n ≤ 8
theorem fig_between {w : Nat} {i j : Int} (h0 : 0 ≤ i) (h1 : i ≤ j) (h : Fig w j) : Fig w i := h.le (by omega)
theorem Num.q_ok {n : Nat} {p : Nat → Rat} {U : Int} {q : Nat → Int} {u : Nat} (N : Num n p U q u) {k : Nat} (hk : k < n) : 0 ≤ q k ∧ q k ≤ U := by
  have h := N.hq k hk
  have hp := N.part k hk
  have hU : 0 < (U : Rat) := Rat.intCast_pos.mpr N.pos
  constructor
  · rw [← Rat.intCast_nonneg, h]
    exact Rat.mul_nonneg hp.1 (Rat.le_of_lt hU)
  · rw [← Rat.intCast_le_intCast, h]
    have := Rat.mul_le_mul_of_nonneg_right hp.2 (Rat.le_of_lt hU)
    grind
theorem Num.fig_q {n : Nat} {p : Nat → Rat} {U : Int} {q : Nat → Int} {u : Nat} (N : Num n p U q u) {k : Nat} (hk : k < n) : Fig u (q k) ∧ Fig u (U - q k) := by
  have := N.q_ok hk
  exact ⟨fig_between this.1 this.2 N.fig, fig_between (by omega) (show U - q k ≤ U by omega) N.fig⟩
theorem Num.fig_run {n : Nat} {p : Nat → Rat} {U : Int} {q : Nat → Int} {u : Nat} (N : Num n p U q u) (m : Nat) {k : Nat} (hk : k ≤ n) : Fig (u * m + 1) ((irun n U q m).r k) ∧ Fig (u * m + 1) ((irun n U q m).l k) := by
  have h := irun_bounds N.pos N.part N.hq m k hk
  have f := fig_pow N.fig m
  exact ⟨fig_between h.1.1 h.1.2 f, fig_between h.2.1 h.2.2 f⟩
theorem Num.sz_run {n : Nat} {p : Nat → Rat} {U : Int} {q : Nat → Int} {u : Nat} (N : Num n p U q u) (m : Nat) {k : Nat} (hk : k ≤ n) : Sz (u * m + 1) ((run n p m).r k) ∧ Sz (u * m + 1) ((run n p m).l k) := by
  have h := irun_rat N.hq m k
  have f := N.fig_run m hk
  have fu := fig_pow N.fig m
  have hu : 0 < U ^ m := Int.pow_pos N.pos
  have ne : (U : Rat) ^ m ≠ 0 := by
    have : 0 < (U : Rat) ^ m := Rat.pow_pos (Rat.intCast_pos.mpr N.pos)
    grind
  have e1 : (run n p m).r k = ((irun n U q m).r k : Rat) / ((U ^ m : Int) : Rat) := by rw [h.1, Rat.intCast_pow]; grind
  have e2 : (run n p m).l k = ((irun n U q m).l k : Rat) / ((U ^ m : Int) : Rat) := by rw [h.2, Rat.intCast_pow]; grind
  rw [e1, e2]
  exact ⟨Sz.of_low hu f.1 fu, Sz.of_low hu f.2 fu⟩
theorem Num.low_r {n : Nat} {p : Nat → Rat} {U : Int} {q : Nat → Int} {u : Nat} (N : Num n p U q u) (m k : Nat) : lowP ((irun n U q m).r k) (U ^ m) = rp ((run n p m).r k) := low_of N.pos (irun_rat N.hq m k).1
theorem Num.low_l {n : Nat} {p : Nat → Rat} {U : Int} {q : Nat → Int} {u : Nat} (N : Num n p U q u) (m k : Nat) : lowP ((irun n U q m).l k) (U ^ m) = rp ((run n p m).l k) := low_of N.pos (irun_rat N.hq m k).2
/-- the unit and the whole parts, as the program reckons them -/
def unitOf (n : Nat) (p : Nat → Rat) : Int := lcmL 1 ((qL n p).map Prod.snd)
def wholeOf (n : Nat) (p : Nat → Rat) (k : Nat) : Int := (rp (p k)).1 * (unitOf n p / (rp (p k)).2)
theorem qL_mem {n : Nat} {p : Nat → Rat} {f : Int × Int} (h : f ∈ qL n p) : ∃ k, k < n ∧ f = rp (p k) := by
  unfold qL at h
  obtain ⟨k, hk, rfl⟩ := List.mem_map.mp h
  exact ⟨k, List.mem_range.mp hk, rfl⟩
theorem num_of {n : Nat} {p : Nat → Rat} {M : Int} {u : Nat} (hp : Part n p) (hn : n ≤ 8) (hM : 0 < M) (hf : Fig u M) (hd : ∀ k, k < n → (rp (p k)).2 ∣ M) : Num n p (unitOf n p) (wholeOf n p) u := by
  have key := lcmL_ok (M := M) ((qL n p).map Prod.snd) 1 (by decide) (fun b hb => by
    obtain ⟨f, hf, rfl⟩ := List.mem_map.mp hb
    obtain ⟨k, hk, rfl⟩ := qL_mem hf
    exact rp_pos _)
  obtain ⟨a1, a2, a3, a4⟩ := key
  have dv : unitOf n p ∣ M := a4 (Int.one_dvd M) fun b hb => by
    obtain ⟨f, hf, rfl⟩ := List.mem_map.mp hb
    obtain ⟨k, hk, rfl⟩ := qL_mem hf
    exact hd k hk
  have le : unitOf n p ≤ M := Int.le_of_dvd hM dv
  refine ⟨a1, hp, fun k hk => ?_, fig_between (Int.le_of_lt a1) le hf, hn⟩
  have dk : (rp (p k)).2 ∣ unitOf n p := a3 _ (List.mem_map.mpr ⟨_, List.mem_map.mpr ⟨k, List.mem_range.mpr hk, rfl⟩, rfl⟩)
  obtain ⟨c, hc⟩ := dk
  have pos := rp_pos (p k)
  have e : unitOf n p / (rp (p k)).2 = c := Int.ediv_eq_of_eq_mul_right (by omega) hc
  unfold wholeOf
  rw [e, hc, Rat.intCast_mul, Rat.intCast_mul]
  have h1 := rp_div (p k)
  have h2 := den_ne (p k)
  generalize hx : rp (p k) = x at *
  rw [← h1]
  grind
end L2

set_option Elab.async false
set_option linter.all false
set_option maxRecDepth 100000
set_option maxHeartbeats 1000000
namespace L2
open PySem PySem.Spec PySem.Calls PyProof.Rows PySem.W

/-! ### texts: split, join, walking a text -/
section
variable {X : Cx}
theorem vals_strs : ∀ l : List (Str × Tok), Vals ((l.map (·.1)).map V.str) (strValues l)
  | [] => .nil
  | (_, t) :: r => .cons ⟨t, rfl⟩ (vals_strs r)
def rSplit : V → List V → Hp → VK → Prop := fun x vs H Q => ∃ z y, x = .str z ∧ vs = [.str y] ∧ (y.length == 0) = false ∧ z.length + 2 ≤ sizeLine ∧ ∀ p, H p = none → Q (.ref p) (upd H p (.lst ((Txt.split z y).map V.str)))
theorem mt_split : MtR X "str.split" rSplit := by
  intro pins s σ H x vs v us Q I rx rv h
  obtain ⟨z, y, rfl, rfl, hy, hz, q⟩ := h
  obtain ⟨t, rfl⟩ := rx
  obtain ⟨u, rfl, ru⟩ := Vals.one rv
  obtain ⟨t2, rfl⟩ := ru
  have hn : (Txt.split z y).length ≤ sizeLine := Nat.le_trans (fact_split z y).2 hz
  have key : ∀ (l : List (Str × Tok)) (tk : Nat), l.map (·.1) = Txt.split z y → EP X pins σ Q (.ref s.heap.objs.size) { s with heap := s.heap.push { cls := .type "list", data := .seq (strValues l).toArray }, toks := tk } := fun l tk e =>
    ⟨.ref s.heap.objs.size, _, I.lnew (t' := tk) (its := strValues l) (ys := (Txt.split z y).map V.str) (by rw [← e]; exact vals_strs l) (by rw [List.length_map]; exact hn), rfl, q _ I.fresh⟩
  by_cases h1 : (decide (z.length < y.length) || decide (Builtin.Str.strKind z < Builtin.Str.strKind y)) = true
  · refine call_meets PySem.F.slot_str_split (typeIs_str ..) PySem.F.entry_str_split (PySem.F.args_str_split_2 ..) (meets_str_split_cannot_occur z y t t2 h1) ?_
    have e : Txt.split z y = [z] := if_pos h1
    exact key [(z, t)] s.toks (by rw [e]; rfl)
  · have h1' := Bool.eq_false_iff.mpr h1
    by_cases h2 : (Builtin.Str.occurrences z y 0 z.length (z.length + 1)).isEmpty = true
    · refine call_meets PySem.F.slot_str_split (typeIs_str ..) PySem.F.entry_str_split (PySem.F.args_str_split_2 ..) (meets_str_split_not_found z y t t2 h1' hy h2) ?_
      have e : Txt.split z y = [z] := (if_neg h1).trans (if_pos h2)
      exact key [(z, t)] s.toks (by rw [e]; rfl)
    · have h2' := Bool.eq_false_iff.mpr h2
      have e : Txt.split z y = Builtin.Str.partsBetween z (Builtin.Str.occurrences z y 0 z.length (z.length + 1)) y.length := (if_neg h1).trans (if_neg h2)
      refine call_meets PySem.F.slot_str_split (typeIs_str ..) PySem.F.entry_str_split (PySem.F.args_str_split_2 ..) (meets_str_split_sep z y t t2 h1' hy h2' (by omega) (by rw [← e]; exact hn)) ?_
      rw [strsFrom_eq]
      exact key _ _ (by rw [numbered_texts]; exact e.symm)
theorem strs_are : ∀ {ys : List Str} {its : List Value}, Vals (ys.map V.str) its → StrsAre its ys
  | [], _, .nil => .nil
  | y :: _, _, .cons ⟨t, e⟩ r => by
    subst e
    exact .cons y t (strs_are r)
def rJoin (K : PySem.W.Frag) : V → List V → Hp → VK → Prop := fun x vs H Q => ∃ z p ys, x = .str z ∧ vs = [.ref p] ∧ SqL K H p (ys.map V.str) ∧ (ys.map (·.length)).sum + ys.length * z.length ≤ 16777216 ∧ Q (.str (Txt.join z ys)) H
theorem mt_join : MtR X "str.join" (rJoin X.K) := by
  intro pins s σ H x vs v us Q I rx rv h
  obtain ⟨z, p, ys, rfl, rfl, hp, hz, q⟩ := h
  obtain ⟨t, rfl⟩ := rx
  obtain ⟨u, rfl, ru⟩ := Vals.one rv
  cases ru
  obtain ⟨its, r, ht, _⟩ := I.list hp
  exact join_list ht.isList (strs_are r) hz fun t' k => ⟨.str (Txt.join z ys), H, I.tok _, ⟨t', rfl⟩, q⟩
/-- a text, sign by sign -/
def Itx (z : Str) : It := ⟨fun i _ => i < z.cps.size, fun i H x H' => H' = H ∧ ∃ c, z.cps[i]? = some c ∧ x = .str ⟨#[c]⟩, fun i _ => i = z.cps.size⟩
theorem walks_str {P : Program} {w : World} {A : Around} (hh : A.handled = none) (it : Addr) (z : Str) (t : Tok) : Walks P w A it [it] [it] z.cps.size (SignAt z) fun i h => h.IsStrIter it (strIterType z) z t i := by
  unfold strIterType
  split
  · exact Walks.strAscii hh it z t
  · exact Walks.strWide hh it z t
theorem turn_str {P : Program} {w : World} {K : PySem.W.Frag} {tg : Expr} (it : Addr) (z : Str) (t : Tok) : Turn P w K tg (Itx z) [it] it (fun i h => h.IsStrIter it (strIterType z) z t i) where
  mem := by simp
  obj := fun i h st b hb => by
    have e : b = it := by simpa using hb
    subst e
    obtain ⟨o, e, c, d⟩ := st
    exact ⟨o, e, fun v z => by rw [d] at z; cases z⟩
  keep := fun i h h' st k => by
    obtain ⟨o, e, r⟩ := st
    exact ⟨o, k it (by simp) o e, r⟩
  item := by
    intro X hP hw hK hc i pins s σ H E I hf st hg
    subst hP hw hK
    obtain ⟨f0, f1, f2, f3, f4, f5⟩ := hf it (by simp)
    refine (walks_str (P := X.prog) (w := X.w) (I.ok.hd hc) it z t).item i s _ _ hg st fun v h' tk hv st' kk => ?_
    obtain ⟨c, u, ec, rfl⟩ := hv
    have I1 : Inv X pins σ H { s with heap := h', toks := tk } := I.turned (fun b o hb e => kk b o (by simpa using hb) e) f0 f1 f3 f4 f5
    obtain ⟨o, e, cl, d⟩ := id st'
    refine ⟨_, rfl, go_of (s := { s with heap := h', toks := tk }) e cl d ?_ ⟨.str ⟨#[c]⟩, H, I1, ⟨u, rfl⟩, ⟨rfl, c, ec, rfl⟩, st', fun b hb => (hf b hb).1⟩⟩
    unfold strIterType
    split <;> decide
  done := by
    intro X hP hw hK hc i pins s σ H E I hf st hg
    subst hP hw hK
    obtain ⟨f0, f1, f2, f3, f4, f5⟩ := hf it (by simp)
    cases (show i = z.cps.size from hg)
    exact (walks_str (P := X.prog) (w := X.w) (I.ok.hd hc) it z t).done s _ _ st fun h' tk eb => ⟨rfl, I.turned (fun b o hb e => eb b o (by simpa using hb) e) f0 f1 f3 f4 f5⟩
  self := fun A i s Q E st h => by
    unfold strIterType at st
    split at st
    · exact wpAny_pyIter_striter_ascii st h
    · exact wpAny_pyIter_striter_wide st h
def iStr (tl : TE) : TI := fun σ H R => tl σ H fun x H1 => ∃ z, x = .str z ∧ R (Itx z) H1
theorem pi_str {tg l : Expr} {tl : TE} (hl : PE X l tl) : PI X tg l (iStr tl) := by
  intro pins s σ H R I h
  refine thn (hl pins s σ H _ I h) fun v s1 ⟨x, H1, I1, r1, q1⟩ => ?_
  obtain ⟨z, e, q⟩ := q1
  subst e
  obtain ⟨t, rfl⟩ := r1
  refine wpAny_pyIter_strU ?_
  refine ⟨s1.heap.objs.size, [s1.heap.objs.size], _, _, H1, rfl, I1.kept (t' := s1.toks) fun b o e => Heap.get?_push_of_some _ e, turn_str _ z t, ⟨_, Heap.get?_push_size _ rfl, rfl, rfl⟩, fun b hb => ?_, q⟩
  have e : b = s1.heap.objs.size := by simpa using hb
  subst e
  exact I1.fpOk (Nat.le_refl _) (I1.hok.fresh (Nat.le_refl _))
end
section
variable {imp : List (Option Nat)} {te : TE} {σ rest : St} {H : Hp} {Q : VK}
theorem comp_strR {z : Str} (R : Hp → Nat → V → Prop) (hR : Grows R) (e0 : impS imp σ = none :: rest) (hn : z.cps.size ≤ sizeLine)
    (hs : ∀ i c H' Q', Same H H' → z.cps[i]? = some c → (∀ y H3, Same H' H3 → R H3 i y → Q' y H3) → te (some (.str ⟨#[c]⟩) :: rest) H' Q')
    (hd : ∀ l H' ys, Same H H' → H l = none → H' l = some (.lst ys) → ys.length = z.cps.size → (∀ i y, ys[i]? = some y → R H' i y) → Q (.ref l) H') : tCompR imp (gName 0) te (Itx z) σ H Q := by
  intro D hD
  refine ⟨fun i m ys σ' H' => m = z.cps.size - i ∧ i ≤ z.cps.size ∧ (∃ x, σ' = x :: rest) ∧ Same H H' ∧ H' D = some (.lst ys) ∧ ys.length = i ∧ ∀ j y, ys[j]? = some y → R H' j y,
    ⟨_, rfl, Nat.zero_le _, ⟨none, e0⟩, Same.upd hD, upd_same, rfl, fun j y e => by simp at e⟩, ?_⟩
  rintro i m ys σ' H' ⟨rfl, hi, ⟨x0, rfl⟩, s, eD, el, hr⟩
  by_cases hlt : i < z.cps.size
  · refine .inr ⟨hlt, fun y σ2 H3 => (∃ x, σ2 = x :: rest) ∧ Same H' H3 ∧ R H3 i y, ?_, ?_⟩
    · rintro y σ2 H3 ⟨⟨x, rfl⟩, s3, r3⟩
      refine ⟨s3 _ _ eD, by omega, z.cps.size - (i + 1), by omega, rfl, hlt, ⟨_, rfl⟩, Same.updN (s.trans s3) hD, upd_same, by simp [el], fun j w e => ?_⟩
      refine hR.chg (s3 _ _ eD) ?_
      by_cases hj : j < ys.length
      · rw [List.getElem?_append_left hj] at e
        exact hR.same s3 (hr j w e)
      · obtain ⟨rfl, rfl⟩ := last_item hj e
        rw [el]
        exact r3
    · rintro x H1 ⟨e, c, ec, rfl⟩
      subst e
      show te (some (.str ⟨#[c]⟩) :: rest) _ _
      exact hs i c _ _ s ec fun y H3 s3 r3 => ⟨⟨_, rfl⟩, s3, r3⟩
  · have e : i = z.cps.size := by omega
    subst e
    exact .inl ⟨rfl, hd D H' ys s hD eD el hr⟩
end
theorem for_str {z : Str} {g : TG} {tb : TS} {D : Ends} {σ : St} {H : Hp} (Pv : Nat → St → Hp → Prop) (h0 : Pv 0 σ H)
    (hs : ∀ i c σ H, z.cps[i]? = some c → Pv i σ H → g (.str ⟨#[c]⟩) σ H fun σ2 H2 => tb { D with nx := Pv (i + 1), ct := Pv (i + 1), bk := D.nx } σ2 H2) (hd : ∀ σ H, Pv z.cps.size σ H → D.nx σ H) :
    ∃ W : Nat → Nat → St → Hp → Prop, (∃ m, W 0 m σ H) ∧ ∀ i m σ H, W i m σ H →
      ((Itx z).stop i H ∧ D.nx σ H) ∨ ((Itx z).go i H ∧ ∃ N : St → Hp → Prop, (∀ σ' H', N σ' H' → ∃ m', m' < m ∧ W (i + 1) m' σ' H') ∧ ∀ x H', (Itx z).yld i H x H' → g x σ H' fun σ2 H2 => tb { D with nx := N, ct := N, bk := D.nx } σ2 H2) := by
  refine ⟨fun i m σ H => m = z.cps.size - i ∧ i ≤ z.cps.size ∧ Pv i σ H, ⟨z.cps.size, by simp, Nat.zero_le _, h0⟩, ?_⟩
  rintro i m σ H ⟨rfl, hi, p⟩
  by_cases hlt : i < z.cps.size
  · refine .inr ⟨hlt, Pv (i + 1), fun σ' H' p' => ⟨z.cps.size - (i + 1), by omega, rfl, hlt, p'⟩, ?_⟩
    rintro x H' ⟨e, c, ec, rfl⟩
    subst e
    exact hs i c σ _ ec p
  · have e : i = z.cps.size := by omega
    subst e
    exact .inl ⟨rfl, hd σ H p⟩
end L2

set_option Elab.async false
set_option linter.all false
set_option maxRecDepth 100000
set_option maxHeartbeats 1000000
namespace L2
open PySem PySem.NumText

/-! ### texts: what is written, what is read -/
theorem str_ext {x y : Str} (h : x.cps.toList = y.cps.toList) : x = y := by
  cases x; cases y
  simpa using h
theorem app_list (x y : Str) : (x ++ y).cps.toList = x.cps.toList ++ y.cps.toList := by
  show (x.cps ++ y.cps).toList = _
  simp
theorem app_len (x y : Str) : (x ++ y).length = x.length + y.length := by
  show (x.cps ++ y.cps).size = _
  simp [Str.length]
theorem app_assoc (x y z : Str) : (x ++ y) ++ z = x ++ (y ++ z) := str_ext (by simp only [app_list, List.append_assoc])
theorem empty_app (x : Str) : Str.empty ++ x = x := str_ext (by rw [app_list]; rfl)
theorem len_list (x : Str) : x.length = x.cps.toList.length := by simp [Str.length]
theorem join_one' (s x : Str) : s.join [x] = x := rfl
theorem join_two (s x y : Str) (r : List Str) : s.join (x :: y :: r) = x ++ s ++ s.join (y :: r) := by rw [Str.join.eq_def]
theorem join_end (s : Str) : ∀ (ps : List Str) (p : Str), ps ≠ [] → s.join (ps ++ [p]) = s.join ps ++ s ++ p
  | [], _, h => absurd rfl h
  | [x], p, _ => by
    show s.join [x, p] = _
    rw [join_two, join_one', join_one']
  | x :: y :: r, p, _ => by
    have ih := join_end s (y :: r) p (by simp)
    show s.join (x :: y :: (r ++ [p])) = _
    rw [join_two, join_two]
    have : y :: (r ++ [p]) = (y :: r) ++ [p] := rfl
    rw [this, ih]
    simp only [app_assoc]
theorem cut_inj {c : Nat} : ∀ {a a' b b' : List Nat}, c ∉ a → c ∉ a' → a ++ c :: b = a' ++ c :: b' → a = a' ∧ b = b'
  | [], [], _, _, _, _, h => by simpa using h
  | [], x :: a', _, _, _, h2, h => by
    simp only [List.nil_append, List.cons_append, List.cons.injEq] at h
    exact absurd (h.1 ▸ List.mem_cons_self) h2
  | x :: a, [], _, _, h1, _, h => by
    simp only [List.nil_append, List.cons_append, List.cons.injEq] at h
    exact absurd (h.1 ▸ List.mem_cons_self) h1
  | x :: a, y :: a', _, _, h1, h2, h => by
    simp only [List.cons_append, List.cons.injEq] at h
    have := cut_inj (fun z => h1 (List.mem_cons_of_mem _ z)) (fun z => h2 (List.mem_cons_of_mem _ z)) h.2
    exact ⟨by rw [h.1, this.1], this.2⟩
theorem join_inj {c : Nat} : ∀ {ps qs : List Str}, ps ≠ [] → qs ≠ [] → (∀ p ∈ ps, c ∉ p.cps.toList) → (∀ p ∈ qs, c ∉ p.cps.toList) → (Str.mk #[c]).join ps = (Str.mk #[c]).join qs → ps = qs
  | [], _, h, _, _, _, _ => absurd rfl h
  | _, [], _, h, _, _, _ => absurd rfl h
  | [x], [y], _, _, _, _, h => by rw [join_one', join_one'] at h; rw [h]
  | [x], y :: z :: r, _, _, h1, _, h => by
    rw [join_one', join_two] at h
    refine absurd ?_ (h1 x (by simp))
    rw [h, app_list, app_list]
    simp
  | x :: y :: r, [z], _, _, _, h2, h => by
    rw [join_one', join_two] at h
    refine absurd ?_ (h2 z (by simp))
    rw [← h, app_list, app_list]
    simp
  | x :: y :: r, x' :: y' :: r', _, _, h1, h2, h => by
    rw [join_two, join_two] at h
    have e := congrArg (fun s : Str => s.cps.toList) h
    simp only [app_list, List.append_assoc] at e
    obtain ⟨e1, e2⟩ := cut_inj (h1 x (by simp)) (h2 x' (by simp)) e
    have ih := join_inj (ps := y :: r) (qs := y' :: r') (by simp) (by simp) (fun p hp => h1 p (List.mem_cons_of_mem _ hp)) (fun p hp => h2 p (List.mem_cons_of_mem _ hp)) (str_ext e2)
    rw [str_ext e1, ih]
theorem split_join {c : Nat} {ps : List Str} (h : ps ≠ []) (hf : ∀ p ∈ ps, c ∉ p.cps.toList) : Txt.split ((Str.mk #[c]).join ps) ⟨#[c]⟩ = ps := by
  have f := (PyProof.Rows.fact_split ((Str.mk #[c]).join ps) ⟨#[c]⟩).1
  refine join_inj (c := c) (fun z => ?_) h (fun p hp => StrLaws.split_free _ c p hp) hf (StrLaws.join_split _ _)
  rw [z] at f
  exact absurd f (by decide)
theorem join_part (s : Str) : ∀ {ps : List Str} {p : Str}, p ∈ ps → p.length ≤ (s.join ps).length
  | [x], p, h => by
    simp at h
    rw [h, join_one']
    exact Nat.le_refl _
  | x :: y :: r, p, h => by
    rw [join_two, app_len, app_len]
    rcases List.mem_cons.mp h with rfl | h
    · omega
    · have := join_part s (ps := y :: r) h
      omega
theorem split_part {z y p : Str} (h : p ∈ Txt.split z y) : p.length ≤ z.length := by
  have := join_part y h
  rw [StrLaws.join_split] at this
  exact this
/-- signs of a text -/
abbrev figs : Str := "0123456789"
theorem figs_list : figs.cps.toList = [48, 49, 50, 51, 52, 53, 54, 55, 56, 57] := by decide
theorem in_figs (c : Nat) : (!(Builtin.Str.occurrences figs ⟨#[c]⟩ 0 figs.length 1).isEmpty) = decide (48 ≤ c ∧ c ≤ 57) := by
  rw [StrLaws.found_one, figs_list]
  rw [Bool.eq_iff_iff, decide_eq_true_eq, decide_eq_true_eq]
  simp
  omega
def numOk (cs : List Nat) : Prop := 1 ≤ cs.length ∧ cs.length ≤ 12 ∧ (∀ c ∈ cs, 48 ≤ c ∧ c ≤ 57) ∧ ¬ (cs.head? = some 48 ∧ 1 < cs.length)
instance (cs : List Nat) : Decidable (numOk cs) := by unfold numOk; infer_instance
def numF (z : Str) : Option Int := if numOk z.cps.toList then some (digitsVal z.cps.toList : Int) else none
theorem numF_text {z : Str} {n : Int} (h : numF z = some n) : PySem.intText? z = some n ∧ z.length ≤ 640 := by
  unfold numF at h
  split at h
  · rename_i k
    obtain ⟨k1, k2, k3, _⟩ := k
    cases h
    have hl := len_list z
    exact ⟨PySem.intText_digits k3 (fun e => by rw [e] at k1; exact absurd k1 (by decide)) (by omega), by omega⟩
  · cases h
theorem digits_lt : ∀ (cs : List Nat) (a : Nat), (∀ c ∈ cs, 48 ≤ c ∧ c ≤ 57) → cs.foldl (fun acc c => acc * 10 + (c - 48)) a < (a + 1) * 10 ^ cs.length
  | [], a, _ => by simp
  | c :: r, a, h => by
    have ih := digits_lt r (a * 10 + (c - 48)) fun x hx => h x (List.mem_cons_of_mem _ hx)
    have hc := h c (by simp)
    rw [List.foldl_cons, List.length_cons, Nat.pow_succ]
    refine Nat.lt_of_lt_of_le ih ?_
    have : (a * 10 + (c - 48) + 1) ≤ (a + 1) * 10 := by omega
    calc (a * 10 + (c - 48) + 1) * 10 ^ r.length ≤ ((a + 1) * 10) * 10 ^ r.length := Nat.mul_le_mul_right _ this
      _ = (a + 1) * (10 ^ r.length * 10) := by rw [Nat.mul_assoc, Nat.mul_comm 10]
theorem numF_rng {z : Str} {n : Int} (h : numF z = some n) : 0 ≤ n ∧ n < 10 ^ 12 := by
  unfold numF at h
  split at h
  · rename_i k
    obtain ⟨k1, k2, k3, _⟩ := k
    cases h
    have := digits_lt z.cps.toList 0 k3
    have p : 10 ^ z.cps.toList.length ≤ 10 ^ 12 := Nat.pow_le_pow_right (by decide) k2
    have d : digitsVal z.cps.toList < 10 ^ 12 := by
      unfold digitsVal
      omega
    omega
  · cases h
theorem num_back {n : Int} (h0 : 0 ≤ n) (h1 : n < 10 ^ 12) : numF (Str.ofString (toString n)) = some n := by
  obtain ⟨m, rfl⟩ := Int.eq_ofNat_of_zero_le h0
  have e := PySem.W.KIN.signs_num m
  have v := PySem.W.KIN.val_back m
  have dg : ∀ c ∈ List.map Char.toNat (Nat.toDigits 10 m), 48 ≤ c ∧ c ≤ 57 := fun c hc => by
    obtain ⟨ch, hch, rfl⟩ := List.mem_map.mp hc
    exact PyProof.Rows.digit_range (Nat.isDigit_of_mem_toDigits (by decide) (by decide) hch)
  have l1 := PySem.toDigits_len_ge 10 m
  have l2 : (Nat.toDigits 10 m).length ≤ 12 := PySem.toDigits_len_pow (by decide) (by decide) (by omega)
  unfold numF
  rw [e]
  rw [if_pos, v]
  refine ⟨by rw [List.length_map]; exact l1, by rw [List.length_map]; exact l2, dg, fun ⟨z1, z2⟩ => ?_⟩
  have a := PySem.NumText.toDigits_all _ dg
  rw [v] at a
  rw [List.length_map] at z2
  revert a z1 z2
  generalize Nat.toDigits 10 m = ds
  intro z1 z2 a
  cases ds with
  | nil => simp at z2
  | cons d r =>
    simp only [List.map_cons, List.head?_cons, Option.some.injEq] at z1
    have le : (List.dropWhile (fun x => x == 48) (List.map Char.toNat r)).length ≤ r.length := by
      have := (List.dropWhile_sublist (fun x => x == 48) (l := List.map Char.toNat r)).length_le
      rw [List.length_map] at this
      exact this
    simp only [List.map_cons, List.dropWhile_cons, z1, beq_self_eq_true, if_true] at a
    split at a
    · rw [a] at z2
      exact absurd z2 (by decide)
    · rename_i c r' heq
      rw [heq] at le
      have := congrArg List.length a
      simp at this
      simp at le
      omega
theorem num_len {n : Int} (h0 : 0 ≤ n) (h1 : n < 10 ^ 12) : (Str.ofString (toString n)).length ≤ 12 := by
  have h := num_back h0 h1
  unfold numF at h
  split at h
  · rename_i k
    rw [len_list]
    exact k.2.1
  · cases h
theorem num_free {n : Int} {k : Nat} (hk : k ≠ 45 ∧ (k < 48 ∨ 57 < k)) : k ∉ (Str.ofString (toString n)).cps.toList := PyProof.Rows.int_text_free' k hk n
theorem frD_eqv {f g : Int × Int} : PyData.eqv (frD f) (frD g) = decide (f = g) := by
  obtain ⟨a, b⟩ := f
  obtain ⟨c, d⟩ := g
  simp only [frD, PyData.eqv, PyData.eqvAll]
  by_cases h1 : a = c <;> by_cases h2 : b = d <;> simp [h1, h2]
/-- a part, as it is written -/
def textF (f : Int × Int) : Str := Str.ofString (toString f.1) ++ "/" ++ Str.ofString (toString f.2)
def partOk (f : Int × Int) : Prop := f.2 ≠ 0 ∧ f.1 ≤ f.2 ∧ lowP f.1 f.2 = f
instance (f : Int × Int) : Decidable (partOk f) := by unfold partOk; infer_instance
def pairF : List (Option Int) → Option (Int × Int)
  | [some t, some b] => if partOk (t, b) then some (t, b) else none
  | _ => none
theorem pair_two : ∀ os : List (Option Int), os.length ≠ 2 → pairF os = none
  | [], _ => rfl
  | [o], _ => by cases o <;> rfl
  | [_, _], h => absurd rfl h
  | o :: p :: _ :: _, _ => by cases o <;> cases p <;> rfl
def partZ (z : Str) : Option (Int × Int) := pairF ((Txt.split z "/").map numF)
def allZ : List Str → Option (List (Int × Int))
  | [] => some []
  | z :: r => match partZ z, allZ r with
    | some f, some fs => some (f :: fs)
    | _, _ => none
def readZ (z : Str) : Option (List (Int × Int)) := if (Txt.split z " ").length ≤ 8 then allZ (Txt.split z " ") else none
theorem slash : ("/" : Str) = ⟨#[47]⟩ := by decide
theorem blank : (" " : Str) = ⟨#[32]⟩ := by decide
structure Wr (f : Int × Int) : Prop where
  top : 0 ≤ f.1
  le : f.1 ≤ f.2
  pos : 0 < f.2
  lim : f.2 < 10 ^ 12
  low : lowP f.1 f.2 = f
theorem part_back {f : Int × Int} (h : Wr f) : partZ (textF f) = some f := by
  have h1 := h.top
  have h2 := h.le
  have h3 := h.pos
  have h4 := h.lim
  have e : textF f = (Str.mk #[47]).join [Str.ofString (toString f.1), Str.ofString (toString f.2)] := by
    rw [join_two, join_one', ← slash]
    rfl
  unfold partZ
  rw [e, slash, split_join (by simp) fun p hp => ?_]
  · show pairF [numF _, numF _] = _
    rw [num_back h1 (by omega), num_back (by omega) h4]
    show (if partOk (f.1, f.2) then some (f.1, f.2) else none) = _
    rw [if_pos ⟨by show f.2 ≠ 0; omega, h2, h.low⟩]
  · simp at hp
    rcases hp with rfl | rfl
    · exact num_free ⟨by decide, by decide⟩
    · exact num_free ⟨by decide, by decide⟩
theorem all_back : ∀ {fs : List (Int × Int)}, (∀ f ∈ fs, Wr f) → allZ (fs.map textF) = some fs
  | [], _ => rfl
  | f :: r, h => by
    have ih := all_back (fs := r) fun g hg => h g (List.mem_cons_of_mem _ hg)
    show (match partZ (textF f), allZ (r.map textF) with | some f, some fs => some (f :: fs) | _, _ => none) = _
    rw [part_back (h f (by simp)), ih]
theorem text_free (f : Int × Int) : 32 ∉ (textF f).cps.toList := by
  unfold textF
  rw [app_list, app_list, slash]
  intro z
  simp only [List.mem_append] at z
  rcases z with (z | z) | z
  · exact num_free ⟨by decide, by decide⟩ z
  · simp at z
  · exact num_free ⟨by decide, by decide⟩ z
theorem text_len {f : Int × Int} (h : Wr f) : (textF f).length ≤ 25 := by
  have h1 := h.top
  have h2 := h.le
  have h3 := h.pos
  have h4 := h.lim
  unfold textF
  rw [app_len, app_len]
  have := num_len h1 (by omega)
  have := num_len (Int.le_of_lt h3) h4
  have : ("/" : Str).length = 1 := by decide
  omega
theorem split_texts {fs : List (Int × Int)} (h : fs ≠ []) : Txt.split ((" " : Str).join (fs.map textF)) " " = fs.map textF := by
  rw [blank]
  refine split_join (by simpa using h) fun p hp => ?_
  obtain ⟨f, _, rfl⟩ := List.mem_map.mp hp
  exact text_free f
theorem read_back {fs : List (Int × Int)} (h : fs ≠ []) (h8 : fs.length ≤ 8) (hw : ∀ f ∈ fs, Wr f) : readZ ((" " : Str).join (fs.map textF)) = some fs := by
  unfold readZ
  rw [split_texts h, if_pos (by rw [List.length_map]; exact h8), all_back hw]
theorem join_len {fs : List (Int × Int)} (hw : ∀ f ∈ fs, Wr f) : ((" " : Str).join (fs.map textF)).length ≤ 26 * fs.length := by
  induction fs with
  | nil => decide
  | cons f r ih =>
    have ih := ih fun g hg => hw g (List.mem_cons_of_mem _ hg)
    have l := text_len (hw f (by simp))
    cases r with
    | nil =>
      show (textF f).length ≤ 26 * 1
      omega
    | cons g r =>
      show ((" " : Str).join (textF f :: textF g :: r.map textF)).length ≤ _
      rw [join_two, app_len, app_len]
      have : (" " : Str).length = 1 := by decide
      have ih' : ((" " : Str).join (textF g :: r.map textF)).length ≤ 26 * (r.length + 1) := ih
      simp only [List.length_cons] at *
      omega
theorem sum_len {fs : List (Int × Int)} (hw : ∀ f ∈ fs, Wr f) : ((fs.map textF).map (·.length)).sum ≤ 25 * fs.length := by
  induction fs with
  | nil => decide
  | cons f r ih =>
    have ih := ih fun g hg => hw g (List.mem_cons_of_mem _ hg)
    have l := text_len (hw f (by simp))
    simp only [List.map_cons, List.sum_cons, List.length_cons]
    omega
end L2

set_option Elab.async false
set_option linter.all false
set_option maxRecDepth 100000
set_option maxHeartbeats 1000000
namespace L2
open PySem PySem.Spec PySem.Calls PyProof.Rows PySem.W

/-! ### an exception that leaves a comprehension's item -/
theorem ff_mono {h h' base base' : Heap} : ∀ {l : List Env}, h.FunFrames base l → (∀ b ∈ frs l, ∀ o, h.get? b = some o → (∀ vs, o.data ≠ .fields vs) → ∃ o', h'.get? b = some o' ∧ ∀ vs, o'.data ≠ .fields vs) → (∀ b, base.get? b = none → base'.get? b = none) → h'.FunFrames base' l
  | [], _, _, _ => trivial
  | env :: r, hl, k, kb => by
    obtain ⟨hk, ⟨L, o, hf, hn, ho, hd⟩, hr⟩ := hl
    have hL : L ∈ frs (env :: r) := by unfold frs; rw [List.filterMap_cons, hf]; exact List.mem_cons_self
    obtain ⟨o', e', d'⟩ := k L hL o ho hd
    exact ⟨hk, ⟨L, o', hf, kb L hn, e', d'⟩, ff_mono hr (fun b hb => k b (by unfold frs; rw [List.filterMap_cons, hf]; exact List.mem_cons_of_mem _ hb)) kb⟩
theorem note_same (x : Value) (scope : Scope) (cl : List (Str × Addr)) (C : Addr) (env : Env) : noteFrame x (compEnvC scope cl C env) = noteFrame x env := rfl
/-- the flight of an exception that is held: told anew -/
theorem held_flight {M : Model} {A : Around} {E : Value → Shared → Prop} {s : Shared} {base : Heap} {l : List Env} {e L L' : Addr} {cls a0 : Value} {Q : Unit → Shared → Prop} (h : base.HeldW l e cls a0 L s.heap)
    (q : ∀ h', base.HeldW l e cls a0 L' h' → s.heap.UpToSlots h' → Q () { s with heap := h' }) : wpAny M A (setFlight (.ref e) (some L')) Q E s := by
  obtain ⟨st, en, ff, oe, vs, T, oT, ts, he, hcl, hd, h1, hT, hTe, hT', hTd, h3⟩ := h
  unfold setFlight
  refine wpAny_bind (wpAny_field he hd h1 ?_)
  rw [if_pos (by rfl)]
  have h3' : 3 < ts.size := by
    rcases Nat.lt_or_ge 3 ts.size with z | z
    · exact z
    · rw [Array.getElem?_eq_none z] at h3
      cases h3
  refine wpAny_setField hT' hTd h3' (q _ ⟨fun b o e' => ?_, en, ff_mono ff (fun b hb o e' d => ⟨o, ?_, d⟩) (fun _ z => z), oe, vs, T, _, ts.setIfInBounds 3 (rawInt (L' : Int)), ?_, hcl, hd, h1, hT, hTe, Heap.get?_update_self _ hT' ?_, ?_, ?_⟩ fun b o e' d => ⟨o.slots, ?_⟩)
  · rw [Heap.get?_update_other _ _ (fun z => by rw [← z, hT] at e'; cases e')]
    exact st b o e'
  · rw [Heap.get?_update_other _ _ (fun z => by rw [← z, hT'] at e'; cases e'; exact d _ hTd)]
    exact e'
  · rw [Heap.get?_update_other _ _ hTe]
    exact he
  · cases oT with
    | mk c d dt sl =>
      cases hTd
      rfl
  · show (Obj.mapFields _ oT).data = _
    cases oT with
    | mk c d dt sl =>
      cases hTd
      rfl
  · rw [Array.getElem?_setIfInBounds_self_of_lt h3']
  · rw [Heap.get?_update_other _ _ (fun z => by rw [← z, hT'] at e'; cases e'; exact d _ hTd), e']
section
variable {X : Cx} {pins : List (Addr × Obj)} {σ : St} {H H' : Hp} {s : Shared}
theorem Inv.leaveC {h2 B : Heap} {C : Addr} (I : Inv X pins σ H s) (hx : X.ex = []) (hC : X.s₀.heap.objs.size ≤ C) (u : Un (frs X.stack) [C] H H' s.heap h2) (kb : ∀ b o, b ≠ C → s.heap.get? b = some o → H b = none → b ∉ frs X.stack → B.get? b = some o) (kt : ∀ b o, b ≠ C → s.heap.get? b = some o → b ∉ frs X.stack → ∃ o', B.get? b = some o') (st : B.StaysIn h2) :
    Un (frs X.outer) [] X.H₀ H' X.s₀.heap h2 ∧ (∀ b o, X.s₀.heap.get? b = some o → X.H₀ b = none → b ∉ frs X.outer → B.get? b = some o) ∧ (∀ b o, X.s₀.heap.get? b = some o → b ∉ frs X.outer → ∃ o', B.get? b = some o') := by
  have nx : ∀ b, b ∉ X.ex := fun b z => by rw [hx] at z; cases z
  have nc : ∀ b o, X.s₀.heap.get? b = some o → b ≠ C := fun b o e => Nat.ne_of_lt (Nat.lt_of_lt_of_le (Heap.lt_size e) hC)
  have nl : ∀ b o, X.s₀.heap.get? b = some o → b ∉ [C] := fun b o e z => nc b o e (by simpa using z)
  have kb' : ∀ b o, X.s₀.heap.get? b = some o → X.H₀ b = none → b ∉ frs X.outer → B.get? b = some o := fun b o e n hb => kb b o (nc b o e) (I.base.keep b o e n hb (nx b)) (I.base.free b o e n (nx b)) (I.frs_old e hb)
  have kt' : ∀ b o, X.s₀.heap.get? b = some o → b ∉ frs X.outer → ∃ o', B.get? b = some o' := fun b o e hb => by
    obtain ⟨o1, e1⟩ := I.base.there b o e (nx b)
    exact kt b o1 (nc b o e) e1 (I.frs_old e hb)
  have sl : ∀ b o, X.s₀.heap.get? b = some o → X.H₀ b = none → b ∈ frs X.outer → ∃ sl, h2.get? b = some { o with slots := sl } := fun b o e n hb => by
    obtain ⟨s1, e1⟩ := I.base.slot b o e n hb (nx b)
    obtain ⟨s2, e2⟩ := u.any e1 (I.base.free b o e n (nx b)) (nl b o e)
    exact ⟨s2, e2⟩
  refine ⟨⟨fun b o e n hb _ => st b o (kb' b o e n hb), fun b o e n hb _ => sl b o e n hb, fun b o e n _ => ?_, fun b o e _ => ?_, fun b xs e => u.tups b xs (I.base.tups b xs e), fun b o xs e => u.frzs b o xs (I.base.frzs b o xs e), fun b ps e => ?_⟩, kb', kt'⟩
  · obtain ⟨o1, e1⟩ := I.base.there b o e (nx b)
    exact u.free b o1 e1 (I.base.free b o e n (nx b)) (nl b o e)
  · obtain ⟨o1, e1⟩ := I.base.there b o e (nx b)
    exact u.there b o1 e1 (nl b o e)
  · obtain ⟨m1, e1⟩ := I.base.tbls b ps e
    obtain ⟨m2, e2⟩ := u.tbls b _ e1
    exact ⟨m1 ++ m2, by rw [e2, Array.append_assoc]⟩
theorem Un.flyC {fs : List Addr} {h h1 h2 B : Heap} {C : Addr} (u : Un fs [] H H' h h1) (hf : ∀ b ∈ fs, H b = none ∧ ∀ o, h.get? b = some o → ∀ vs, o.data ≠ .fields vs)
    (kb : ∀ b o, b ≠ C → h.get? b = some o → H b = none → b ∉ fs → B.get? b = some o) (kt : ∀ b o, b ≠ C → h.get? b = some o → b ∉ fs → ∃ o', B.get? b = some o') (st : B.StaysIn h2)
    (sm : ∀ b o, b ≠ C → h1.get? b = some o → (∀ vs, o.data ≠ .fields vs) → ∃ sl, h2.get? b = some { o with slots := sl }) : Un fs [C] H H' h h2 := by
  have nc : ∀ {b}, b ∉ [C] → b ≠ C := fun z e => z (by simp [e])
  have sl : ∀ b o, b ≠ C → h.get? b = some o → b ∈ fs → ∃ sl, h2.get? b = some { o with slots := sl } := fun b o n e hb => by
    obtain ⟨s1, e1⟩ := u.any e (hf b hb).1 (by simp)
    obtain ⟨s2, e2⟩ := sm b _ n e1 ((hf b hb).2 o e)
    exact ⟨s2, e2⟩
  refine ⟨fun b o e n hb z => st b o (kb b o (nc z) e n hb), fun b o e n hb z => sl b o (nc z) e hb, fun b o e n z => u.free b o e n (by simp), fun b o e z => ?_, u.tups, u.frzs, u.tbls⟩
  by_cases hb : b ∈ fs
  · obtain ⟨y, q⟩ := sl b o (nc z) e hb
    exact ⟨_, q⟩
  · obtain ⟨o', q⟩ := kt b o (nc z) e hb
    exact ⟨o', st b o' q⟩
end
section
variable {P : Program} {w : World} {K : PySem.W.Frag} {mg : Str → Option Value} {base : Heap} {N : List Str} {qual : Str} {scope : Scope} {f : Addr} {cd : Value} {A : Around} {outer : List Env} {s0 : Shared} {H0 : Hp} {E : XK}
/-- a callee's exception leaves the comprehension, its names are let go, it leaves this def too -/
theorem comp_out {sc : Scope} {cl : List (Str × Addr)} {C : Addr} {pins : List (Addr × Obj)} {σ : St} {H6 : Hp} {s6 s' : Shared} {m6 : Str → Option Value} {e : Value} {cenv : Env} {what : String} {Q : Value → Shared → Prop}
    (I6 : Inv (cxOf (CX1 P w) P w K mg base N qual scope f cd A outer s0 H0 E) pins σ H6 s6) (hC0 : s0.heap.objs.size ≤ C) (hCs : C ∉ frs (envOfC qual scope s0.heap.objs.size f cd :: outer)) (hC6 : s6.heap.Ns C m6) (hCn : H6 C = none) (hcf : cenv.frame = some s0.heap.objs.size)
    (h : CX1 P w (envOfC qual scope s0.heap.objs.size f cd :: outer) H6 s6 E e s') :
    notedBy (model P w) (A.deeper (envOfC qual scope s0.heap.objs.size f cd)) (compEnvC sc cl C (envOfC qual scope s0.heap.objs.size f cd)) (fun x s1 => ∃ m, s1.heap.Ns C m ∧ ∀ h', Heap.SameBut C s1.heap h' →
      wpAny (model P w) (A.deeper (envOfC qual scope s0.heap.objs.size f cd)) (PySem.passOn what x cenv) Q (cxOf (CX1 P w) P w K mg base N qual scope f cd A outer s0 H0 E).xe { s1 with heap := h' }) e s' := by
  obtain ⟨x, Cx, a0, B, H', rfl, ho, hg, u, hok, kb, kt, fl, q⟩ := h
  show wpAny _ _ (noteFrame (.ref x) (envOfC qual scope s0.heap.objs.size f cd)) _ _ s'
  refine wpAny_looks_onW (L := s0.heap.objs.size) I6.ok.frames rfl fl fun h1 hd1 sm1 => ?_
  obtain ⟨oC, es, ep, hoC, rC⟩ := hC6
  have hBC : B.get? C = some oC := kb C oC hoC hCn hCs
  refine ⟨m6, ⟨oC, es, ep, hd1.1 C oC hBC, rC⟩, fun h' sb => ?_⟩
  have hB2 : ∀ b o, (hideAll B [C]).get? b = some o → B.get? b = some o ∧ b ≠ C := fun b o e => ⟨of_hideAll _ e, fun z => by
    rw [hideAll_none [C] (by simp [z])] at e
    cases e⟩
  have hN2 : ∀ b, B.get? b = none → (hideAll B [C]).get? b = none := fun b z => by
    cases e : (hideAll B [C]).get? b with
    | none => rfl
    | some o => rw [(hB2 b o e).1] at z; cases z
  have hd2 : (hideAll B [C]).HeldW (envOfC qual scope s0.heap.objs.size f cd :: outer) x (.ref Cx) a0 s0.heap.objs.size h' := by
    obtain ⟨st, en, ff, oe, vs, T, oT, ts, he, hcl, hd, hv1, hT, hTe, hT', hTd, hv3⟩ := hd1
    have nx : x ≠ C := fun z => by rw [z, hBC] at en; cases en
    have nT : T ≠ C := fun z => by rw [z, hBC] at hT; cases hT
    refine ⟨fun b o e => ?_, hN2 x en, ff_mono ff (fun b hb o e d => ⟨o, ?_, d⟩) hN2, oe, vs, T, oT, ts, (sb.2 x nx).trans he, hcl, hd, hv1, hN2 T hT, hTe, (sb.2 T nT).trans hT', hTd, hv3⟩
    · obtain ⟨e1, n1⟩ := hB2 b o e
      exact (sb.2 b n1).trans (st b o e1)
    · exact (sb.2 b fun z => hCs (z ▸ hb)).trans e
  unfold PySem.passOn
  obtain ⟨oe, vs, T, oT, ts, he, _, hd, hv1, _⟩ := hd2.2.2.2
  refine wpAny_bind (wpAny_field he hd hv1 ?_)
  rw [if_neg (by intro z; cases z), hcf]
  refine wpAny_bind (held_flight (L' := s0.heap.objs.size) hd2 fun h2 hd3 sm2 => wpAny_throw ?_)
  show wpAny _ _ (leaving _ _) _ _ _
  unfold leaving
  refine wpAny_bind (wpAny_noteFrame_againW (base := hideAll B [C]) (cls := .ref Cx) (a0 := a0) rfl hd3.2.2.2 ?_)
  refine wpAny_landsW hd3 fun h3 fl3 sm3 => ?_
  have fl4 : (hideAll B [C]).FlyingW outer x (.ref Cx) a0 h3 := ⟨fl3.1, fl3.2.1, fl3.2.2.1.2.2, fl3.2.2.2⟩
  have sm : ∀ b o, b ≠ C → s'.heap.get? b = some o → (∀ vs, o.data ≠ .fields vs) → ∃ sl, h3.get? b = some { o with slots := sl } := fun b o n e d => by
    obtain ⟨l1, e1⟩ := sm1 b o e d
    obtain ⟨l2, e2⟩ := sm2 b _ ((sb.2 b n).trans e1) d
    obtain ⟨l3, e3⟩ := sm3 b _ e2 d
    exact ⟨l3, e3⟩
  have hidB : ∀ b o, b ≠ C → B.get? b = some o → (hideAll B [C]).get? b = some o := fun b o n e => hideAll_get _ e (by simpa using n)
  have kb2 : ∀ b o, b ≠ C → s6.heap.get? b = some o → H6 b = none → b ∉ frs (envOfC qual scope s0.heap.objs.size f cd :: outer) → (hideAll B [C]).get? b = some o := fun b o n e z hb => hidB b o n (kb b o e z hb)
  have kt2 : ∀ b o, b ≠ C → s6.heap.get? b = some o → b ∉ frs (envOfC qual scope s0.heap.objs.size f cd :: outer) → ∃ o', (hideAll B [C]).get? b = some o' := fun b o n e hb => by
    obtain ⟨o', e'⟩ := kt b o e hb
    exact ⟨o', hidB b o' n e'⟩
  obtain ⟨a1, a2, a3⟩ := I6.leaveC rfl hC0 (u.flyC I6.frs_ok kb2 kt2 fl4.1 sm) kb2 kt2 fl4.1
  have hn' : H' C = none := u.free C oC hoC hCn (by simp)
  exact ⟨x, Cx, a0, _, H', rfl, ho.trans I6.os, hg, a1, hok.hide fun b hb => (by
    have : b = C := by simpa using hb
    rw [this]; exact hn'), a2, a3, fl4, q⟩
end
/-- what is known of an exception that leaves the item -/
def EX (X : Cx) (N : List Str) (scope : Scope) (cl : List (Str × Addr)) (E : XK) (C : Addr) (s : Shared) (H : Hp) (fp : List Addr) : Value → Shared → Prop := fun e s' =>
  ∃ pins σ H6 s6, Inv (cxC X N scope cl C s H fp) pins σ H6 s6 ∧ CX1 X.prog X.w X.stack H6 s6 E e s'
theorem passX {X : Cx} {N : List Str} {scope : Scope} {cl : List (Str × Addr)} {E : XK} {C : Addr} {s : Shared} {H : Hp} {fp : List Addr} : Passes (CX1 X.prog X.w) ((cxC X N scope cl C s H fp).wish (EX X N scope cl E C s H fp)) E :=
  fun pins σ H6 s6 e s' I h => ⟨pins, σ, H6, s6, I.unwish, h⟩
section
variable {X : Cx} {N : List Str} {scope : Scope} {cl : List (Str × Addr)} {imp : List (Option Nat)} {elt iter tg : Expr} {pos : Pos} {g : TG} {te : TE} {EE : XK}
theorem comp_coreX {pins : List (Addr × Obj)} {σ : St} {H2 : Hp} {s2 : Shared} {J : It} {fp : List Addr} {it : Addr} {tn : Nat → Heap → Prop} {Q : VK} {E : Value → Shared → Prop} {RR : Value → Env → Result → Shared → Prop}
    (hc : X.calm = true) (ok : CompOk X N scope cl imp) (hg : ∀ C s H fp, PG ((cxC X N scope cl C s H fp).wish (EX X N scope cl EE C s H fp)) tg g) (he : ∀ C s H fp, PE ((cxC X N scope cl C s H fp).wish (EX X N scope cl EE C s H fp)) elt te)
    (I2 : Inv X pins σ H2 s2) (Tn : Turn X.prog X.w X.K tg J fp it tn) (t0 : tn 0 s2.heap) (hfp : ∀ b ∈ fp, FpOk X pins H2 b) (rd : tCompR imp g te J σ H2 Q)
    (hRR : ∀ D cenv s' H' m, Inv X pins σ H' s' → s'.heap.Ns cenv.locals m → H' cenv.locals = none → s2.heap.objs.size < cenv.locals → Q (.ref D) H' → RR (.ref D) cenv (.ok .next) s')
    (hRE : ∀ D cenv e s' H6 s6 m, cenv.frame = X.env.frame → Inv X pins σ H6 s6 → s6.heap.Ns cenv.locals m → H6 cenv.locals = none → s2.heap.objs.size < cenv.locals → cenv.locals ∉ frs X.stack → CX1 X.prog X.w X.stack H6 s6 EE e s' →
      notedBy (model X.prog X.w) X.A (compEnvC scope cl cenv.locals X.env) (fun e s1 => RR (.ref D) cenv (.error e) s1) e s') :
    wpAny (model X.prog X.w) X.A (newList []) (fun acc s₃ => wpAny (model X.prog X.w) X.A (newFunctionEnv scope X.env.globals cl [] X.env.qual none .none (some X.env)) (fun cenv s₄ =>
      codeAny (model X.prog X.w) X.A (.compStart (.ListComp elt [⟨tg, iter, [], 0⟩] scope pos) 0 (.ref it) acc { cenv with scope := relabel scope X.env }) (RR acc cenv) s₄) E s₃) E s2 := by
  refine wpAny_newObj_type (wpAny_newFunctionEnv ok.cells (by intro y hy; simp at hy) (fun h₁ hns₁ hsb₁ => ?_) ok.kind)
  dsimp only at hns₁ hsb₁ ⊢
  have I3 : Inv X pins σ (upd H2 s2.heap.objs.size (.lst [])) { s2 with heap := s2.heap.push { cls := .type "list", dict := none, data := .seq ([] : List Value).toArray } } :=
    I2.lnew (ys := []) (its := []) (t' := s2.toks) .nil (Nat.zero_le _)
  obtain ⟨W, ⟨m0, w0⟩, turn⟩ := rd s2.heap.objs.size I2.fresh
  generalize hH3 : upd H2 s2.heap.objs.size (.lst []) = H3 at I3 w0
  generalize hs3 : ({ s2 with heap := s2.heap.push { cls := .type "list", dict := none, data := .seq ([] : List Value).toArray } } : Shared) = s3 at I3
  have eh3 : s3.heap = s2.heap.push { cls := .type "list", dict := none, data := .seq ([] : List Value).toArray } := by rw [← hs3]
  have esz : s3.heap.objs.size = s2.heap.objs.size + 1 := by rw [eh3, Heap.size_push]
  have fpn : ∀ b ∈ fp, b < s2.heap.objs.size := fun b hb => by
    obtain ⟨o, e, _⟩ := Tn.obj 0 _ t0 b hb
    exact Heap.lt_size e
  have hfp3 : ∀ b ∈ fp, H3 b = none := fun b hb => by
    rw [← hH3, upd_ne (Nat.ne_of_lt (fpn b hb))]
    exact (hfp b hb).1
  generalize hC : (s2.heap.push { cls := .type "list", dict := none, data := .seq ([] : List Value).toArray }).objs.size = C at hns₁ hsb₁ ⊢
  have hC3 : C = s3.heap.objs.size := by rw [← hC, eh3]
  have keep1 : ∀ b o, s3.heap.get? b = some o → h₁.get? b = some o := fun b o e => by
    have hb : b ≠ C := by rw [hC3]; exact Nat.ne_of_lt (Heap.lt_size e)
    rw [hsb₁.2 b hb]
    rw [eh3] at e
    exact Heap.get?_push_of_some _ e
  have Xok : (cxC X N scope cl C s3 H3 fp).Ok := by
    refine ⟨I3.ok.mod, ok.kind, I3.ok.glob, I3.ok.blt, Nat.le_of_eq hC3.symm, fun a b c h1 h2 => I3.ok.inj a b c (ok.sub.get h1) (ok.sub.get h2), fun a h => ok.has a h, fun a c h => absurd h Bool.false_ne_true, I3.ok.hd, I3.ok.frames, .inl rfl, fun b hb => ⟨?_, fun a c h => ?_⟩, I3.bs, Nat.le_trans I3.ok.bsz I3.sz, fun b o h hb => ?_, fun b hb hz => ?_, I3.stack, I3.stkFree⟩
    · show b ≠ C
      rw [hC3, esz]
      exact Nat.ne_of_lt (Nat.lt_succ_of_lt (fpn b hb))
    · exact (hfp b hb).2.2.2.2.1 a c (ok.sub.get h)
    · rcases (hfp b hb).2.2.2.1 with z | z
      · exact I3.ok.noex b o h z
      · exact absurd (Nat.lt_of_lt_of_le (Heap.lt_size h) (Nat.le_trans I3.ok.bsz z)) (Nat.lt_irrefl _)
    · rcases List.mem_cons.mp (I3.stkSub b hz) with z | z
      · exact (hfp b hb).2.1 z
      · exact (hfp b hb).2.2.1 z
  have J0 : ∀ tk, Inv (cxC X N scope cl C s3 H3 fp) [] (impS imp σ) H3 { s3 with heap := h₁, toks := tk } := fun tk => by
    obtain ⟨m, hm, hl⟩ := I3.loc
    refine ⟨Xok, rfl, I3.bare, Un.kept keep1, ⟨_, hns₁, fun i y v e1 e2 e3 => ?_⟩, fun y c e => ?_, ?_, fun y c e => I3.freeC y c (ok.sub.get e), fun p hp => absurd (show p ∈ ([] : List (Addr × Obj)) from hp) (by simp), I3.hok.kept keep1, ?_⟩
    · have e2 : (impS imp σ)[i]? = some (some v) := e2
      unfold impS at e2
      rw [List.getElem?_map] at e2
      cases hi : imp[i]? with
      | none => rw [hi] at e2; cases e2
      | some o =>
        rw [hi] at e2
        cases o with
        | none => cases e2
        | some j =>
          obtain ⟨n1, n2, n3⟩ := ok.imp.get hi e1
          have ej : σ[j]? = some (some v) := by
            have e2 : ((σ[j]?).bind id) = some v := Option.some.inj e2
            cases hj : σ[j]? with
            | none => rw [hj] at e2; cases e2
            | some z => rw [hj] at e2; exact congrArg some e2
          obtain ⟨u, ru, lk⟩ := hl j y v n1 ej (.inr (.inl n2))
          refine ⟨u, ru, .inr ⟨.inl n3, ?_⟩⟩
          rcases lk with ⟨z, _⟩ | ⟨_, c, ec, zc⟩
          · rw [n2] at z; cases z
          · obtain ⟨c', e'⟩ := ok.has y (.inl n3)
            have := ok.sub.get e'
            rw [ec] at this
            cases this
            obtain ⟨oc, ho, hd⟩ := zc
            exact ⟨c, e', oc, keep1 _ _ ho, hd⟩
    · obtain ⟨v, oc, ho, hd⟩ := I3.cell y c (ok.sub.get e)
      exact ⟨v, oc, keep1 _ _ ho, hd⟩
    · show H3 C = none
      rw [hC3]
      exact I3.fresh
    · show (impS imp σ).length = N.length
      unfold impS
      rw [List.length_map]
      exact ok.imp.len
  have t1 : tn 0 h₁ := Tn.keep 0 _ _ t0 fun b hb o e => keep1 b o (by rw [eh3]; exact Heap.get?_push_of_some _ e)
  have hfpC : ∀ H', (∀ b ∈ fp, H' b = none) → ∀ b ∈ fp, FpOk ((cxC X N scope cl C s3 H3 fp).wish (EX X N scope cl EE C s3 H3 fp)) [] H' b := fun H' hn b hb => by
    refine ⟨hn b hb, (Xok.exf b hb).1, Xok.exfs b hb, .inl hb, fun a c h => (Xok.exf b hb).2 a c h, fun p hp => absurd (show p ∈ ([] : List (Addr × Obj)) from hp) (by simp)⟩
  have toX : ∀ {pins' σ' H' s'}, Inv (cxC X N scope cl C s3 H3 fp) pins' σ' H' s' → Inv X pins σ H' s' := fun J1 => I3.call' (ch := fp) (J1.os.trans rfl) J1.base J1.hok J1.bare fun b hb => ⟨(hfp b hb).2.2.2.1, (hfp b hb).2.1, (hfp b hb).2.2.2.2.1, (hfp b hb).2.2.2.2.2⟩
  have hlt : s2.heap.objs.size < C := by rw [hC3, esz]; exact Nat.lt_succ_self _
  have hCf : C ∉ frs X.stack := fun hz => by
    obtain ⟨_, o, ho, _⟩ := I3.stack.mem hz
    exact absurd (Heap.lt_size ho) (by rw [hC3]; exact Nat.lt_irrefl _)
  generalize hce : newEnv scope C X.env.globals cl X.env.qual none .none (some X.env) builtinsNs = cenv
  have ecl : cenv.locals = C := by rw [← hce]; rfl
  have ecf : cenv.frame = X.env.frame := by rw [← hce]; rfl
  have ece : ({ cenv with scope := relabel scope X.env } : Env) = compEnvC scope cl C X.env := by
    rw [← hce]
    rfl
  rw [ece]
  have bad : ∀ e s', EX X N scope cl EE C s3 H3 fp e s' → notedBy (model X.prog X.w) X.A (compEnvC scope cl C X.env) (fun e s1 => RR (.ref s2.heap.objs.size) cenv (.error e) s1) e s' := by
    rintro e s' ⟨pins6, σ6, H6, s6, J6, hcx⟩
    obtain ⟨m, hm, _⟩ := J6.loc
    have := hRE s2.heap.objs.size cenv e s' H6 s6 m ecf (toX J6) (by rw [ecl]; exact hm) (by rw [ecl]; exact J6.free) (by rw [ecl]; exact hlt) (by rw [ecl]; exact hCf) hcx
    rw [ecl] at this
    exact this
  have loop : ∀ s₃ : Shared, (∃ tk, s₃ = { s3 with heap := h₁, toks := tk }) →
      codeAny (model X.prog X.w) X.A (.compLoop (.ListComp elt [⟨tg, iter, [], 0⟩] scope pos) 0 (.ref it) (.ref s2.heap.objs.size) (compEnvC scope cl C X.env)) (RR (.ref s2.heap.objs.size) cenv) s₃ := by
    rintro s₃ ⟨tk, rfl⟩
    refine codeAny_loop rfl (fun n s => ∃ i ys σ' H', Inv ((cxC X N scope cl C s3 H3 fp).wish (EX X N scope cl EE C s3 H3 fp)) [] σ' H' s ∧ (∀ b ∈ fp, H' b = none) ∧ tn i s.heap ∧ W i n ys σ' H') (fun n s hI => ?_) m0 ⟨0, [], _, _, (J0 tk).wish _, hfp3, t1, w0⟩
    show wpAny _ _ ((compTurn (.ListComp elt [⟨tg, iter, [], 0⟩] scope pos) 0 (.ref it) (.ref s2.heap.objs.size) (compEnvC scope cl C X.env)).onRaise (fun x => do noteFrame x (compEnvC scope cl C X.env); theTreesLotGoes x)) _ _ s
    refine wpAny_noted ?_
    rw [compTurn_list1]
    obtain ⟨i, ys, σ', H', JI, hn, ht, hw⟩ := hI
    rcases turn i n ys σ' H' hw with ⟨st, q⟩ | ⟨go, NN, hNN, step⟩
    · refine wpAny_bind (wpAny_standAt (wpAny_bind (thn (Tn.done ((cxC X N scope cl C s3 H3 fp).wish (EX X N scope cl EE C s3 H3 fp)) rfl rfl rfl hc i [] s σ' H' _ JI (hfpC H' hn) ht st) fun r s1 ⟨er, J1⟩ => ?_)))
      subst er
      refine wpAny_pure ?_
      obtain ⟨m, hm, _⟩ := J1.loc
      exact hRR _ _ s1 H' m (toX J1.unwish) (by rw [ecl]; exact hm) (by rw [ecl]; exact J1.free) (by rw [ecl]; exact hlt) q
    · refine wpAny_bind (wpAny_standAt (wpAny_bind (thn (Tn.item ((cxC X N scope cl C s3 H3 fp).wish (EX X N scope cl EE C s3 H3 fp)) rfl rfl rfl hc i [] s σ' H' _ JI (hfpC H' hn) ht go) fun r s1 ⟨u, er, z⟩ => ?_)))
      subst er
      refine wpAny_bind (thn z fun _ s5 ⟨v, H5, J5, rv, hy, ht5, hn5⟩ => ?_)
      have J5p := J5.pinned (fp := fp) (hfpC H5 hn5) (Tn.obj _ _ ht5)
      have stays : ∀ {σ6 : St} {H6 : Hp} {s6 : Shared}, Inv ((cxC X N scope cl C s3 H3 fp).wish (EX X N scope cl EE C s3 H3 fp)) ([] ++ pinsAt fp s5.heap) σ6 H6 s6 → tn (i + 1) s6.heap ∧ ∀ b ∈ fp, H6 b = none := fun J6 => by
        have hp : ∀ b ∈ fp, ∀ o, s5.heap.get? b = some o → _ := fun b hb o e => J6.pin (b, o) (by show (b, o) ∈ ([] : List (Addr × Obj)) ++ ([] ++ pinsAt fp s5.heap); simpa using mem_pinsAt hb e)
        refine ⟨Tn.keep _ _ _ ht5 fun b hb o e => (hp b hb o e).1, fun b hb => ?_⟩
        obtain ⟨o, e, _⟩ := Tn.obj _ _ ht5 b hb
        exact (hp b hb o e).2.1
      refine wpAny_bind (wpAny_mono (hg C s3 H3 fp _ s5 σ' H5 v u _ J5p rv (step v H5 hy)) (fun _ s6 ⟨σ6, H6, J6, q6⟩ => ?_) bad)
      refine wpAny_bind (wpAny_bind (wpAny_mono (he C s3 H3 fp _ s6 σ6 H6 _ J6 q6) (fun w7 s7 ⟨y, H7, J7, r7, qn⟩ => ?_) bad))
      obtain ⟨hD, hz, m', hm, w'⟩ := hNN y σ6 H7 qn
      refine wpAny_bind (wpAny_mono (mt_append (X := (cxC X N scope cl C s3 H3 fp).wish (EX X N scope cl EE C s3 H3 fp)) _ s7 σ6 H7 (.ref s2.heap.objs.size) [y] (.ref s2.heap.objs.size) [w7] (fun _ H8 => H8 = upd H7 s2.heap.objs.size (.lst (ys ++ [y]))) J7 rfl (.cons r7 .nil) ⟨_, ys, y, rfl, rfl, hD, hz, rfl⟩) (fun _ s8 ⟨_, H8, J8, _, e8⟩ => ?_) bad)
      subst e8
      obtain ⟨ht8, hn8⟩ := stays J8
      exact wpAny_pure (wpAny_pure ⟨rfl, m', hm, i + 1, _, σ6, _, J8.unpinned, hn8, ht8, w'⟩)
  have lp := loop { s3 with heap := h₁, toks := s2.toks + ([] : List (Str × Value)).length } ⟨_, rfl⟩
  have es : ({ s3 with heap := h₁, toks := s2.toks + ([] : List (Str × Value)).length } : Shared) = { s2 with heap := h₁, toks := s2.toks + ([] : List (Str × Value)).length } := by rw [← hs3]
  rw [es] at lp
  exact codeAny_compStart_list lp (Tn.self _ 0 _ _ _ t1 lp)
end
section
variable {P : Program} {w : World} {K : PySem.W.Frag} {mg : Str → Option Value} {base : Heap} {N0 : List Str} {qual : Str} {scope0 : Scope} {f : Addr} {cd : Value} {A : Around} {outer : List Env} {s0 : Shared} {H0 : Hp} {EE : XK}
variable {N : List Str} {scope : Scope} {imp : List (Option Nat)} {elt iter tg : Expr} {pos : Pos} {g : TG} {te : TE}
/-- [elt for x in iter] in a def that may raise: elt may raise, and uses none of the def's names -/
theorem pe_compX {wi : TI} (ok : CompOk (cxOf (CX1 P w) P w K mg base N0 qual scope0 f cd A outer s0 H0 EE) N scope [] imp) (hnf : ∀ x ∈ scope.names, x.2 ≠ .free) (hrl : relabel scope (envOfC qual scope0 s0.heap.objs.size f cd) = scope)
    (hi : PI (cxOf (CX1 P w) P w K mg base N0 qual scope0 f cd A outer s0 H0 EE) tg iter wi)
    (hg : ∀ C s H fp, PG ((cxC (cxOf (CX1 P w) P w K mg base N0 qual scope0 f cd A outer s0 H0 EE) N scope [] C s H fp).wish (EX (cxOf (CX1 P w) P w K mg base N0 qual scope0 f cd A outer s0 H0 EE) N scope [] EE C s H fp)) tg g)
    (he : ∀ C s H fp, PE ((cxC (cxOf (CX1 P w) P w K mg base N0 qual scope0 f cd A outer s0 H0 EE) N scope [] C s H fp).wish (EX (cxOf (CX1 P w) P w K mg base N0 qual scope0 f cd A outer s0 H0 EE) N scope [] EE C s H fp)) elt te)
    (hs : ∀ x, foldedSetIterable iter (envOfC qual scope0 s0.heap.objs.size f cd) x = pure x := by intro _; rfl) : PE (cxOf (CX1 P w) P w K mg base N0 qual scope0 f cd A outer s0 H0 EE) (.ListComp elt [⟨tg, iter, [], 0⟩] scope pos) (tComp imp wi g te) := by
  intro pins s σ H Q I h
  rw [eval_ListComp]
  refine wpAny_comprehension rfl hs hnf ok.kind ok.names (wpAny_mono (hi pins s σ H _ I h) (fun v s1 h1 => wpAny_mono h1 (fun itv s2 ⟨it, fp, tn, J, H2, ei, I2, Tn, t0, hfp, rd⟩ => ?_) fun _ _ e => e) fun _ _ e => e)
  subst ei
  have key := comp_coreX (pos := pos) (iter := iter) (E := (cxOf (CX1 P w) P w K mg base N0 qual scope0 f cd A outer s0 H0 EE).xe) (RR := fun acc cenv r s' => ∃ m, s'.heap.Ns cenv.locals m ∧ ∀ h', Heap.SameBut cenv.locals s'.heap h' →
      match r with
      | .ok _ => EP (cxOf (CX1 P w) P w K mg base N0 qual scope0 f cd A outer s0 H0 EE) pins σ Q acc { s' with heap := h' }
      | .error x => wpAny (model P w) (A.deeper (envOfC qual scope0 s0.heap.objs.size f cd)) (PySem.passOn "comprehension.variables-let-go" x { cenv with scope := scope }) (EP (cxOf (CX1 P w) P w K mg base N0 qual scope0 f cd A outer s0 H0 EE) pins σ Q) (cxOf (CX1 P w) P w K mg base N0 qual scope0 f cd A outer s0 H0 EE).xe { s' with heap := h' })
    rfl ok hg he I2 Tn t0 hfp rd (fun D cenv s' H' m I' hm hn hlt q => ⟨m, hm, fun h' hs' => ⟨.ref D, H', ?_, rfl, q⟩⟩) (fun D cenv e s' H6 s6 m ef I6 hm hn hlt hns hcx => ?_)
  · have er : relabel scope (cxOf (CX1 P w) P w K mg base N0 qual scope0 f cd A outer s0 H0 EE).env = scope := hrl
    rw [er] at key
    exact key
  · have fo := I2.fpOk (H' := H') (b := cenv.locals) (Nat.le_of_lt hlt) hn
    exact I'.turned (t' := s'.toks) (fun b o hb e => (hs'.2 b hb).trans e) hn fo.2.1 fo.2.2.2.1 fo.2.2.2.2.1 fo.2.2.2.2.2
  · exact comp_out I6 (Nat.le_trans I2.sz (Nat.le_of_lt hlt)) hns hm hn ef hcx
end
end L2

set_option Elab.async false
set_option linter.all false
set_option maxRecDepth 100000
set_option maxHeartbeats 1000000
namespace L2
open PySem PySem.Spec PySem.Calls PyProof.Rows PySem.W

/-! ### pieces of a text -/
theorem rng_len (p q : Int) (n : Nat) (h0 : 0 ≤ p) (h1 : q ≤ n) : (if p < q then (q - p + 1 - 1) / 1 else 0).toNat ≤ n := by split <;> omega
theorem slice_len (x : Str) (l u : Option (Int × Tok)) : (slicePicked x l u none).length ≤ x.length := by
  unfold slicePicked Builtin.Str.strSliceIndices sliceRange
  simp only [List.length_map, List.length_range]
  have key : ∀ (v : Option Int) (d : Int), 0 ≤ d → d ≤ (x.length : Int) → 0 ≤ (match v with | none => d | some i => if (1 : Int) > 0 then max 0 (min (if i < 0 then i + (x.length : Int) else i) (x.length : Int)) else max (-1) (min (if i < 0 then i + (x.length : Int) else i) ((x.length : Int) - 1))) ∧ (match v with | none => d | some i => if (1 : Int) > 0 then max 0 (min (if i < 0 then i + (x.length : Int) else i) (x.length : Int)) else max (-1) (min (if i < 0 then i + (x.length : Int) else i) ((x.length : Int) - 1))) ≤ (x.length : Int) := by
    intro v d h0 h1
    cases v with
    | none => exact ⟨h0, h1⟩
    | some i =>
      simp only [show (1 : Int) > 0 from by decide, if_true]
      omega
  have a := key (l.map (·.1)) 0 (by omega) (by omega)
  have b := key (u.map (·.1)) (x.length : Int) (by omega) (by omega)
  show (if (1 : Int) > 0 then _ else _ : Int).toNat ≤ _
  rw [if_pos (by decide)]
  exact rng_len _ _ _ a.1 b.2
def rSlS : V → Option Int → Option Int → Hp → VK → Prop := fun x _ _ H Q => ∃ z, x = .str z ∧ z.length ≤ sizeLine ∧ ∀ y : Str, y.length ≤ z.length → Q (.str y) H
theorem sl_str {X : Cx} : SlR X rSlS := by
  intro pins s σ H x v vl vu lo hi sl Q I rx hs pl pu h
  obtain ⟨z, rfl, hz, q⟩ := h
  obtain ⟨t, rfl⟩ := rx
  refine ⟨"str", _, slot_str_getitem.lookup, typeIs_str .., ?_⟩
  obtain ⟨o, ho, hc, hd⟩ := hs
  have key : ∀ l u : Option (Int × Tok), vl = partValue l → vu = partValue u → wpAny (model X.prog X.w) X.A (getItem (.str z t) (.ref sl)) (EP X pins σ Q) X.xe s := fun l u el eu => by
    refine wpAny_getItem_str_slice (l := l) (u := u) (st := none) ⟨o, ho, hc, by rw [hd, el, eu]; rfl⟩ rfl ?_
    unfold sliceMade
    split
    · exact ⟨.str z, H, I, ⟨t, rfl⟩, q z (Nat.le_refl _)⟩
    · have le : (Str.mk (List.filterMap (fun i => z.cps[i]?) (slicePicked z l u none)).toArray).length ≤ z.length := by
        show (List.filterMap _ _).toArray.size ≤ _
        rw [List.size_toArray]
        exact Nat.le_trans (List.length_filterMap_le _ _) (slice_len z l u)
      exact ⟨Nat.le_trans le hz, .str _, H, I.tok _, ⟨_, rfl⟩, q _ le⟩
  cases pl with
  | none =>
    cases pu with
    | none => exact key none none rfl rfl
    | int j t2 => exact key none (some (j, t2)) rfl rfl
  | int i t1 =>
    cases pu with
    | none => exact key (some (i, t1)) none rfl rfl
    | int j t2 => exact key (some (i, t1)) (some (j, t2)) rfl rfl
/-! ### what is read, once more -/
theorem pairF_rng {os : List (Option Int)} {f : Int × Int} (h : pairF os = some f) : ∃ t b, os = [some t, some b] ∧ f = (t, b) ∧ partOk (t, b) := by
  match os, h with
  | [some t, some b], h =>
    have h : (if partOk (t, b) then some (t, b) else none) = some f := h
    split at h
    · rename_i k
      cases h
      exact ⟨t, b, rfl, rfl, k⟩
    · cases h
  | [some _, none], h => cases h
  | [none, some _], h => cases h
  | [none, none], h => cases h
  | [some _], h => cases h
  | [none], h => cases h
  | [], h => cases h
  | some _ :: some _ :: _ :: _, h => cases h
  | some _ :: none :: _ :: _, h => cases h
  | none :: _ :: _ :: _, h => cases h
theorem partZ_rng {z : Str} {f : Int × Int} (h : partZ z = some f) : 0 ≤ f.1 ∧ f.1 ≤ f.2 := by
  obtain ⟨t, b, e, rfl, k⟩ := pairF_rng h
  have : some t ∈ (Txt.split z "/").map numF := by rw [e]; simp
  obtain ⟨w, _, ew⟩ := List.mem_map.mp this
  exact ⟨(numF_rng ew).1, k.2.1⟩
def gotZ (z : Str) : Int × Int := (partZ z).getD (0, 1)
theorem all_some : ∀ {ws : List Str}, (∀ w ∈ ws, ∃ f, partZ w = some f) → allZ ws = some (ws.map gotZ)
  | [], _ => rfl
  | w :: r, h => by
    obtain ⟨f, ef⟩ := h w (by simp)
    have ih := all_some (ws := r) fun x hx => h x (List.mem_cons_of_mem _ hx)
    show (match partZ w, allZ r with | some f, some fs => some (f :: fs) | _, _ => none) = _
    rw [ef, ih]
    simp [gotZ, ef]
theorem all_none : ∀ {ws : List Str} {w : Str}, w ∈ ws → partZ w = none → allZ ws = none
  | x :: r, w, h, e => by
    show (match partZ x, allZ r with | some f, some fs => some (f :: fs) | _, _ => none) = _
    rcases List.mem_cons.mp h with rfl | h
    · rw [e]
    · rw [all_none h e]
      cases partZ x <;> rfl
theorem all_snoc {w : Str} {f : Int × Int} : ∀ {ws : List Str} {fs : List (Int × Int)}, allZ ws = some fs → partZ w = some f → allZ (ws ++ [w]) = some (fs ++ [f])
  | [], fs, h, e => by
    cases h
    show (match partZ w, allZ [] with | some f, some fs => some (f :: fs) | _, _ => none) = _
    rw [e]
    rfl
  | x :: r, fs, h, e => by
    have h : (match partZ x, allZ r with | some f, some fs => some (f :: fs) | _, _ => none) = some fs := h
    show (match partZ x, allZ (r ++ [w]) with | some f, some fs => some (f :: fs) | _, _ => none) = _
    cases e1 : partZ x with
    | none => rw [e1] at h; cases h
    | some g =>
      cases e2 : allZ r with
      | none => rw [e1, e2] at h; cases h
      | some gs =>
        rw [e1, e2] at h
        cases h
        rw [all_snoc e2 e]
        rfl
theorem all_len : ∀ {ws : List Str} {fs : List (Int × Int)}, allZ ws = some fs → fs.length = ws.length
  | [], _, h => by cases h; rfl
  | x :: r, fs, h => by
    have h : (match partZ x, allZ r with | some f, some fs => some (f :: fs) | _, _ => none) = some fs := h
    cases e1 : partZ x with
    | none => rw [e1] at h; cases h
    | some g =>
      cases e2 : allZ r with
      | none => rw [e1, e2] at h; cases h
      | some gs =>
        rw [e1, e2] at h
        cases h
        simp [all_len e2]
def optV : Option Int → V
  | some n => .int n
  | none => .non
theorem join_le {s : Str} {k : Nat} (hs : s.length ≤ 1) : ∀ {ps : List Str}, (∀ p ∈ ps, p.length ≤ k) → (s.join ps).length ≤ (k + 1) * ps.length
  | [], _ => by show (0 : Nat) ≤ _; omega
  | [x], h => by
    rw [join_one']
    have := h x (by simp)
    simp
    omega
  | x :: y :: r, h => by
    rw [join_two, app_len, app_len]
    have := h x (by simp)
    have ih := join_le hs (ps := y :: r) fun p hp => h p (List.mem_cons_of_mem _ hp)
    simp only [List.length_cons] at *
    have : (k + 1) * (r.length + 1 + 1) = (k + 1) * (r.length + 1) + (k + 1) := by rw [Nat.mul_add (k + 1) (r.length + 1) 1, Nat.mul_one]
    omega
theorem sum_le {k : Nat} : ∀ {ps : List Str}, (∀ p ∈ ps, p.length ≤ k) → (ps.map (·.length)).sum ≤ k * ps.length
  | [], _ => by simp
  | x :: r, h => by
    have := h x (by simp)
    have ih := sum_le (ps := r) fun p hp => h p (List.mem_cons_of_mem _ hp)
    simp only [List.map_cons, List.sum_cons, List.length_cons]
    have : k * (r.length + 1) = k * r.length + k := by rw [Nat.mul_add, Nat.mul_one]
    omega
theorem cut_strs {ws : List Str} (lo hi : Option Int) : ∃ ts : List Str, cutV (ws.map V.str) lo hi = ts.map V.str ∧ (∀ t ∈ ts, t ∈ ws) ∧ ts.length ≤ ws.length := by
  unfold cutV
  refine ⟨(ws.drop (HT.sIx (ws.map V.str).length 0 lo)).take (HT.sIx (ws.map V.str).length (ws.map V.str).length hi - HT.sIx (ws.map V.str).length 0 lo), ?_, fun t ht => List.mem_of_mem_drop (List.mem_of_mem_take ht), ?_⟩
  · rw [List.map_take, List.map_drop]
  · rw [List.length_take, List.length_drop]
    omega
/-- many texts written side by side -/
def strsOf : List Expr → Option (List Str)
  | [] => some []
  | .Constant (.str x) _ _ :: es => (strsOf es).map (x :: ·)
  | _ => none
theorem pa_strs {X : Cx} : ∀ {es : List Expr} {xs : List Str}, strsOf es = some xs → PA X es (fun _ H Q => Q (xs.map V.str) H) := by
  intro es
  induction es with
  | nil =>
    intro xs h
    cases h
    exact pa_nil
  | cons e r ih =>
    intro xs h
    unfold strsOf at h
    split at h
    · rename_i e1; cases e1
    · rename_i x j p es' e1
      cases e1
      cases hr : strsOf r with
      | none => rw [hr] at h; cases h
      | some ys =>
        rw [hr] at h
        cases h
        exact pa_cons pe_str (ih hr)
    · cases h
theorem ps_strs {X : Cx} {st : Stmt} {i : Nat} {x : Str} {xs : List Str} (hN : X.N.Nodup) (hi : X.N[i]? = some x) (hx : Loc X.env.scope x) (h : ∃ p b q r, st = .Assign [.Name x p] (.List b q) r ∧ strsOf b = some xs)
    (hf : X.fn x = true ∨ X.env.scope.names.lookup x = some .local := by first | exact .inl rfl | exact .inr rfl | assumption) : PS X st (tAsg (tLst fun _ H Q => Q (xs.map V.str) H) (gName i)) := by
  obtain ⟨p, b, q, r, rfl, e⟩ := h
  exact ps_set hN hi hx (pe_lst (pa_strs e)) rfl hf
end L2

set_option Elab.async false
set_option linter.all false
set_option maxRecDepth 100000
set_option maxHeartbeats 4000000
namespace K12
open PySem L2 L2R
def top (i : Nat) : Stmt := PySem.Challenge.pw_echofield_k12_read.main.body.getD i (.Pass ⟨0, 0, 0, 0⟩)
abbrev s_is_part : Stmt := top 9
theorem sc_is_part : FnScope ["fraction"] ["fraction"] (defScope s_is_part) := ⟨rfl, rfl, rfl, by decide +kernel, rfl, by decide +kernel, by decide +kernel⟩
abbrev s_Field___init__ : Stmt := inClass (top 10) 0
theorem sc_Field___init__ : FnScope ["self", "walls"] ["self", "walls"] (defScope s_Field___init__) := ⟨rfl, rfl, rfl, by decide +kernel, rfl, by decide +kernel, by decide +kernel⟩
abbrev s_Field_walls : Stmt := inClass (top 10) 1
theorem sc_Field_walls : FnScope ["self"] ["self"] (defScope s_Field_walls) := ⟨rfl, rfl, rfl, by decide +kernel, rfl, by decide +kernel, by decide +kernel⟩
abbrev s_common_divisor : Stmt := top 12
theorem sc_common_divisor : FnScope ["one", "other", "rest"] ["one", "other"] (defScope s_common_divisor) := ⟨rfl, rfl, rfl, by decide +kernel, rfl, by decide +kernel, by decide +kernel⟩
abbrev s_lowest : Stmt := top 13
theorem sc_lowest : FnScope ["top", "bottom", "divisor"] ["top", "bottom"] (defScope s_lowest) := ⟨rfl, rfl, rfl, by decide +kernel, rfl, by decide +kernel, by decide +kernel⟩
abbrev s_read : Stmt := top 17
theorem sc_read : FnScope ["text", "written"] ["text"] (defScope s_read) := ⟨rfl, rfl, rfl, by decide +kernel, rfl, by decide +kernel, by decide +kernel⟩
abbrev s_read_part : Stmt := top 18
theorem sc_read_part : FnScope ["written", "halves", "top", "bottom"] ["written"] (defScope s_read_part) := ⟨rfl, rfl, rfl, by decide +kernel, rfl, by decide +kernel, by decide +kernel⟩
abbrev s_read_number : Stmt := top 19
theorem sc_read_number : FnScope ["written"] ["written"] (defScope s_read_number) := ⟨rfl, rfl, rfl, by decide +kernel, rfl, by decide +kernel, by decide +kernel⟩
abbrev s_law_cell_at : Stmt := top 21
theorem sc_law_cell_at : FnScope ["script", "k"] ["script", "k"] (defScope s_law_cell_at) := ⟨rfl, rfl, rfl, by decide +kernel, rfl, by decide +kernel, by decide +kernel⟩
abbrev s_law_kind : Stmt := top 23
theorem sc_law_kind : FnScope ["e", "kinds"] ["e"] (defScope s_law_kind) := ⟨rfl, rfl, rfl, by decide +kernel, rfl, by decide +kernel, by decide +kernel⟩
abbrev s_law_one : Stmt := top 24
theorem sc_law_one : FnScope ["k"] ["k"] (defScope s_law_one) := ⟨rfl, rfl, rfl, by decide +kernel, rfl, by decide +kernel, by decide +kernel⟩
abbrev s_law_whole : Stmt := top 22
theorem sc_law_whole : FnScope ["found"] ["found"] (defScope s_law_whole) := ⟨rfl, rfl, rfl, by decide +kernel, rfl, by decide +kernel, by decide +kernel⟩
abbrev s_law_low : Stmt := top 25
theorem sc_law_low : FnScope ["top", "bottom", "one", "other", "rest"] ["top", "bottom"] (defScope s_law_low) := ⟨rfl, rfl, rfl, by decide +kernel, rfl, by decide +kernel, by decide +kernel⟩
abbrev s_law_parts : Stmt := top 29
theorem sc_law_parts : FnScope ["found", "due", "k", "part"] ["found", "due"] (defScope s_law_parts) := ⟨rfl, rfl, rfl, by decide +kernel, rfl, by decide +kernel, by decide +kernel⟩
abbrev s_law_side : Stmt := top 30
theorem sc_law_side : FnScope ["cell", "bottom"] ["cell"] (defScope s_law_side) := ⟨rfl, rfl, rfl, by decide +kernel, rfl, by decide +kernel, by decide +kernel⟩
abbrev s_law_number : Stmt := top 32
theorem sc_law_number : FnScope ["word", "sign"] ["word"] (defScope s_law_number) := ⟨rfl, rfl, rfl, by decide +kernel, rfl, by decide +kernel, by decide +kernel⟩
abbrev s_law_due : Stmt := top 33
theorem sc_law_due : FnScope ["text", "sides", "word", "pieces"] ["text"] (defScope s_law_due) := ⟨rfl, rfl, rfl, by decide +kernel, rfl, by decide +kernel, by decide +kernel⟩
abbrev s_law_turned : Stmt := top 34
theorem sc_law_turned : FnScope ["words", "mode", "cell", "at", "odd"] ["words", "mode", "cell"] (defScope s_law_turned) := ⟨rfl, rfl, rfl, by decide +kernel, rfl, by decide +kernel, by decide +kernel⟩
abbrev s_law : Stmt := top 35
theorem sc_law : FnScope ["script", "parts", "mode", "cell", "text", "at", "sign", "due", "found", "kinds", "e"] ["script"] (defScope s_law) := ⟨rfl, rfl, rfl, by decide +kernel, rfl, by decide +kernel, by decide +kernel⟩
structure Adr where
  f_is_part : Addr
  d_is_part : FuncData
  f_Field___init__ : Addr
  d_Field___init__ : FuncData
  f_Field_walls : Addr
  d_Field_walls : FuncData
  f_common_divisor : Addr
  d_common_divisor : FuncData
  f_lowest : Addr
  d_lowest : FuncData
  f_read : Addr
  d_read : FuncData
  f_read_part : Addr
  d_read_part : FuncData
  f_read_number : Addr
  d_read_number : FuncData
  f_law_cell_at : Addr
  d_law_cell_at : FuncData
  f_law_kind : Addr
  d_law_kind : FuncData
  f_law_one : Addr
  d_law_one : FuncData
  f_law_whole : Addr
  d_law_whole : FuncData
  f_law_low : Addr
  d_law_low : FuncData
  f_law_parts : Addr
  d_law_parts : FuncData
  f_law_side : Addr
  d_law_side : FuncData
  f_law_number : Addr
  d_law_number : FuncData
  f_law_due : Addr
  d_law_due : FuncData
  f_law_turned : Addr
  d_law_turned : FuncData
  f_law : Addr
  d_law : FuncData
  c_Field : Addr
  c_EchoError : Addr
  c_NoField : Addr
  c_NoMoment : Addr
  c_NoRecord : Addr
  c_TooMany : Addr
  c_BadText : Addr
structure Txt (K : PySem.W.Frag) (mg : Str → Option Value) (a : Adr) : Prop where
  is_part : DefAt K mg "is_part" s_is_part ["fraction"] a.f_is_part a.d_is_part
  Field___init__ : MethAt K "__init__" "Field.__init__" s_Field___init__ ["self", "walls"] a.f_Field___init__ a.d_Field___init__
  Field_walls : MethAt K "walls" "Field.walls" s_Field_walls ["self"] a.f_Field_walls a.d_Field_walls
  common_divisor : DefAt K mg "common_divisor" s_common_divisor ["one", "other"] a.f_common_divisor a.d_common_divisor
  lowest : DefAt K mg "lowest" s_lowest ["top", "bottom"] a.f_lowest a.d_lowest
  read : DefAt K mg "read" s_read ["text"] a.f_read a.d_read
  read_part : DefAt K mg "read_part" s_read_part ["written"] a.f_read_part a.d_read_part
  read_number : DefAt K mg "read_number" s_read_number ["written"] a.f_read_number a.d_read_number
  law_cell_at : DefAt K mg "_law_cell_at" s_law_cell_at ["script", "k"] a.f_law_cell_at a.d_law_cell_at
  law_kind : DefAt K mg "_law_kind" s_law_kind ["e"] a.f_law_kind a.d_law_kind
  law_one : DefAt K mg "_law_one" s_law_one ["k"] a.f_law_one a.d_law_one
  law_whole : DefAt K mg "_law_whole" s_law_whole ["found"] a.f_law_whole a.d_law_whole
  law_low : DefAt K mg "_law_low" s_law_low ["top", "bottom"] a.f_law_low a.d_law_low
  law_parts : DefAt K mg "_law_parts" s_law_parts ["found", "due"] a.f_law_parts a.d_law_parts
  law_side : DefAt K mg "_law_side" s_law_side ["cell"] a.f_law_side a.d_law_side
  law_number : DefAt K mg "_law_number" s_law_number ["word"] a.f_law_number a.d_law_number
  law_due : DefAt K mg "_law_due" s_law_due ["text"] a.f_law_due a.d_law_due
  law_turned : DefAt K mg "_law_turned" s_law_turned ["words", "mode", "cell"] a.f_law_turned a.d_law_turned
  law : DefAt K mg "law" s_law ["script"] a.f_law a.d_law
  no_len : mg "len" = none
  no_abs : mg "abs" = none
  no_isinstance : mg "isinstance" = none
  no_all : mg "all" = none
  no_list : mg "list" = none
  no_tuple : mg "tuple" = none
  no_int : mg "int" = none
  no_bool : mg "bool" = none
  no_range : mg "range" = none
  no_str : mg "str" = none
  no_ValueError : mg "ValueError" = none
  g_Field : mg "Field" = some (.ref a.c_Field)
  pg_Field : PySem.W.plainGet K a.c_Field Str.empty = true
  hd_Field : PySem.W.hasDictIn K a.c_Field = true
  po_Field : PySem.W.plainOver K a.c_Field = true
  sa_Field : PySem.W.findIn K (.ref a.c_Field) "__setattr__" = some (some (.builtin "object.__setattr__"))
  na_Field_row : PySem.W.findIn K (.ref a.c_Field) "row" = some none
  mk_Field : PySem.W.makesIn K a.c_Field = true
  kc_Field : PySem.W.keepIn K (.ref a.c_Field) = true
  fi_Field___init__ : PySem.W.findIn K (.ref a.c_Field) "__init__" = some (some (.ref a.f_Field___init__))
  if_Field___init__ : PySem.W.isFn K (.ref a.f_Field___init__) = true
  ke_Field___init__ : PySem.W.keepIn K (.ref a.f_Field___init__) = true
  fi_Field_walls : PySem.W.findIn K (.ref a.c_Field) "walls" = some (some (.ref a.f_Field_walls))
  if_Field_walls : PySem.W.isFn K (.ref a.f_Field_walls) = true
  ke_Field_walls : PySem.W.keepIn K (.ref a.f_Field_walls) = true
  g_EchoError : mg "EchoError" = some (.ref a.c_EchoError)
  ex_EchoError : PySem.W.excIn K a.c_EchoError VE "ValueError.__new__" = true
  xg_EchoError : PySem.W.findIn K (.ref a.c_EchoError) "__getattribute__" = some (some (.builtin "BaseException.__getattribute__"))
  xo_EchoError : PySem.W.findIn K (.ref a.c_EchoError) "__getattr__" = some none
  xb_EchoError : PySem.W.mroIn K a.c_EchoError (.type "BaseException") = some true
  xh_EchoError : PySem.W.hasDictIn K a.c_EchoError = true
  xa_EchoError : PySem.W.findIn K (.ref a.c_EchoError) "__class__" = some (some (.builtin "object.__class__"))
  xm_EchoError : PySem.W.mroIn K a.c_EchoError (.type "object") = some true
  g_NoField : mg "NoField" = some (.ref a.c_NoField)
  ex_NoField : PySem.W.excIn K a.c_NoField VE "ValueError.__new__" = true
  xg_NoField : PySem.W.findIn K (.ref a.c_NoField) "__getattribute__" = some (some (.builtin "BaseException.__getattribute__"))
  xo_NoField : PySem.W.findIn K (.ref a.c_NoField) "__getattr__" = some none
  xb_NoField : PySem.W.mroIn K a.c_NoField (.type "BaseException") = some true
  xh_NoField : PySem.W.hasDictIn K a.c_NoField = true
  xa_NoField : PySem.W.findIn K (.ref a.c_NoField) "__class__" = some (some (.builtin "object.__class__"))
  xm_NoField : PySem.W.mroIn K a.c_NoField (.type "object") = some true
  g_NoMoment : mg "NoMoment" = some (.ref a.c_NoMoment)
  ex_NoMoment : PySem.W.excIn K a.c_NoMoment VE "ValueError.__new__" = true
  xg_NoMoment : PySem.W.findIn K (.ref a.c_NoMoment) "__getattribute__" = some (some (.builtin "BaseException.__getattribute__"))
  xo_NoMoment : PySem.W.findIn K (.ref a.c_NoMoment) "__getattr__" = some none
  xb_NoMoment : PySem.W.mroIn K a.c_NoMoment (.type "BaseException") = some true
  xh_NoMoment : PySem.W.hasDictIn K a.c_NoMoment = true
  xa_NoMoment : PySem.W.findIn K (.ref a.c_NoMoment) "__class__" = some (some (.builtin "object.__class__"))
  xm_NoMoment : PySem.W.mroIn K a.c_NoMoment (.type "object") = some true
  g_NoRecord : mg "NoRecord" = some (.ref a.c_NoRecord)
  ex_NoRecord : PySem.W.excIn K a.c_NoRecord VE "ValueError.__new__" = true
  xg_NoRecord : PySem.W.findIn K (.ref a.c_NoRecord) "__getattribute__" = some (some (.builtin "BaseException.__getattribute__"))
  xo_NoRecord : PySem.W.findIn K (.ref a.c_NoRecord) "__getattr__" = some none
  xb_NoRecord : PySem.W.mroIn K a.c_NoRecord (.type "BaseException") = some true
  xh_NoRecord : PySem.W.hasDictIn K a.c_NoRecord = true
  xa_NoRecord : PySem.W.findIn K (.ref a.c_NoRecord) "__class__" = some (some (.builtin "object.__class__"))
  xm_NoRecord : PySem.W.mroIn K a.c_NoRecord (.type "object") = some true
  g_TooMany : mg "TooMany" = some (.ref a.c_TooMany)
  ex_TooMany : PySem.W.excIn K a.c_TooMany VE "ValueError.__new__" = true
  xg_TooMany : PySem.W.findIn K (.ref a.c_TooMany) "__getattribute__" = some (some (.builtin "BaseException.__getattribute__"))
  xo_TooMany : PySem.W.findIn K (.ref a.c_TooMany) "__getattr__" = some none
  xb_TooMany : PySem.W.mroIn K a.c_TooMany (.type "BaseException") = some true
  xh_TooMany : PySem.W.hasDictIn K a.c_TooMany = true
  xa_TooMany : PySem.W.findIn K (.ref a.c_TooMany) "__class__" = some (some (.builtin "object.__class__"))
  xm_TooMany : PySem.W.mroIn K a.c_TooMany (.type "object") = some true
  g_BadText : mg "BadText" = some (.ref a.c_BadText)
  ex_BadText : PySem.W.excIn K a.c_BadText VE "ValueError.__new__" = true
  xg_BadText : PySem.W.findIn K (.ref a.c_BadText) "__getattribute__" = some (some (.builtin "BaseException.__getattribute__"))
  xo_BadText : PySem.W.findIn K (.ref a.c_BadText) "__getattr__" = some none
  xb_BadText : PySem.W.mroIn K a.c_BadText (.type "BaseException") = some true
  xh_BadText : PySem.W.hasDictIn K a.c_BadText = true
  xa_BadText : PySem.W.findIn K (.ref a.c_BadText) "__class__" = some (some (.builtin "object.__class__"))
  xm_BadText : PySem.W.mroIn K a.c_BadText (.type "object") = some true
  xn : PySem.W.specialIn K (.builtin "object.__class__") "__get__" = some (some (.builtin "getset_descriptor.__get__"))
  xt : PySem.W.takesIn K (.builtin "object.__class__") = some true
  kit_BadText_NoField : PySem.W.kitOne K (.ref a.c_BadText) (.ref a.c_NoField) = some false
  kit_BadText_NoMoment : PySem.W.kitOne K (.ref a.c_BadText) (.ref a.c_NoMoment) = some false
  kit_BadText_NoRecord : PySem.W.kitOne K (.ref a.c_BadText) (.ref a.c_NoRecord) = some false
  kit_BadText_TooMany : PySem.W.kitOne K (.ref a.c_BadText) (.ref a.c_TooMany) = some false
  kit_BadText_BadText : PySem.W.kitOne K (.ref a.c_BadText) (.ref a.c_BadText) = some true
  kit_BadText_ValueError : PySem.W.kitOne K (.ref a.c_BadText) (.type "ValueError") = some true
  exm_BadText_EchoError : PySem.W.exmOne K (.ref a.c_BadText) (.ref a.c_EchoError) = some true
  g_MOST_WALLS : ∃ u, mg "MOST_WALLS" = some u ∧ RelV (.int 8) u
  g_MOST_FIGURES : ∃ u, mg "MOST_FIGURES" = some u ∧ RelV (.int 12) u
  g_FIGURES : ∃ u, mg "FIGURES" = some u ∧ RelV (.str "0123456789") u
theorem Txt.cl_of_Field {K : PySem.W.Frag} {mg : Str → Option Value} {a : Adr} (T : Txt K mg a) : Cls K a.c_Field := ⟨T.pg_Field, T.hd_Field, T.po_Field, T.sa_Field⟩
theorem Txt.mk_of_Field {K : PySem.W.Frag} {mg : Str → Option Value} {a : Adr} (T : Txt K mg a) : Mk K a.c_Field a.f_Field___init__ := ⟨T.mk_Field, T.fi_Field___init__, T.if_Field___init__, T.kc_Field⟩
theorem Txt.m_of_Field___init__ {K : PySem.W.Frag} {mg : Str → Option Value} {a : Adr} (T : Txt K mg a) : Meth K a.c_Field "__init__" a.f_Field___init__ := ⟨T.fi_Field___init__, T.if_Field___init__, T.ke_Field___init__⟩
theorem Txt.m_of_Field_walls {K : PySem.W.Frag} {mg : Str → Option Value} {a : Adr} (T : Txt K mg a) : Meth K a.c_Field "walls" a.f_Field_walls := ⟨T.fi_Field_walls, T.if_Field_walls, T.ke_Field_walls⟩
theorem Txt.ec_EchoError {K : PySem.W.Frag} {mg : Str → Option Value} {a : Adr} (T : Txt K mg a) : ExcCls K a.c_EchoError := ⟨T.ex_EchoError, T.xg_EchoError, T.xo_EchoError, T.xb_EchoError, T.xh_EchoError, T.xa_EchoError, T.xn, T.xt, T.xm_EchoError⟩
theorem Txt.ec_NoField {K : PySem.W.Frag} {mg : Str → Option Value} {a : Adr} (T : Txt K mg a) : ExcCls K a.c_NoField := ⟨T.ex_NoField, T.xg_NoField, T.xo_NoField, T.xb_NoField, T.xh_NoField, T.xa_NoField, T.xn, T.xt, T.xm_NoField⟩
theorem Txt.ec_NoMoment {K : PySem.W.Frag} {mg : Str → Option Value} {a : Adr} (T : Txt K mg a) : ExcCls K a.c_NoMoment := ⟨T.ex_NoMoment, T.xg_NoMoment, T.xo_NoMoment, T.xb_NoMoment, T.xh_NoMoment, T.xa_NoMoment, T.xn, T.xt, T.xm_NoMoment⟩
theorem Txt.ec_NoRecord {K : PySem.W.Frag} {mg : Str → Option Value} {a : Adr} (T : Txt K mg a) : ExcCls K a.c_NoRecord := ⟨T.ex_NoRecord, T.xg_NoRecord, T.xo_NoRecord, T.xb_NoRecord, T.xh_NoRecord, T.xa_NoRecord, T.xn, T.xt, T.xm_NoRecord⟩
theorem Txt.ec_TooMany {K : PySem.W.Frag} {mg : Str → Option Value} {a : Adr} (T : Txt K mg a) : ExcCls K a.c_TooMany := ⟨T.ex_TooMany, T.xg_TooMany, T.xo_TooMany, T.xb_TooMany, T.xh_TooMany, T.xa_TooMany, T.xn, T.xt, T.xm_TooMany⟩
theorem Txt.ec_BadText {K : PySem.W.Frag} {mg : Str → Option Value} {a : Adr} (T : Txt K mg a) : ExcCls K a.c_BadText := ⟨T.ex_BadText, T.xg_BadText, T.xo_BadText, T.xb_BadText, T.xh_BadText, T.xa_BadText, T.xn, T.xt, T.xm_BadText⟩
section
variable {P : Program} {w : World} {K : PySem.W.Frag} {mg : Str → Option Value} {base : Heap}
/-! ### the law's own helpers -/
def cellI (ns : List Int) (i : Int) : Int := ns.getD i.toNat 0
def sp_law_cell_at (K : PySem.W.Frag) : Sp := fun vs H Q _ => ∃ (a : Addr) (ns : List Int) (i : Int), vs = [.ref a, .int i] ∧ SqL K H a (ns.map V.int) ∧ 0 ≤ i ∧ Q (.int (cellI ns i)) H
theorem ok_law_cell_at {a : Adr} (T : Txt K mg a) : FnOk P w K mg base CX0 1 a.f_law_cell_at a.d_law_cell_at ["script", "k"] (sp_law_cell_at K) := by
  refine T.law_cell_at.fn.ok sc_law_cell_at (fun vs H Q E h => ?_) (fun cdv A outer s H vs Q E hr h => ?_)
  · obtain ⟨a, ns, k, rfl, _⟩ := h
    rfl
  · obtain ⟨a, ns, i, rfl, hS, h0, q⟩ := h
    refine ⟨_, (pss_cons (ps_if (pt_cmpR op_lt (pv 1) (pe_callB call_len_seq (by rfl) T.no_len bt_len (pa_cons (pv 0) pa_nil)) (nomark _))
        (pss_one (ps_ret (pe_ix ix_list (pv 0) (pv 1) (fun _ _ => rfl))))
        pss_nil)
        (pss_one (ps_ret pe_int))), ?_⟩
    refine ⟨_, rfl, _, rfl, a, _, rfl, .inl hS, _, _, rfl, rfl, _, rfl, ?_⟩
    refine ite2 (fun hk => ?_) (fun hk => ?_)
    · have hk := of_decide_eq_true hk
      rw [List.length_map] at hk
      have e : (ns.map V.int)[i.toNat]? = some (.int (cellI ns i)) := by
        rw [List.getElem?_map]
        unfold cellI
        rw [List.getD_eq_getElem?_getD, List.getElem?_eq_getElem (by omega)]
        rfl
      have e2 := atI_nat e
      rw [Int.toNat_of_nonneg h0] at e2
      exact ⟨_, rfl, _, rfl, a, _, _, _, rfl, rfl, hS, e2, q⟩
    · have e : cellI ns i = 0 := by
        have hk : ¬ (i < ((ns.map V.int).length : Int)) := fun z => hk (decide_eq_true z)
        rw [List.length_map] at hk
        unfold cellI
        rw [List.getD_eq_getElem?_getD, List.getElem?_eq_none (by omega)]
        rfl
      rw [e] at q
      exact q
def sp_law_whole : Sp := fun vs H Q _ => ∃ i : Int, vs = [.int i] ∧ Q (.bl true) H
theorem ok_law_whole {a : Adr} (T : Txt K mg a) : FnOk P w K mg base CX0 1 a.f_law_whole a.d_law_whole ["found"] sp_law_whole := by
  refine T.law_whole.fn.ok sc_law_whole (fun vs H Q E h => ?_) (fun cdv A outer s H vs Q E hr h => ?_)
  · obtain ⟨i, rfl, _⟩ := h
    rfl
  · obtain ⟨i, rfl, q⟩ := h
    refine ⟨_, (pss_one (ps_ret (pe_and (pe_callB call_isi (by rfl) T.no_isinstance bt_isinstance (pa_cons (pv 0) (pa_cons (pe_bltn (v := .ty "int") rfl T.no_int bt_int rfl) pa_nil))) (pe_one (pe_not (pe_callB call_isi (by rfl) T.no_isinstance bt_isinstance (pa_cons (pv 0) (pa_cons (pe_bltn (v := .ty "bool") rfl T.no_bool bt_bool rfl) pa_nil)))))))), ?_⟩
    refine ⟨_, rfl, _, _, _, _, rfl, .int i, rfl, _, rfl, ?_⟩
    refine iteT ?_
    exact ⟨_, rfl, _, _, _, _, rfl, .int i, rfl, _, rfl, q⟩
def sp_law_low : Sp := fun vs H Q _ => ∃ t b : Int, vs = [.int t, .int b] ∧ 0 < b ∧ Fig 7900 b ∧ RetF H Q (lowP t b)
theorem ok_law_low {a : Adr} (T : Txt K mg a) : FnOk P w K mg base CX0 1 a.f_law_low a.d_law_low ["top", "bottom"] sp_law_low := by
  refine T.law_low.fn.ok sc_law_low (fun vs H Q E h => ?_) (fun cdv A outer s H vs Q E hr h => ?_)
  · obtain ⟨t, b, rfl, _⟩ := h
    rfl
  · obtain ⟨t, b, rfl, hb, hf, q⟩ := h
    refine ⟨_, (pss_cons (ps_set (i := 2) sc_law_low.nd rfl (Or.inl rfl) (pe_callB call_abs (by rfl) T.no_abs bt_abs (pa_cons (pv 0) pa_nil)))
        (pss_cons (ps_set (i := 3) sc_law_low.nd rfl (Or.inl rfl) (pv 1))
        (pss_cons (ps_while PassesOwn.never (pt_cmpR op_gt (pv 3) pe_int (nomark _))
        (pss_cons (ps_set (i := 4) sc_law_low.nd rfl (Or.inl rfl) (pe_op op_mod (pv 2) (pv 3)))
        (pss_cons (ps_set (i := 2) sc_law_low.nd rfl (Or.inl rfl) (pv 3))
        (pss_one (ps_set (i := 3) sc_law_low.nd rfl (Or.inl rfl) (pv 4))))))
        (pss_one (ps_ret (pe_tup (pa_cons (pe_op op_fdivB (pv 0) (pv 2)) (pa_cons (pe_op op_fdivB (pv 1) (pv 2)) pa_nil)))))))), ?_⟩
    refine ⟨_, rfl, _, rfl, _, rfl, while_by (fun σ H' => H' = H ∧ ∃ (x y : Int) (r : Option V), σ = [some (.int t), some (.int b), some (.int x), some (.int y), r] ∧ 0 ≤ x ∧ 0 ≤ y ∧ Int.gcd x y = Int.gcd t b)
      (fun σ _ => match σ with | [_, _, _, some (.int y), _] => y.toNat | _ => 0) ⟨rfl, _, b, none, rfl, by split <;> omega, by omega, gcd_abs t b⟩ ?_ ?_⟩
    · rintro σ H' ⟨rfl, x, y, r, rfl, hx, hy, hg⟩
      refine ⟨_, rfl, _, _, rfl, rfl, _, rfl, ?_⟩
      refine ite2 (fun hk => ?_) (fun hk => ?_)
      · have hk := of_decide_eq_true hk
        refine ⟨_, rfl, _, rfl, _, _, rfl, rfl, hk, _, rfl, _, rfl, ?_⟩
        refine ⟨⟨rfl, y, x % y, _, rfl, hy, Int.emod_nonneg _ (by omega), (gcd_turn hx hk).trans hg⟩, ?_⟩
        show (x % y).toNat < y.toNat
        have := Int.emod_lt_of_pos x hk
        have := Int.emod_nonneg x (show y ≠ 0 by omega)
        omega
      · have hk : ¬ (0 < y) := fun z => hk (decide_eq_true z)
        obtain rfl : y = 0 := by omega
        have ex : (Int.gcd t b : Int) = x := by rw [← hg]; exact gcd_end hx
        have hx0 : 0 < x := by rw [← ex]; exact gcd_pos' hb
        have hxf : Fig 8000 x := by rw [← ex]; exact (gcd_fig hb hf).mono (by decide)
        refine ⟨_, rfl, _, rfl, _, _, rfl, rfl, ⟨hx0, hxf⟩, _, rfl, _, rfl, _, _, rfl, rfl, ⟨hx0, hxf⟩, (by show 2 ≤ sizeLine; decide), fun p hp => ?_⟩
        refine q p _ (Same.upd hp) hp ?_
        rw [upd_same]
        unfold lowP
        rw [ex]
    · rintro σ H' Q1 Q2 hq ⟨v, e, i, j, e1, e2, k, ek, z⟩
      exact ⟨v, e, i, j, e1, e2, k, ek, hq _ _ z⟩
def sp_law_parts (K : PySem.W.Frag) : Sp := fun vs H Q _ => ∃ (p q : Addr) (fs : List (Int × Int)), vs = [.ref p, .ref q] ∧ FL K H p fs ∧ FL K H q fs ∧ fs.length ≤ 1000 ∧ Q (.bl true) H
theorem ok_law_parts {a : Adr} (T : Txt K mg a) : FnOk P w K mg base CX0 2 a.f_law_parts a.d_law_parts ["found", "due"] (sp_law_parts K) := by
  refine T.law_parts.fn.ok sc_law_parts (fun vs H Q E h => ?_) (fun cdv A outer s H vs Q E hr h => ?_)
  · obtain ⟨p, q, fs, rfl, _⟩ := h
    rfl
  · obtain ⟨p, q, fs, rfl, ⟨rs, hp, pr⟩, ⟨us, hq, pu⟩, hl, k⟩ := h
    have l1 : rs.length = fs.length := Paired.length pr
    have l2 : us.length = fs.length := Paired.length pu
    have hu := hr.units
    refine ⟨_, (pss_cons (ps_if (PW.pt (pw_or (pt_not (pt_val (pe_callB call_isi (by rfl) T.no_isinstance bt_isinstance (pa_cons (pv 0) (pa_cons (pe_bltn (v := .ty "list") rfl T.no_list bt_list rfl) pa_nil))))) (pw_or1 (pt_cmpR op_ne (pe_callB call_len_seq (by rfl) T.no_len bt_len (pa_cons (pv 0) pa_nil)) (pe_callB call_len_seq (by rfl) T.no_len bt_len (pa_cons (pv 1) pa_nil)) (nomark _)))))
        (pss_one (ps_ret pe_bl))
        pss_nil)
        (pss_cons (ps_for PassesOwn.never rfl (pi_range1 rfl T.no_range (pa_cons (pe_callB call_len_seq (by rfl) T.no_len bt_len (pa_cons (pv 1) pa_nil)) pa_nil)) (pg_name (i := 2) sc_law_parts.nd rfl (Or.inl rfl))
        (pss_cons (ps_set (i := 3) sc_law_parts.nd rfl (Or.inl rfl) (pe_ix ix_list (pv 0) (pv 2) (fun _ _ => rfl)))
        (pss_cons (ps_if (PW.pt (pw_or (pt_not (pt_val (pe_callB call_isiT (by rfl) T.no_isinstance bt_isinstance (pa_cons (pv 3) (pa_cons (pe_bltn (v := .ty "tuple") rfl T.no_tuple bt_tuple rfl) pa_nil))))) (pw_or (pt_cmpR op_ne (pe_callB call_len_seq (by rfl) T.no_len bt_len (pa_cons (pv 3) pa_nil)) pe_int (nomark _)) (pw_or (pt_not (pt_val (pe_call (ok_law_whole T) (hr.mono (by decide)) rfl T.law_whole.gl T.law_whole.fn.kp T.law_whole.bd .nil pass0 (pa_cons (pe_ix ix_tup (pv 3) pe_int (fun _ _ => rfl)) pa_nil)))) (pw_or1 (pt_not (pt_val (pe_call (ok_law_whole T) (hr.mono (by decide)) rfl T.law_whole.gl T.law_whole.fn.kp T.law_whole.bd .nil pass0 (pa_cons (pe_ix ix_tup (pv 3) pe_int (fun _ _ => rfl)) pa_nil)))))))))
        (pss_one (ps_ret pe_bl))
        pss_nil)
        (pss_one (ps_if (pt_cmpR (op_neD hu) (pv 3) (pe_ix ix_list (pv 1) (pv 2) (fun _ _ => rfl)) (nomark _))
        (pss_one (ps_ret pe_bl))
        pss_nil)))))
        (pss_one (ps_ret pe_bl)))), ?_⟩
    -- not isinstance(found, list) or len(found) != len(due)
    refine ⟨_, rfl, _, _, _, _, rfl, .lst hp, rfl, _, rfl, ?_⟩
    refine iteF ?_
    refine ⟨_, rfl, p, _, rfl, .inl (SqL.of hp), _, rfl, q, _, rfl, .inl (SqL.of hq), rfl, _, rfl, ?_⟩
    refine iteNS (by rw [l1, l2]) ?_
    -- for k in range(len(due))
    refine ⟨_, rfl, q, _, rfl, .inl (SqL.of hq), _, rfl, by omega, by omega, for_range (fun i σ H' => H' = H ∧ ∃ x y, σ = [some (.ref p), some (.ref q), x, y]) ⟨rfl, none, none, rfl⟩ ?_ ?_⟩
    · rintro i σ H' hi ⟨rfl, x, y, rfl⟩
      have hi : i < fs.length := by omega
      obtain ⟨f, ef⟩ : ∃ f, fs[i]? = some f := ⟨_, List.getElem?_eq_getElem hi⟩
      obtain ⟨_, e1, a1, rfl, h1⟩ := Paired.get pr ef
      obtain ⟨_, e2, a2, rfl, h2⟩ := Paired.get pu ef
      have s1 : ∀ {n : Nat} {v : V}, ([V.int f.1, V.int f.2] : List V)[n]? = some v → atI [V.int f.1, V.int f.2] (n : Int) = some v := fun z => atI_nat z
      -- part = found[k]
      refine ⟨_, rfl, _, rfl, p, _, _, _, rfl, rfl, SqL.of hp, (by rw [Int.zero_add]; exact atI_nat e1), ?_⟩
      -- the four tests
      refine ⟨_, rfl, a1, _, _, _, rfl, h1, rfl, _, rfl, ?_⟩
      refine iteF ?_
      refine ⟨_, rfl, a1, _, rfl, .inr h1, rfl, _, rfl, ?_⟩
      refine iteF ?_
      refine ⟨_, rfl, a1, _, _, _, rfl, rfl, h1, s1 (n := 0) rfl, f.1, rfl, _, rfl, ?_⟩
      refine iteF ?_
      refine ⟨_, rfl, a1, _, _, _, rfl, rfl, h1, s1 (n := 1) rfl, f.2, rfl, _, rfl, ?_⟩
      refine iteF ?_
      -- part != due[k]
      refine ⟨_, rfl, _, rfl, _, rfl, q, _, _, _, rfl, rfl, SqL.of hq, (by rw [Int.zero_add]; exact atI_nat e2), _, _, .tup h1 (.cons (.int _) (.cons (.int _) .nil)), .tup h2 (.cons (.int _) (.cons (.int _) .nil)), rfl, rfl, (by simp [PyData.depth, PyData.depthAll]), _, rfl, ?_⟩
      have ee : PyData.eqv (.tuple [.int f.1, .int f.2]) (.tuple [.int f.1, .int f.2]) = true := SeqAt.eqv_refl _ rfl
      rw [ee]
      refine iteF ?_
      exact ⟨rfl, _, _, rfl⟩
    · rintro σ H' ⟨rfl, x, y, rfl⟩
      exact k
/-! a wall's part by a cell -/
def sideF (i : Int) : Int × Int := if i / 6 % 5 = 0 then lowP (i / 30 % 2) 1 else lowP (i / 30 % (1 + i % 6 + 1)) (1 + i % 6)
def sp_law_side : Sp := fun vs H Q _ => ∃ i : Int, vs = [.int i] ∧ RetF H Q (sideF i)
theorem fig_of {n : Nat} {k : Int} (h : 64 ≤ n) (h1 : -(2 ^ 64 : Int) < k) (h2 : k < (2 ^ 64 : Int)) : Fig n k := (Fig.of h1 h2).mono h
theorem ok_law_side {a : Adr} (T : Txt K mg a) : FnOk P w K mg base CX0 2 a.f_law_side a.d_law_side ["cell"] sp_law_side := by
  refine T.law_side.fn.ok sc_law_side (fun vs H Q E h => ?_) (fun cdv A outer s H vs Q E hr h => ?_)
  · obtain ⟨i, rfl, _⟩ := h
    rfl
  · obtain ⟨i, rfl, q⟩ := h
    refine ⟨_, (pss_cons (ps_set (i := 1) sc_law_side.nd rfl (Or.inl rfl) (pe_op op_add pe_int (pe_op op_mod (pv 0) pe_int)))
        (pss_cons (ps_if (pt_cmpR op_eq (pe_op op_mod (pe_op op_fdiv (pv 0) pe_int) pe_int) pe_int (nomark _))
        (pss_one (ps_set (i := 1) sc_law_side.nd rfl (Or.inl rfl) pe_int))
        pss_nil)
        (pss_one (ps_ret (pe_call (ok_law_low T) (hr.mono (by decide)) rfl T.law_low.gl T.law_low.fn.kp T.law_low.bd .nil pass0 (pa_cons (pe_op op_mod (pe_op op_fdiv (pv 0) pe_int) (pe_op op_add (pv 1) pe_int)) (pa_cons (pv 1) pa_nil))))))), ?_⟩
    refine ⟨_, rfl, _, _, rfl, rfl, (by first | (show (0 : Int) < _; first | decide | omega) | exact ⟨by decide, by decide⟩ | exact .inl ⟨by decide, by decide⟩ | exact .inr ⟨by decide, by decide⟩ | rfl | (show _ ≤ sizeLine; decide)), _, _, rfl, rfl, ?_⟩
    refine ⟨_, rfl, _, _, rfl, rfl, (by first | (show (0 : Int) < _; first | decide | omega) | exact ⟨by decide, by decide⟩ | exact .inl ⟨by decide, by decide⟩ | exact .inr ⟨by decide, by decide⟩ | rfl | (show _ ≤ sizeLine; decide)), _, _, rfl, rfl, (by first | (show (0 : Int) < _; first | decide | omega) | exact ⟨by decide, by decide⟩ | exact .inl ⟨by decide, by decide⟩ | exact .inr ⟨by decide, by decide⟩ | rfl | (show _ ≤ sizeLine; decide)), rfl, _, rfl, ?_⟩
    unfold sideF at q
    refine ite2 (fun hk => ?_) (fun hk => ?_)
    · have hk : i / 6 % 5 = 0 := V.int.inj (of_decide_eq_true hk)
      rw [if_pos hk] at q
      exact ⟨_, rfl, _, _, rfl, rfl, (by first | (show (0 : Int) < _; first | decide | omega) | exact ⟨by decide, by decide⟩ | exact .inl ⟨by decide, by decide⟩ | exact .inr ⟨by decide, by decide⟩ | rfl | (show _ ≤ sizeLine; decide)), _, rfl, _, _, rfl, rfl, _, _, rfl, rfl, (by first | (show (0 : Int) < _; first | decide | omega) | exact ⟨by decide, by decide⟩ | exact .inl ⟨by decide, by decide⟩ | exact .inr ⟨by decide, by decide⟩ | rfl | (show _ ≤ sizeLine; decide)), _, rfl, _, _, rfl, by decide, fig_of (by decide) (by decide) (by decide), q⟩
    · have hk : ¬ i / 6 % 5 = 0 := fun z => hk (decide_eq_true (congrArg V.int z))
      rw [if_neg hk] at q
      exact ⟨_, rfl, _, _, rfl, rfl, (by first | (show (0 : Int) < _; first | decide | omega) | exact ⟨by decide, by decide⟩ | exact .inl ⟨by decide, by decide⟩ | exact .inr ⟨by decide, by decide⟩ | rfl | (show _ ≤ sizeLine; decide)), _, rfl, _, _, rfl, rfl, _, _, rfl, rfl, (by first | (show (0 : Int) < _; first | decide | omega) | exact ⟨by decide, by decide⟩ | exact .inl ⟨by decide, by decide⟩ | exact .inr ⟨by decide, by decide⟩ | rfl | (show _ ≤ sizeLine; decide)), _, rfl, _, _, rfl, by omega, fig_of (by decide) (by omega) (by omega), q⟩
theorem range_get {n i : Nat} {α : Type} {f : Nat → α} {x : α} (h : ((List.range n).map f)[i]? = some x) : x = f i := by
  rw [List.getElem?_map] at h
  by_cases hi : i < n
  · rw [List.getElem?_range hi] at h
    exact (Option.some.inj h).symm
  · rw [List.getElem?_eq_none (by simp; omega)] at h
    cases h
theorem FL.range {H : Hp} {l : Addr} {n : Nat} {f : Nat → Int × Int} {ys : List V} (e : H l = some (.lst ys)) (hl : ys.length = n) (h : ∀ i y, ys[i]? = some y → FrV K H y (f i)) : FL K H l ((List.range n).map f) :=
  ⟨ys, e, paired_of (by simp [hl]) fun i y ey z ez => by
    rw [range_get ez]
    exact h i y ey⟩
theorem lowP_part {t b : Int} (h0 : 0 ≤ t) (hb : 0 < b) (h : t ≤ b) : 0 ≤ (lowP t b).1 ∧ (lowP t b).1 ≤ (lowP t b).2 := by
  have hg := gcd_pos' (t := t) hb
  exact ⟨Int.ediv_nonneg h0 (Int.le_of_lt hg), Int.ediv_le_ediv hg h⟩

/-! ### lowest terms, a common bottom -/
def sp_common_divisor : Sp := fun vs H Q _ => ∃ a b : Int, vs = [.int a, .int b] ∧ 0 ≤ a ∧ 0 ≤ b ∧ Q (.int (Int.gcd a b : Int)) H
theorem ok_common_divisor {a : Adr} (T : Txt K mg a) : FnOk P w K mg base CX0 1 a.f_common_divisor a.d_common_divisor ["one", "other"] sp_common_divisor := by
  refine T.common_divisor.fn.ok sc_common_divisor (fun vs H Q E h => ?_) (fun cdv A outer s H vs Q E hr h => ?_)
  · obtain ⟨t, b, rfl, _⟩ := h
    rfl
  · obtain ⟨t, b, rfl, ht, hb, q⟩ := h
    refine ⟨_, (pss_cons (ps_while PassesOwn.never (pt_cmpR op_ne (pv 1) pe_int (nomark _))
        (pss_cons (ps_set (i := 2) sc_common_divisor.nd rfl (Or.inl rfl) (pe_op op_mod (pv 0) (pv 1)))
        (pss_cons (ps_set (i := 0) sc_common_divisor.nd rfl (Or.inl rfl) (pv 1))
        (pss_one (ps_set (i := 1) sc_common_divisor.nd rfl (Or.inl rfl) (pv 2))))))
        (pss_one (ps_ret (pv 0)))), ?_⟩
    refine while_by (fun σ H' => H' = H ∧ ∃ (x y : Int) (r : Option V), σ = [some (.int x), some (.int y), r] ∧ 0 ≤ x ∧ 0 ≤ y ∧ Int.gcd x y = Int.gcd t b)
      (fun σ _ => match σ with | [_, some (.int y), _] => y.toNat | _ => 0) ⟨rfl, t, b, none, rfl, ht, hb, rfl⟩ ?_ ?_
    · rintro σ H' ⟨rfl, x, y, r, rfl, hx, hy, hg⟩
      refine ⟨_, rfl, rfl, _, rfl, ?_⟩
      by_cases hk : y = 0
      · subst hk
        refine iteF ?_
        refine ⟨_, rfl, ?_⟩
        have ex : (Int.gcd t b : Int) = x := by rw [← hg]; exact gcd_end hx
        rw [ex] at q
        exact q
      · have e : decide (V.int y = V.int 0) = false := decide_eq_false fun z => hk (V.int.inj z)
        rw [e]
        refine iteT ?_
        have hk : 0 < y := by omega
        refine ⟨_, rfl, _, rfl, _, _, rfl, rfl, hk, _, rfl, _, rfl, ?_⟩
        refine ⟨⟨rfl, y, x % y, _, rfl, hy, Int.emod_nonneg _ (by omega), (gcd_turn hx hk).trans hg⟩, ?_⟩
        show (x % y).toNat < y.toNat
        have := Int.emod_lt_of_pos x hk
        have := Int.emod_nonneg x (show y ≠ 0 by omega)
        omega
    · rintro σ H' Q1 Q2 hq ⟨v, e, e1, k, ek, z⟩
      exact ⟨v, e, e1, k, ek, hq _ _ z⟩
def sp_lowest : Sp := fun vs H Q _ => ∃ t b : Int, vs = [.int t, .int b] ∧ 0 < b ∧ Fig 7900 b ∧ RetF H Q (lowP t b)
theorem ok_lowest {a : Adr} (T : Txt K mg a) : FnOk P w K mg base CX0 2 a.f_lowest a.d_lowest ["top", "bottom"] sp_lowest := by
  refine T.lowest.fn.ok sc_lowest (fun vs H Q E h => ?_) (fun cdv A outer s H vs Q E hr h => ?_)
  · obtain ⟨t, b, rfl, _⟩ := h
    rfl
  · obtain ⟨t, b, rfl, hb, hf, q⟩ := h
    refine ⟨_, (pss_cons (ps_if (pt_cmpR op_lt (pv 1) pe_int (nomark _))
        (pss_cons (ps_set (i := 0) sc_lowest.nd rfl (Or.inl rfl) (pe_un un_neg (pv 0)))
        (pss_one (ps_set (i := 1) sc_lowest.nd rfl (Or.inl rfl) (pe_un un_neg (pv 1)))))
        pss_nil)
        (pss_cons (ps_set (i := 2) sc_lowest.nd rfl (Or.inl rfl) (pe_call (ok_common_divisor T) (hr.mono (by decide)) rfl T.common_divisor.gl T.common_divisor.fn.kp T.common_divisor.bd .nil pass0 (pa_cons (pe_callB call_abs (by rfl) T.no_abs bt_abs (pa_cons (pv 0) pa_nil)) (pa_cons (pv 1) pa_nil))))
        (pss_one (ps_ret (pe_tup (pa_cons (pe_op op_fdivB (pv 0) (pv 2)) (pa_cons (pe_op op_fdivB (pv 1) (pv 2)) pa_nil))))))), ?_⟩
    refine ⟨_, rfl, _, _, rfl, rfl, _, rfl, ?_⟩
    refine ite2 (fun hk => ?_) (fun hk => ?_)
    · have hk := of_decide_eq_true hk
      omega
    · have hx0 : 0 < (Int.gcd (if t < 0 then - t else t) b : Int) := by rw [gcd_abs]; exact gcd_pos' hb
      have hxf : Fig 8000 (Int.gcd (if t < 0 then -t else t) b : Int) := by rw [gcd_abs]; exact (gcd_fig hb hf).mono (by decide)
      refine ⟨_, rfl, _, rfl, _, rfl, _, _, rfl, by split <;> omega, by omega, ?_⟩
      refine ⟨_, rfl, _, rfl, _, _, rfl, rfl, ⟨hx0, hxf⟩, _, rfl, _, rfl, _, _, rfl, rfl, ⟨hx0, hxf⟩, (by show 2 ≤ sizeLine; decide), fun p hp => ?_⟩
      refine q p _ (Same.upd hp) hp ?_
      rw [upd_same, gcd_abs]
      rfl

end
end K12

set_option Elab.async false
set_option linter.all false
set_option maxRecDepth 100000
set_option maxHeartbeats 4000000
namespace K12
open PySem L2 L2R
section
variable {P : Program} {w : World} {K : PySem.W.Frag} {mg : Str → Option Value} {base : Heap}
/-! ### fields -/
def isPart (f : Int × Int) : Bool := decide (0 ≤ f.1) && decide (f.1 ≤ f.2)
def good (fs : List (Int × Int)) : Bool := (decide (1 ≤ fs.length) && decide (fs.length ≤ 8)) && fs.all isPart
def FieldAt (K : PySem.W.Frag) (cF : Addr) (H : Hp) (x : Addr) (fs : List (Int × Int)) : Prop := ∃ dx t, H x = some (.ins cF dx [("row", .ref t)]) ∧ FT K H t fs
def RetFd (K : PySem.W.Frag) (cF : Addr) (H : Hp) (Q : VK) (fs : List (Int × Int)) : Prop := ∀ p H', Same H H' → H p = none → FieldAt K cF H' p fs → Q (.ref p) H'
theorem FieldAt.same {cF : Addr} {H H' : Hp} {x : Addr} {fs : List (Int × Int)} (e : Same H H') (h : FieldAt K cF H x fs) : FieldAt K cF H' x fs := by
  obtain ⟨dx, t, h1, h2⟩ := h
  exact ⟨dx, t, e _ _ h1, h2.same e⟩
theorem FieldAt.chg {cF : Addr} {H : Hp} {x D : Addr} {fs : List (Int × Int)} {xs ys : List V} (hD : H D = some (.lst xs)) (h : FieldAt K cF H x fs) : FieldAt K cF (upd H D (.lst ys)) x fs := by
  obtain ⟨dx, t, h1, rs, h2, h3⟩ := h
  refine ⟨dx, t, ?_, rs, ?_, frs_chg hD h3⟩
  · rw [upd_ne (ne_of h1 hD (by intro z; cases z))]; exact h1
  · rw [upd_ne (ne_of h2 hD (by intro z; cases z))]; exact h2
theorem good_rev (fs : List (Int × Int)) : good fs.reverse = good fs := by unfold good; simp
theorem good_len {fs : List (Int × Int)} (h : good fs = true) : 1 ≤ fs.length ∧ fs.length ≤ 8 := by
  unfold good at h
  simp only [Bool.and_eq_true, decide_eq_true_eq] at h
  exact h.1
theorem good_app {fs gs : List (Int × Int)} (h : good fs = true) (h' : good gs = true) (hl : fs.length + gs.length ≤ 8) : good (fs ++ gs) = true := by
  unfold good at *
  simp only [Bool.and_eq_true, decide_eq_true_eq, List.length_append, List.all_append] at *
  exact ⟨⟨by omega, by omega⟩, h.2, h'.2⟩
def sp_is_part (K : PySem.W.Frag) : Sp := fun vs H Q _ => ∃ (p : Addr) (f : Int × Int), vs = [.ref p] ∧ SqT K H p [.int f.1, .int f.2] ∧ Q (.bl (isPart f)) H
theorem ok_is_part {a : Adr} (T : Txt K mg a) : FnOk P w K mg base CX0 1 a.f_is_part a.d_is_part ["fraction"] (sp_is_part K) := by
  refine T.is_part.fn.ok sc_is_part (fun vs H Q E h => ?_) (fun cdv A outer s H vs Q E hr h => ?_)
  · obtain ⟨p, f, rfl, _⟩ := h
    rfl
  · obtain ⟨p, f, rfl, hp, q⟩ := h
    refine ⟨_, (pss_one (ps_ret (pe_chain op_le op_le pe_int (pe_ix ix_tup (pv 0) pe_int (fun _ _ => rfl)) (pe_ix ix_tup (pv 0) pe_int (fun _ _ => rfl))))), ?_⟩
    unfold isPart at q
    refine ⟨_, rfl, p, _, _, _, rfl, rfl, hp, at0, _, _, rfl, rfl, _, rfl, ?_⟩
    refine ite2 (fun hk => ?_) (fun hk => ?_)
    · rw [hk] at q
      exact ⟨_, rfl, p, _, _, _, rfl, rfl, hp, at1, _, _, rfl, rfl, q⟩
    · rw [Bool.eq_false_iff.mpr hk] at q
      exact q
def sp_Field_init (K : PySem.W.Frag) (cF cN : Addr) : Sp := fun vs H Q E => ∃ (x dx l : Addr) (fs : List (Int × Int)), vs = [.ref x, .ref l] ∧ H x = some (.ins cF dx []) ∧ FL K H l fs ∧ fs.length ≤ 1000 ∧
  (good fs = true → ∀ t H1, (∀ b o, b ≠ x → H b = some o → H1 b = some o) → H1 x = some (.ins cF dx [("row", .ref t)]) → FT K H1 t fs → Q .non H1) ∧ (good fs = false → ∀ H1, Same H H1 → E (.ref cN) none H1)
theorem SqT.keepI {H H' : Hp} {x C dx a : Addr} {g : List (Str × V)} {zs : List V} (hx : H x = some (.ins C dx g)) (k : ∀ b o, b ≠ x → H b = some o → H' b = some o) (h : SqT K H a zs) : SqT K H' a zs := by
  rcases h with h | h
  · refine .inl ?_
    rcases h with h | ⟨o, h⟩
    · exact .inl (k _ _ (ne_of h hx (by intro z; cases z)) h)
    · exact .inr ⟨o, k _ _ (ne_of h hx (by intro z; cases z)) h⟩
  · exact .inr h
theorem ok_Field___init__ {a : Adr} (T : Txt K mg a) : FnOk P w K mg base (CX1 P w) 3 a.f_Field___init__ a.d_Field___init__ ["self", "walls"] (sp_Field_init K a.c_Field a.c_NoField) := by
  refine T.Field___init__.fn.ok1 sc_Field___init__ (fun vs H Q E h => ?_) (fun cdv A outer s H vs Q E hr h => ?_)
  · obtain ⟨x, dx, l, fs, rfl, _⟩ := h
    rfl
  · obtain ⟨x, dx, l, fs, rfl, hx, ⟨rs, hl, pr⟩, hn, qg, qb⟩ := h
    have l1 : rs.length = fs.length := Paired.length pr
    refine ⟨_, (pss_cons (ps_if (pt_not (pt_chain op_le op_le pe_int (pe_callB call_len_seq (by rfl) T.no_len bt_len (pa_cons (pv 1) pa_nil)) (pe_glob rfl T.g_MOST_WALLS.choose_spec.1 T.g_MOST_WALLS.choose_spec.2)))
        (pss_one (ps_raise T.ec_NoField T.g_NoField (pa_cons (pe_fstr (pj_str (pj_int (pe_glob rfl T.g_MOST_WALLS.choose_spec.1 T.g_MOST_WALLS.choose_spec.2) (pj_str pj_nil)))) pa_nil) hr.hd))
        pss_nil)
        (pss_cons (ps_if (pt_not (pt_val (pe_callB (call_all rfl) (by rfl) T.no_all bt_all (pa_cons (pe_comp (N := ["wall"]) (imp := [none]) rfl ⟨rfl, rfl, rfl, trivial, trivial⟩ (pi_list (pv 1)) (fun _ _ _ _ => pg_name (i := 0) (nd1 _) rfl (Or.inl rfl)) (fun _ _ _ _ => (pe_call (ok_is_part T) (hr.mono (by decide)) rfl T.is_part.gl T.is_part.fn.kp T.is_part.bd .nil pass0 (pa_cons (pv 0) pa_nil)))) pa_nil))))
        (pss_one (ps_raise T.ec_NoField T.g_NoField (pa_cons pe_str pa_nil) hr.hd))
        pss_nil)
        (pss_one (ps_fld (pv 0) (pe_callTy call_tuple_of (by rfl) T.no_tuple bt_tuple (pa_cons (pv 1) pa_nil)) rfl)))), ?_⟩
    refine ⟨_, rfl, l, _, rfl, .inl (SqL.of hl), _, _, rfl, rfl, _, rfl, ?_⟩
    refine ite2 (fun h1 => ?_) (fun h1 => ?_)
    · have h1 := of_decide_eq_true h1
      refine ⟨_, _, rfl, rfl, _, rfl, ?_⟩
      refine ite2 (fun h2 => ?_) (fun h2 => ?_)
      · refine ⟨by decide +kernel, _, rfl, by decide +kernel, by decide +kernel, by decide +kernel, by decide +kernel, by decide +kernel, qb ?_ _ (Same.refl _)⟩
        unfold good
        have : ¬ fs.length ≤ 8 := by simp at h2; omega
        simp [this]
      · have h2 : (rs.length : Int) ≤ 8 := by simpa using h2
        refine ⟨_, rfl, l, rfl, ⟨_, SqL.of hl⟩, ?_⟩
        refine comp_listR (rest := []) (fun _ i y => ∀ f, fs[i]? = some f → y = .bl (isPart f)) Grows.pure rfl (SqL.of hl) (Nat.le_trans (show _ ≤ 1000 by omega) (by decide)) ?_ ?_
        · intro i v H' Q' s hv q'
          obtain ⟨f, ef⟩ : ∃ f, fs[i]? = some f := ⟨_, List.getElem?_eq_getElem (by have := (List.getElem?_eq_some_iff.mp hv).1; omega)⟩
          obtain ⟨v', ev, a1, rfl, h1'⟩ := Paired.get pr ef
          rw [hv] at ev
          cases ev
          refine ⟨_, rfl, a1, f, rfl, h1'.same s, q' _ _ (Same.refl _) fun g eg => ?_⟩
          rw [ef] at eg
          cases eg
          rfl
        · intro l2 H2 ys s2 n2 e2 el hy
          have ey : ys = (fs.map isPart).map V.bl := by
            rw [List.map_map]
            exact eq_map_of (by omega) hy
          refine ⟨l2, fs.map isPart, rfl, SqL.of (by rw [← ey]; exact e2), _, rfl, ?_⟩
          have ea : (fs.map isPart).all id = fs.all isPart := by rw [List.all_map]; rfl
          rw [ea]
          refine ite2 (fun h3 => ?_) (fun h3 => ?_)
          · refine ⟨by decide +kernel, qb ?_ _ s2⟩
            have : fs.all isPart = false := by simpa using h3
            unfold good
            rw [this, Bool.and_false]
          · refine ⟨_, rfl, l, rs, rfl, .inl ⟨SqL.of (s2 _ _ hl), ?_⟩⟩
            intro t n3
            generalize hq : upd _ t _ = H3
            have s3 := Same.of_upd hq n3
            have e3 := get_of_upd hq
            clear hq
            have hx3 := s3 _ _ (s2 _ _ hx)
            refine ⟨_, rfl, x, a.c_Field, dx, _, rfl, hx3, T.cl_of_Field, T.na_Field_row, by decide, ?_⟩
            have hk : ∀ b o, b ≠ x → H3 b = some o → upd H3 x (.ins a.c_Field dx [("row", .ref t)]) b = some o := fun b o hb e => by rw [upd_ne hb]; exact e
            refine qg ?_ t _ (fun b o hb e => hk b o hb (s3 _ _ (s2 _ _ e))) upd_same ⟨rs, hk _ _ (ne_of e3 hx3 (by intro z; cases z)) e3, Paired.mapP pr fun r f ⟨b, e1, h1'⟩ => ⟨b, e1, SqT.keepI hx3 hk ((h1'.same s2).same s3)⟩⟩
            have h3 : fs.all isPart = true := by simpa using h3
            unfold good
            rw [h3, Bool.and_true]
            have : 1 ≤ fs.length ∧ fs.length ≤ 8 := ⟨by omega, by omega⟩
            simp [this.1, this.2]
    · refine ⟨_, rfl, ?_⟩
      refine iteT ?_
      refine ⟨by decide +kernel, _, rfl, by decide +kernel, by decide +kernel, by decide +kernel, by decide +kernel, by decide +kernel, qb ?_ _ (Same.refl _)⟩
      unfold good
      have : ¬ 1 ≤ fs.length := by simp at h1; omega
      simp [this]
theorem mk_field {cF cN : Addr} {H : Hp} {G : Hp → Prop} {E : XK} {x dx l : Addr} {fs : List (Int × Int)} (hx : H x = none) (hdx : H dx = none) (hl : FL K H l fs) (hn : fs.length ≤ 1000)
    (h1 : good fs = true → ∀ H1, Same H H1 → H x = none → FieldAt K cF H1 x fs → G H1) (h2 : good fs = false → ∀ H1, Same H H1 → E (.ref cN) none H1) :
    sp_Field_init K cF cN [.ref x, .ref l] (upd (upd H dx (.own x)) x (.ins cF dx [])) (fun v H2 => v = .non ∧ G H2) E := by
  have s1 : Same H (upd (upd H dx (.own x)) x (.ins cF dx [])) := Same.updN (Same.upd hdx) hx
  refine ⟨x, dx, l, fs, rfl, upd_same, hl.same s1, hn, fun g t H1 k e f => ⟨rfl, h1 g H1 (fun b o e1 => k b o (ne_of_none e1 hx) (s1 _ _ e1)) hx ⟨dx, t, e, f⟩⟩, fun g H1 s => h2 g H1 (s1.trans s)⟩
def sp_Field_walls (K : PySem.W.Frag) (cF : Addr) : Sp := fun vs H Q _ => ∃ (x : Addr) (fs : List (Int × Int)), vs = [.ref x] ∧ FieldAt K cF H x fs ∧ RetL K H Q fs
theorem ok_Field_walls {a : Adr} (T : Txt K mg a) : FnOk P w K mg base CX0 1 a.f_Field_walls a.d_Field_walls ["self"] (sp_Field_walls K a.c_Field) := by
  refine T.Field_walls.fn.ok sc_Field_walls (fun vs H Q E h => ?_) (fun cdv A outer s H vs Q E hr h => ?_)
  · obtain ⟨x, fs, rfl, _⟩ := h
    rfl
  · obtain ⟨x, fs, rfl, ⟨dx, t, hx, rs, ht, pr⟩, q⟩ := h
    refine ⟨_, (pss_one (ps_ret (pe_callTy call_list_of (by rfl) T.no_list bt_list (pa_cons (pe_fld (pv 0) rfl) pa_nil)))), ?_⟩
    refine ⟨_, rfl, x, a.c_Field, dx, _, _, rfl, hx, T.cl_of_Field, T.na_Field_row, rfl, t, rs, rfl, .inr (SqT.of ht), ?_⟩
    intro l n1
    generalize hq : upd _ l _ = H1
    have s1 := Same.of_upd hq n1
    have e1 := get_of_upd hq
    clear hq
    exact q l H1 s1 n1 ⟨rs, e1, frs_same s1 pr⟩

end
end K12

set_option Elab.async false
set_option linter.all false
set_option maxRecDepth 100000
set_option maxHeartbeats 4000000
namespace K12
open PySem L2 L2R
section
variable {P : Program} {w : World} {K : PySem.W.Frag} {mg : Str → Option Value} {base : Heap}
/-! ### reading -/
def sp_read_number (cB : Addr) : Sp := fun vs H Q E => ∃ z : Str, vs = [.str z] ∧ z.length ≤ 1000 ∧ (numF z = none → ∀ H', Same H H' → E (.ref cB) none H') ∧ (∀ n, numF z = some n → ∀ H', Same H H' → Q (.int n) H')
theorem numF_no {z : Str} (h : ¬ numOk z.cps.toList) : numF z = none := if_neg h
theorem ok_read_number {a : Adr} (T : Txt K mg a) : FnOk P w K mg base (CX1 P w) 1 a.f_read_number a.d_read_number ["written"] (sp_read_number a.c_BadText) := by
  refine T.read_number.fn.ok1 sc_read_number (fun vs H Q E h => ?_) (fun cdv A outer s H vs Q E hr h => ?_)
  · obtain ⟨z, rfl, _⟩ := h
    rfl
  · obtain ⟨z, rfl, hz, qb, qg⟩ := h
    have hs : z.length ≤ sizeLine := Nat.le_trans hz (by decide)
    have ll := len_list z
    refine ⟨_, (pss_cons (ps_if (pt_not (pt_chain op_le op_le pe_int (pe_callB call_len_str (by rfl) T.no_len bt_len (pa_cons (pv 0) pa_nil)) (pe_glob rfl T.g_MOST_FIGURES.choose_spec.1 T.g_MOST_FIGURES.choose_spec.2)))
        (pss_one (ps_raise T.ec_BadText T.g_BadText (pa_cons (pe_fstr (pj_str (pj_int (pe_glob rfl T.g_MOST_FIGURES.choose_spec.1 T.g_MOST_FIGURES.choose_spec.2) (pj_str pj_nil)))) pa_nil) hr.hd))
        pss_nil)
        (pss_cons (ps_if (pt_not (pt_val (pe_callB (call_all rfl) (by rfl) T.no_all bt_all (pa_cons (pe_comp (N := ["sign"]) (imp := [none]) rfl ⟨rfl, rfl, rfl, trivial, trivial⟩ (pi_str (pv 0)) (fun _ _ _ _ => pg_name (i := 0) (nd1 _) rfl (Or.inl rfl)) (fun _ _ _ _ => (pe_cmpR op_in_str (pv 0) (pe_glob rfl T.g_FIGURES.choose_spec.1 T.g_FIGURES.choose_spec.2) rfl))) pa_nil))))
        (pss_one (ps_raise T.ec_BadText T.g_BadText (pa_cons pe_str pa_nil) hr.hd))
        pss_nil)
        (pss_cons (ps_if (PW.pt (pw_and (pt_cmpR op_eq (pe_ix ix_str (pv 0) pe_int (fun _ _ => rfl)) pe_str (nomark _)) (pw_and1 (pt_cmpR op_gt (pe_callB call_len_str (by rfl) T.no_len bt_len (pa_cons (pv 0) pa_nil)) pe_int (nomark _)))))
        (pss_one (ps_raise T.ec_BadText T.g_BadText (pa_cons pe_str pa_nil) hr.hd))
        pss_nil)
        (pss_one (ps_ret (pe_callTy call_int_text (by rfl) T.no_int bt_int (pa_cons (pv 0) pa_nil))))))), ?_⟩
    refine ⟨_, rfl, z, rfl, hs, _, _, rfl, rfl, _, rfl, ?_⟩
    refine ite2 (fun h1 => ?_) (fun h1 => ?_)
    rotate_left
    · refine ⟨_, rfl, ?_⟩
      refine iteT ?_
      refine ⟨by decide +kernel, _, rfl, by decide +kernel, by decide +kernel, by decide +kernel, by decide +kernel, by decide +kernel, qb (numF_no fun k => h1 ?_) _ (Same.refl _)⟩
      have := k.1
      exact decide_eq_true (by omega)
    have h1 := of_decide_eq_true h1
    refine ⟨_, _, rfl, rfl, _, rfl, ?_⟩
    refine ite2 (fun h2 => ?_) (fun h2 => ?_)
    · refine ⟨by decide +kernel, _, rfl, by decide +kernel, by decide +kernel, by decide +kernel, by decide +kernel, by decide +kernel, qb (numF_no fun k => ?_) _ (Same.refl _)⟩
      have := k.2.1
      rw [decide_eq_true (show (z.length : Int) ≤ 12 by omega)] at h2
      cases h2
    have h2 : (z.length : Int) ≤ 12 := by simpa using h2
    -- figures alone
    refine ⟨_, rfl, z, rfl, ?_⟩
    refine comp_strR (rest := []) (fun _ i y => ∀ c, z.cps.toList[i]? = some c → y = .bl (decide (48 ≤ c ∧ c ≤ 57))) Grows.pure rfl hs ?_ ?_
    · intro i c H' Q' s' hc q'
      refine ⟨_, rfl, _, _, rfl, rfl, q' _ _ (Same.refl _) fun c' ec => ?_⟩
      have : c' = c := by
        rw [Array.getElem?_toList, hc] at ec
        exact (Option.some.inj ec).symm
      rw [this]
      exact congrArg V.bl (in_figs c)
    intro l1 H1 ys s1 n1 e1 el hy
    have ey : ys = (z.cps.toList.map fun c => decide (48 ≤ c ∧ c ≤ 57)).map V.bl := by
      rw [List.map_map]
      exact eq_map_of (by rw [el]; simp) hy
    refine ⟨l1, z.cps.toList.map fun c => decide (48 ≤ c ∧ c ≤ 57), rfl, SqL.of (by rw [← ey]; exact e1), _, rfl, ?_⟩
    have ea : (z.cps.toList.map fun c => decide (48 ≤ c ∧ c ≤ 57)).all id = decide (∀ c ∈ z.cps.toList, 48 ≤ c ∧ c ≤ 57) := by
      rw [List.all_map, Bool.eq_iff_iff, List.all_eq_true, decide_eq_true_eq]
      constructor
      · intro h c hc
        exact of_decide_eq_true (h c hc)
      · intro h c hc
        exact decide_eq_true (h c hc)
    rw [ea]
    refine ite2 (fun h3 => ?_) (fun h3 => ?_)
    · refine ⟨by decide +kernel, qb (numF_no fun k => ?_) _ s1⟩
      rw [decide_eq_true k.2.2.1] at h3
      cases h3
    have h3 : ∀ c ∈ z.cps.toList, 48 ≤ c ∧ c ≤ 57 := by simpa using h3
    -- no nought ahead
    obtain ⟨c, r, ecs⟩ : ∃ c r, z.cps.toList = c :: r := by
      cases e : z.cps.toList with
      | nil => rw [e] at ll; simp at ll; omega
      | cons c r => exact ⟨c, r, rfl⟩
    refine ⟨_, rfl, z, _, c, rfl, rfl, hs, (by rw [ecs]; show atI (c :: r) ((0 : Nat) : Int) = some c; exact atI_nat rfl), rfl, _, rfl, ?_⟩
    have fin : ¬ (c = 48 ∧ 1 < z.length) → numF z = some (NumText.digitsVal z.cps.toList : Int) := fun h => if_pos ⟨by omega, by omega, h3, by rw [ecs]; intro z1; exact h ⟨Option.some.inj z1.1, by rw [ll, ecs]; exact z1.2⟩⟩
    have e0 : ("0" : Str) = ⟨#[48]⟩ := by decide
    refine ite2 (fun h4 => ?_) (fun h4 => ?_)
    · have h4 : c = 48 := by
        have := V.str.inj (of_decide_eq_true h4)
        rw [e0] at this
        have := congrArg (fun s : Str => s.cps.toList) this
        simpa using this
      refine ⟨_, rfl, z, rfl, hs, _, _, rfl, rfl, _, rfl, ?_⟩
      refine ite2 (fun h5 => ?_) (fun h5 => ?_)
      · have h5 := of_decide_eq_true h5
        refine ⟨by decide +kernel, qb (numF_no fun k => k.2.2.2 ⟨by rw [ecs, h4]; rfl, by omega⟩) _ s1⟩
      · have h5 : ¬ 1 < z.length := fun q => h5 (decide_eq_true (by omega))
        have f := fin fun q => h5 q.2
        obtain ⟨t1, t2⟩ := numF_text f
        exact ⟨_, rfl, z, _, rfl, t1, t2, qg _ f _ s1⟩
    · have f := fin fun q => h4 (by rw [q.1, ← e0]; exact decide_eq_true rfl)
      obtain ⟨t1, t2⟩ := numF_text f
      exact ⟨_, rfl, z, _, rfl, t1, t2, qg _ f _ s1⟩

end
end K12

set_option Elab.async false
set_option linter.all false
set_option maxRecDepth 100000
set_option maxHeartbeats 4000000
namespace K12
open PySem L2 L2R
section
variable {P : Program} {w : World} {K : PySem.W.Frag} {mg : Str → Option Value} {base : Heap}
def sp_read_part (cB : Addr) : Sp := fun vs H Q E => ∃ z : Str, vs = [.str z] ∧ z.length ≤ 1000 ∧ (partZ z = none → ∀ H', Same H H' → E (.ref cB) none H') ∧ (∀ f, partZ z = some f → RetF H Q f)
theorem ok_read_part {a : Adr} (T : Txt K mg a) : FnOk P w K mg base (CX1 P w) 3 a.f_read_part a.d_read_part ["written"] (sp_read_part a.c_BadText) := by
  refine T.read_part.fn.ok1 sc_read_part (fun vs H Q E h => ?_) (fun cdv A outer s H vs Q E hr h => ?_)
  · obtain ⟨z, rfl, _⟩ := h
    rfl
  · obtain ⟨z, rfl, hz, qb, qg⟩ := h
    have hu := hr.units
    refine ⟨_, (pss_cons (ps_set (i := 1) sc_read_part.nd rfl (Or.inl rfl) (pe_bm PySem.F.plainAttrs_str PySem.F.slot_str_split PySem.F.type_str_split mt_split (pv 0) (pa_cons pe_str pa_nil)))
        (pss_cons (ps_if (pt_cmpR op_ne (pe_callB call_len_seq (by rfl) T.no_len bt_len (pa_cons (pv 1) pa_nil)) pe_int (nomark _))
        (pss_one (ps_raise T.ec_BadText T.g_BadText (pa_cons pe_str pa_nil) hr.hd))
        pss_nil)
        (pss_cons (ps_set (i := 2) sc_read_part.nd rfl (Or.inl rfl) (pe_call (ok_read_number T) (hr.mono (by decide)) rfl T.read_number.gl T.read_number.fn.kp T.read_number.bd .nil pass1 (pa_cons (pe_ix ix_list (pv 1) pe_int (fun _ _ => rfl)) pa_nil)))
        (pss_cons (ps_set (i := 3) sc_read_part.nd rfl (Or.inl rfl) (pe_call (ok_read_number T) (hr.mono (by decide)) rfl T.read_number.gl T.read_number.fn.kp T.read_number.bd .nil pass1 (pa_cons (pe_ix ix_list (pv 1) pe_int (fun _ _ => rfl)) pa_nil)))
        (pss_cons (ps_if (PW.pt (pw_or (pt_cmpR op_eq (pv 3) pe_int (nomark _)) (pw_or1 (pt_not (pt_val (pe_call (ok_is_part T) (hr.mono (by decide)) rfl T.is_part.gl T.is_part.fn.kp T.is_part.bd .nil pass0 (pa_cons (pe_tup (pa_cons (pv 2) (pa_cons (pv 3) pa_nil))) pa_nil)))))))
        (pss_one (ps_raise T.ec_BadText T.g_BadText (pa_cons pe_str pa_nil) hr.hd))
        pss_nil)
        (pss_cons (ps_if (pt_cmpR (op_neD hu) (pe_call (ok_lowest T) (hr.mono (by decide)) rfl T.lowest.gl T.lowest.fn.kp T.lowest.bd .nil pass0 (pa_cons (pv 2) (pa_cons (pv 3) pa_nil))) (pe_tup (pa_cons (pv 2) (pa_cons (pv 3) pa_nil))) (nomark _))
        (pss_one (ps_raise T.ec_BadText T.g_BadText (pa_cons pe_str pa_nil) hr.hd))
        pss_nil)
        (pss_one (ps_ret (pe_tup (pa_cons (pv 2) (pa_cons (pv 3) pa_nil))))))))))), ?_⟩
    refine ⟨_, rfl, rfl, z, _, rfl, rfl, by decide, Nat.le_trans (show _ ≤ 1002 by omega) (by decide), ?_⟩
    intro l1 n1
    generalize hq : upd _ l1 _ = H1
    have s1 := Same.of_upd hq n1
    have e1 := get_of_upd hq
    clear hq
    have hp : ∀ p ∈ Txt.split z "/", p.length ≤ 1000 := fun p hp => Nat.le_trans (split_part hp) hz
    have ez : partZ z = pairF ((Txt.split z "/").map numF) := rfl
    revert e1 hp ez
    generalize Txt.split z "/" = ws
    intro e1 hp ez
    refine ⟨_, rfl, l1, _, rfl, .inl (SqL.of e1), rfl, _, rfl, ?_⟩
    refine ite2 (fun h1 => ?_) (fun h1 => ?_)
    · refine ⟨by decide +kernel, qb ?_ _ s1⟩
      rw [ez]
      refine pair_two _ fun q => ?_
      rw [List.length_map] at q
      simp [q] at h1
    have h1 : ws.length = 2 := by
      have : ¬ ¬ V.int ((ws.map V.str).length : Int) = V.int 2 := fun q => h1 (by rw [decide_eq_false q]; rfl)
      have := V.int.inj (Classical.not_not.mp this)
      rw [List.length_map] at this
      omega
    obtain ⟨x, y, rfl⟩ : ∃ x y, ws = [x, y] := by
      match ws, h1 with
      | [x, y], _ => exact ⟨x, y, rfl⟩
    have ez : partZ z = pairF [numF x, numF y] := ez
    -- top
    refine ⟨_, rfl, l1, _, _, _, rfl, rfl, SqL.of e1, rfl, x, rfl, hp x (by simp), fun b H2 s2 => ?_, fun t et H2 s2 => ?_⟩
    · exact qb (by rw [ez, b]; rfl) _ (s1.trans s2)
    have e1 := s2 _ _ e1
    -- bottom
    refine ⟨_, rfl, l1, _, _, _, rfl, rfl, SqL.of e1, rfl, y, rfl, hp y (by simp), fun b H3 s3 => ?_, fun u eu H3 s3 => ?_⟩
    · exact qb (by rw [ez, et, b]; rfl) _ (s1.trans (s2.trans s3))
    have s13 := s1.trans (s2.trans s3)
    have ez : partZ z = if partOk (t, u) then some (t, u) else none := by rw [ez, et, eu]; rfl
    have rt := numF_rng et
    have ru := numF_rng eu
    refine ⟨_, rfl, rfl, _, rfl, ?_⟩
    refine ite2 (fun h2 => ?_) (fun h2 => ?_)
    · have h2 := V.int.inj (of_decide_eq_true h2)
      refine ⟨by decide +kernel, qb ?_ _ s13⟩
      rw [ez, if_neg fun k => k.1 h2]
    have h2 : u ≠ 0 := fun q => h2 (by rw [q]; exact decide_eq_true rfl)
    refine ⟨_, rfl, _, rfl, (by show 2 ≤ sizeLine; decide), ?_⟩
    intro t4 n4
    generalize hq : upd _ t4 _ = H4
    have s4 := Same.of_upd hq n4
    have e4 := get_of_upd hq
    clear hq
    have s14 := s13.trans s4
    refine ⟨t4, (t, u), rfl, SqT.of e4, _, rfl, ?_⟩
    refine ite2 (fun h3 => ?_) (fun h3 => ?_)
    · refine ⟨by decide +kernel, qb ?_ _ s14⟩
      rw [ez, if_neg fun k => ?_]
      have : isPart (t, u) = true := by
        unfold isPart
        rw [decide_eq_true rt.1, decide_eq_true k.2.1]
        rfl
      rw [this] at h3
      cases h3
    have h3 : t ≤ u := by
      unfold isPart at h3
      simp at h3
      exact h3.2
    -- lowest terms
    refine ⟨_, rfl, _, rfl, t, u, rfl, by omega, fig_of (by decide) (by omega) (by omega), fun t5 H5 s5 n5 e5 => ?_⟩
    refine ⟨_, rfl, _, rfl, (by show 2 ≤ sizeLine; decide), ?_⟩
    intro t6 n6
    generalize hq : upd _ t6 _ = H6
    have s6 := Same.of_upd hq n6
    have e6 := get_of_upd hq
    clear hq
    have s16 := s14.trans (s5.trans s6)
    refine ⟨_, _, (FrV.of (s6 _ _ e5)).dv, (FrV.of (f := (t, u)) e6).dv, frD_lay _, frD_lay _, Nat.le_trans (frD_depth _) (by decide), _, rfl, ?_⟩
    rw [frD_eqv]
    refine ite2 (fun h4 => ?_) (fun h4 => ?_)
    · refine ⟨by decide +kernel, qb ?_ _ s16⟩
      rw [ez, if_neg fun k => ?_]
      rw [decide_eq_true (show lowP t u = (t, u) from k.2.2)] at h4
      cases h4
    have h4 : lowP t u = (t, u) := Classical.byContradiction fun q => h4 (by rw [decide_eq_false q]; rfl)
    have ez : partZ z = some (t, u) := by rw [ez, if_pos ⟨h2, h3, h4⟩]
    refine ⟨_, rfl, _, rfl, (by show 2 ≤ sizeLine; decide), ?_⟩
    intro t7 n7
    generalize hq : upd _ t7 _ = H7
    have s7 := Same.of_upd hq n7
    have e7 := get_of_upd hq
    clear hq
    exact qg _ ez t7 H7 (s16.trans s7) (s16.free n7) e7

end
end K12

set_option Elab.async false
set_option linter.all false
set_option maxRecDepth 100000
set_option maxHeartbeats 4000000
namespace K12
open PySem L2 L2R
section
variable {P : Program} {w : World} {K : PySem.W.Frag} {mg : Str → Option Value} {base : Heap}
/-! ### read, any text -/
theorem good_got {ws : List Str} (h1 : 1 ≤ ws.length) (h8 : ws.length ≤ 8) (hw : ∀ w ∈ ws, ∃ f, partZ w = some f) : good (ws.map gotZ) = true := by
  unfold good
  have : (ws.map gotZ).all isPart = true := List.all_eq_true.mpr fun f hf => by
    obtain ⟨w, hm, rfl⟩ := List.mem_map.mp hf
    obtain ⟨g, eg⟩ := hw w hm
    have r := partZ_rng eg
    have : gotZ w = g := by simp [gotZ, eg]
    rw [this]
    unfold isPart
    rw [decide_eq_true r.1, decide_eq_true r.2]
    rfl
  rw [this]
  simp [h1, h8]
theorem strs_at {ws : List Str} {i : Nat} {v : V} (h : (ws.map V.str)[i]? = some v) : ∃ w, ws[i]? = some w ∧ v = .str w := by
  rw [List.getElem?_map] at h
  cases e : ws[i]? with
  | none => rw [e] at h; cases h
  | some w =>
    rw [e] at h
    exact ⟨w, rfl, (Option.some.inj h).symm⟩
def sp_read (K : PySem.W.Frag) (cF cB : Addr) : Sp := fun vs H Q E => ∃ z : Str, vs = [.str z] ∧ z.length ≤ 1000 ∧ (readZ z = none → ∀ H', Same H H' → E (.ref cB) none H') ∧ (∀ fs, readZ z = some fs → RetFd K cF H Q fs)
theorem ok_read {a : Adr} (T : Txt K mg a) : FnOk P w K mg base (CX1 P w) 5 a.f_read a.d_read ["text"] (sp_read K a.c_Field a.c_BadText) := by
  refine T.read.fn.ok1 sc_read (fun vs H Q E h => ?_) (fun cdv A outer s H vs Q E hr h => ?_)
  · obtain ⟨z, rfl, _⟩ := h
    rfl
  · obtain ⟨z, rfl, hz, qb, qg⟩ := h
    refine ⟨_, (pss_cons (ps_set (i := 1) sc_read.nd rfl (Or.inl rfl) (pe_bm PySem.F.plainAttrs_str PySem.F.slot_str_split PySem.F.type_str_split mt_split (pv 0) (pa_cons pe_str pa_nil)))
        (pss_cons (ps_if (pt_cmpR op_gt (pe_callB call_len_seq (by rfl) T.no_len bt_len (pa_cons (pv 1) pa_nil)) (pe_glob rfl T.g_MOST_WALLS.choose_spec.1 T.g_MOST_WALLS.choose_spec.2) (nomark _))
        (pss_one (ps_raise T.ec_BadText T.g_BadText (pa_cons (pe_fstr (pj_str (pj_int (pe_glob rfl T.g_MOST_WALLS.choose_spec.1 T.g_MOST_WALLS.choose_spec.2) (pj_str pj_nil)))) pa_nil) hr.hd))
        pss_nil)
        (pss_one (ps_ret (pe_make T.mk_of_Field (ok_Field___init__ T) (hr.mono (by decide)) rfl T.g_Field T.Field___init__.bd .nil passN (pa_cons (pe_compX (N := ["part"]) (imp := [none]) ⟨rfl, rfl, rfl, trivial, trivial⟩ (by decide +kernel) (by rfl) (pi_list (pv 1)) (fun _ _ _ _ => pg_name (i := 0) (nd1 _) rfl (Or.inl rfl)) (fun _ _ _ _ => (pe_call (ok_read_part T) (hr.mono (by decide)) rfl T.read_part.gl T.read_part.fn.kp T.read_part.bd .nil passX (pa_cons (pv 0) pa_nil)))) pa_nil)))))), ?_⟩
    refine ⟨_, rfl, rfl, _, _, rfl, rfl, by decide, Nat.le_trans (show _ ≤ 1002 by omega) (by decide), ?_⟩
    intro l1 n1
    generalize hq : upd _ l1 _ = H1
    have s1 := Same.of_upd hq n1
    have e1 := get_of_upd hq
    clear hq
    have hp : ∀ p ∈ Txt.split z " ", p.length ≤ 1000 := fun p hp => Nat.le_trans (split_part hp) hz
    have f := PyProof.Rows.fact_split z " "
    have ez : readZ z = if (Txt.split z " ").length ≤ 8 then allZ (Txt.split z " ") else none := rfl
    revert e1 hp f ez
    generalize Txt.split z " " = ws
    intro e1 hp f ez
    refine ⟨_, rfl, l1, _, rfl, .inl (SqL.of e1), _, _, rfl, rfl, _, rfl, ?_⟩
    refine ite2 (fun h1 => ?_) (fun h1 => ?_)
    · have h1 := of_decide_eq_true h1
      rw [List.length_map] at h1
      refine ⟨by decide +kernel, _, rfl, by decide +kernel, by decide +kernel, by decide +kernel, by decide +kernel, by decide +kernel, qb ?_ _ s1⟩
      rw [ez, if_neg (by omega)]
    have h8 : ws.length ≤ 8 := by
      rcases Nat.lt_or_ge 8 ws.length with z | z
      · exact absurd (decide_eq_true (by rw [List.length_map]; omega)) h1
      · exact z
    have ez : readZ z = allZ ws := by rw [ez, if_pos h8]
    refine ⟨_, rfl, l1, rfl, ⟨_, SqL.of e1⟩, ?_⟩
    refine comp_listR (rest := []) (fun H i y => ∃ w f, ws[i]? = some w ∧ partZ w = some f ∧ FrV K H y f) ⟨fun e h => (by obtain ⟨w, f, h1, h2, h3⟩ := h; exact ⟨w, f, h1, h2, h3.same e⟩), fun e h => (by obtain ⟨w, f, h1, h2, h3⟩ := h; exact ⟨w, f, h1, h2, h3.chg e⟩)⟩ rfl (SqL.of e1) (Nat.le_trans (show _ ≤ 1000 by rw [List.length_map]; omega) (by decide)) ?_ ?_
    · intro i v H' Q' s' hv q'
      obtain ⟨w, ew, rfl⟩ := strs_at hv
      have mw := List.mem_of_getElem? ew
      refine ⟨_, rfl, w, rfl, hp w mw, fun b H3 s3 => qb (by rw [ez]; exact all_none mw b) _ (s1.trans (s'.trans s3)), fun f ef p H3 s3 n3 e3 => q' _ _ s3 ⟨w, f, ew, ef, FrV.of e3⟩⟩
    intro l2 H2 ys s2 n2 e2 el hy
    have lys : ys.length = ws.length := by rw [el, List.length_map]
    have all : ∀ w ∈ ws, ∃ f, partZ w = some f := fun w hw => by
      obtain ⟨i, hi⟩ := List.getElem?_of_mem hw
      have li := (List.getElem?_eq_some_iff.mp hi).1
      obtain ⟨w', f, h1, h2, _⟩ := hy i _ (List.getElem?_eq_getElem (show i < ys.length by omega))
      rw [hi] at h1
      cases h1
      exact ⟨f, h2⟩
    have ez : readZ z = some (ws.map gotZ) := by rw [ez, all_some all]
    have F2 : FL K H2 l2 (ws.map gotZ) := ⟨ys, e2, paired_of (by rw [List.length_map]; exact lys) fun i y ey g eg => by
      obtain ⟨w, f, h1, h2, h3⟩ := hy i y ey
      rw [List.getElem?_map, h1] at eg
      have : g = f := by
        have := Option.some.inj eg
        rw [← this]
        simp [gotZ, h2]
      rw [this]
      exact h3⟩
    intro x dx hx hdx _
    refine mk_field hx hdx F2 (by rw [List.length_map]; omega) (fun _ H3 s3 n3 FX => ?_) (fun z => by rw [good_got f.1 h8 all] at z; cases z)
    exact qg _ ez x H3 (s1.trans (s2.trans s3)) ((s1.trans s2).free n3) FX

end
end K12

set_option Elab.async false
set_option linter.all false
set_option maxRecDepth 100000
set_option maxHeartbeats 4000000
namespace K12
open PySem L2 L2R
section
variable {P : Program} {w : World} {K : PySem.W.Frag} {mg : Str → Option Value} {base : Heap}
/-! ### the law's own reading -/
def RetO (K : PySem.W.Frag) (H : Hp) (Q : VK) (o : Option (List (Int × Int))) : Prop := match o with
  | none => ∀ H', Same H H' → Q .non H'
  | some ws => RetL K H Q ws
def sp_law_number : Sp := fun vs H Q _ => ∃ z : Str, vs = [.str z] ∧ z.length ≤ 1000 ∧ Q (optV (numF z)) H
theorem ok_law_number {a : Adr} (T : Txt K mg a) : FnOk P w K mg base CX0 1 a.f_law_number a.d_law_number ["word"] sp_law_number := by
  refine T.law_number.fn.ok sc_law_number (fun vs H Q E h => ?_) (fun cdv A outer s H vs Q E hr h => ?_)
  · obtain ⟨z, rfl, _⟩ := h
    rfl
  · obtain ⟨z, rfl, hz, k⟩ := h
    have hs : z.length ≤ sizeLine := Nat.le_trans hz (by decide)
    have ll := len_list z
    have no : ¬ numOk z.cps.toList → Q .non H := fun h => by
      have : numF z = none := if_neg h
      rw [this] at k
      exact k
    refine ⟨_, (pss_consG (ps_if (PW.pt (pw_or (pt_cmpR op_eq (pv 0) pe_str (nomark _)) (pw_or (pt_cmpR op_gt (pe_callB call_len_str (by rfl) T.no_len bt_len (pa_cons (pv 0) pa_nil)) pe_int (nomark _)) (pw_or1 (PW.pt (pw_and (pt_cmpR op_eq (pe_ix ix_str (pv 0) pe_int (fun _ _ => rfl)) pe_str (nomark _)) (pw_and1 (pt_cmpR op_ne (pv 0) pe_str (nomark _)))))))))
        (pss_one (ps_ret pe_non))
        pss_nil)
        (pss_cons (ps_for PassesOwn.never rfl (pi_str (pv 0)) (pg_name (i := 1) sc_law_number.nd rfl (Or.inl rfl))
        (pss_one (ps_if (pt_cmpR op_notIn_str (pv 1) pe_str rfl)
        (pss_one (ps_ret pe_non))
        pss_nil)))
        (pss_one (ps_ret (pe_callTy call_int_text (by rfl) T.no_int bt_int (pa_cons (pv 0) pa_nil)))))), ?_⟩
    refine ⟨fun σ' H' => σ' = [some (.str z), none] ∧ H = H' ∧ 1 ≤ z.length ∧ z.length ≤ 12 ∧ ¬ (z.cps.toList.head? = some 48 ∧ 1 < z.length), ?_, ?_⟩
    rotate_left
    · refine ⟨_, rfl, rfl, _, rfl, ?_⟩
      refine ite2 (fun h1 => ?_) (fun h1 => ?_)
      · refine iteT ?_
        have h1 := V.str.inj (of_decide_eq_true h1)
        refine no fun q => ?_
        rw [h1] at q
        exact absurd q.1 (by decide)
      have h1 : 1 ≤ z.length := by
        rcases Nat.eq_zero_or_pos z.length with y | y
        · refine absurd (decide_eq_true (congrArg V.str (str_ext ?_))) h1
          rw [ll] at y
          rw [List.length_eq_zero_iff.mp y]
          decide
        · exact y
      refine ⟨_, rfl, z, rfl, hs, _, _, rfl, rfl, _, rfl, ?_⟩
      refine ite2 (fun h2 => ?_) (fun h2 => ?_)
      · refine iteT ?_
        have h2 := of_decide_eq_true h2
        refine no fun q => ?_
        have := q.2.1
        omega
      have h2 : z.length ≤ 12 := by
        rcases Nat.lt_or_ge 12 z.length with y | y
        · exact absurd (decide_eq_true (by omega)) h2
        · exact y
      obtain ⟨c, r, ecs⟩ : ∃ c r, z.cps.toList = c :: r := by
        cases e : z.cps.toList with
        | nil => rw [e] at ll; simp at ll; omega
        | cons c r => exact ⟨c, r, rfl⟩
      have e0 : ("0" : Str) = ⟨#[48]⟩ := by decide
      refine ⟨_, rfl, z, _, c, rfl, rfl, hs, (by rw [ecs]; show atI (c :: r) ((0 : Nat) : Int) = some c; exact atI_nat rfl), rfl, _, rfl, ?_⟩
      refine ite2 (fun h3 => ?_) (fun h3 => ?_)
      · have h3 : c = 48 := by
          have := V.str.inj (of_decide_eq_true h3)
          rw [e0] at this
          have := congrArg (fun s : Str => s.cps.toList) this
          simpa using this
        refine ⟨_, rfl, rfl, _, rfl, ?_⟩
        refine ite2 (fun h4 => ?_) (fun h4 => ?_)
        · have h4 : z ≠ "0" := fun q => by
            rw [q] at h4
            exact absurd h4 (by decide)
          refine no fun q => q.2.2.2 ⟨by rw [ecs, h3]; rfl, ?_⟩
          rcases Nat.lt_or_ge 1 z.cps.toList.length with y | y
          · exact y
          · refine absurd (str_ext ?_) h4
            rw [e0, ecs, h3]
            rw [ecs] at y
            have : r = [] := by
              cases r with
              | nil => rfl
              | cons _ _ => simp at y
            rw [this]
        · have h4 : z = "0" := Classical.byContradiction fun q => h4 (by
            have : ¬ V.str z = V.str "0" := fun y => q (V.str.inj y)
            rw [decide_eq_false this]
            rfl)
          refine ⟨rfl, rfl, h1, h2, fun q => ?_⟩
          rw [h4] at q
          exact absurd q.2 (by decide)
      · refine iteF ?_
        refine ⟨rfl, rfl, h1, h2, fun q => h3 ?_⟩
        rw [ecs] at q
        have : c = 48 := Option.some.inj q.1
        rw [this, ← e0]
        exact decide_eq_true rfl
    rintro σ' H' ⟨rfl, rfl, h1, h2, h3⟩
    refine ⟨_, rfl, z, rfl, for_str (fun i σ H' => (∃ y, σ = [some (.str z), y]) ∧ H = H' ∧ ∀ j c, j < i → z.cps[j]? = some c → 48 ≤ c ∧ c ≤ 57) ⟨⟨none, rfl⟩, rfl, fun j c hj => absurd hj (Nat.not_lt_zero _)⟩ ?_ ?_⟩
    · rintro i c σ H' hc ⟨⟨y, rfl⟩, rfl, hd⟩
      refine ⟨_, rfl, _, _, rfl, rfl, _, rfl, ?_⟩
      rw [in_figs]
      refine ite2 (fun h4 => ?_) (fun h4 => ?_)
      · refine no fun q => ?_
        have mc : c ∈ z.cps.toList := by
          rw [← Array.getElem?_toList] at hc
          exact List.mem_of_getElem? hc
        rw [decide_eq_true (q.2.2.1 c mc)] at h4
        cases h4
      · have h4 : 48 ≤ c ∧ c ≤ 57 := Classical.byContradiction fun q => h4 (by rw [decide_eq_false q]; rfl)
        refine ⟨⟨_, rfl⟩, rfl, fun j c' hj e' => ?_⟩
        rcases Nat.lt_or_ge j i with y | y
        · exact hd j c' y e'
        · have : j = i := by omega
          rw [this, hc] at e'
          cases e'
          exact h4
    · rintro σ H' ⟨⟨y, rfl⟩, rfl, hd⟩
      have f : numF z = some (NumText.digitsVal z.cps.toList : Int) := if_pos ⟨by omega, by omega, fun c hc => by
        obtain ⟨j, hj⟩ := List.getElem?_of_mem hc
        rw [Array.getElem?_toList] at hj
        have lj : j < z.cps.size := (Array.getElem?_eq_some_iff.mp hj).1
        exact hd j c lj hj, by rw [← ll]; exact h3⟩
      obtain ⟨t1, t2⟩ := numF_text f
      rw [f] at k
      exact ⟨_, rfl, z, _, rfl, t1, t2, k⟩

end
end K12

set_option Elab.async false
set_option linter.all false
set_option maxRecDepth 100000
set_option maxHeartbeats 4000000
namespace K12
open PySem L2 L2R
section
variable {P : Program} {w : World} {K : PySem.W.Frag} {mg : Str → Option Value} {base : Heap}
def sp_law_due (K : PySem.W.Frag) : Sp := fun vs H Q _ => ∃ z : Str, vs = [.str z] ∧ z.length ≤ 1000 ∧ RetO K H Q (readZ z)
theorem ok_law_due {a : Adr} (T : Txt K mg a) : FnOk P w K mg base CX0 3 a.f_law_due a.d_law_due ["text"] (sp_law_due K) := by
  refine T.law_due.fn.ok sc_law_due (fun vs H Q E h => ?_) (fun cdv A outer s H vs Q E hr h => ?_)
  · obtain ⟨z, rfl, _⟩ := h
    rfl
  · obtain ⟨z, rfl, hz, k⟩ := h
    have hu := hr.units
    refine ⟨_, (pss_cons (ps_set (i := 1) sc_law_due.nd rfl (Or.inl rfl) (pe_lst pa_nil))
        (pss_cons (ps_for PassesOwn.never rfl (pi_list (pe_bm PySem.F.plainAttrs_str PySem.F.slot_str_split PySem.F.type_str_split mt_split (pv 0) (pa_cons pe_str pa_nil))) (pg_name (i := 2) sc_law_due.nd rfl (Or.inl rfl))
        (pss_cons (ps_comp (j := 3) (N := ["piece"]) (imp := [none]) rfl sc_law_due.nd rfl rfl ⟨rfl, rfl, rfl, trivial, trivial⟩ (pi_list (pe_bm PySem.F.plainAttrs_str PySem.F.slot_str_split PySem.F.type_str_split mt_split (pv 2) (pa_cons pe_str pa_nil))) (fun _ _ _ _ => pg_name (i := 0) (nd1 _) rfl (Or.inl rfl)) (fun _ _ _ _ => (pe_call (ok_law_number T) (hr.mono (by decide)) rfl T.law_number.gl T.law_number.fn.kp T.law_number.bd .nil pass0 (pa_cons (pv 0) pa_nil))))
        (pss_cons (ps_if (PW.pt (pw_or (pt_cmpR op_ne (pe_callB call_len_seq (by rfl) T.no_len bt_len (pa_cons (pv 3) pa_nil)) pe_int (nomark _)) (pw_or (pt_cmpR op_in_seq pe_non (pv 3) rfl) (pw_or (pt_cmpR op_lt (pe_ix ix_list (pv 3) pe_int (fun _ _ => rfl)) pe_int (nomark _)) (pw_or1 (pt_cmpR op_gt (pe_ix ix_list (pv 3) pe_int (fun _ _ => rfl)) (pe_ix ix_list (pv 3) pe_int (fun _ _ => rfl)) (nomark _)))))))
        (pss_one (ps_ret pe_non))
        pss_nil)
        (pss_cons (ps_if (pt_cmpR (op_neD hu) (pe_call (ok_law_low T) (hr.mono (by decide)) rfl T.law_low.gl T.law_low.fn.kp T.law_low.bd .nil pass0 (pa_cons (pe_ix ix_list (pv 3) pe_int (fun _ _ => rfl)) (pa_cons (pe_ix ix_list (pv 3) pe_int (fun _ _ => rfl)) pa_nil))) (pe_tup (pa_cons (pe_ix ix_list (pv 3) pe_int (fun _ _ => rfl)) (pa_cons (pe_ix ix_list (pv 3) pe_int (fun _ _ => rfl)) pa_nil))) (nomark _))
        (pss_one (ps_ret pe_non))
        pss_nil)
        (pss_one (ps_expr (pe_bm PySem.F.plainAttrs_list PySem.F.slot_list_append PySem.F.type_list_append mt_append (pv 1) (pa_cons (pe_tup (pa_cons (pe_ix ix_list (pv 3) pe_int (fun _ _ => rfl)) (pa_cons (pe_ix ix_list (pv 3) pe_int (fun _ _ => rfl)) pa_nil))) pa_nil))))))))
        (pss_cons (ps_if (pt_cmpR op_gt (pe_callB call_len_seq (by rfl) T.no_len bt_len (pa_cons (pv 1) pa_nil)) pe_int (nomark _))
        (pss_one (ps_ret pe_non))
        pss_nil)
        (pss_one (ps_ret (pv 1)))))), ?_⟩
    refine ⟨(by show 0 ≤ sizeLine; decide), ?_⟩
    intro sl nsl
    generalize hq : upd _ sl _ = H1
    have s1 := Same.of_upd hq nsl
    have e1 := get_of_upd hq
    clear hq
    refine ⟨_, rfl, rfl, z, _, rfl, rfl, by decide, Nat.le_trans (show _ ≤ 1002 by omega) (by decide), ?_⟩
    intro l2 n2
    generalize hq : upd _ l2 _ = H2
    have s2 := Same.of_upd hq n2
    have e2 := get_of_upd hq
    clear hq
    have hp : ∀ p ∈ Txt.split z " ", p.length ≤ 1000 := fun p hp => Nat.le_trans (split_part hp) hz
    have f := PyProof.Rows.fact_split z " "
    have ez : readZ z = if (Txt.split z " ").length ≤ 8 then allZ (Txt.split z " ") else none := rfl
    revert e2 hp f ez
    generalize Txt.split z " " = ws
    intro e2 hp f ez
    have no : ∀ w ∈ ws, partZ w = none → ∀ H', Same H H' → Q .non H' := fun w mw b => by
      have : readZ z = none := by
        rw [ez, all_none mw b]
        split <;> rfl
      rw [this] at k
      exact k
    have ne12 : l2 ≠ sl := fun q => by rw [q, e1] at n2; cases n2
    refine ⟨l2, rfl, ⟨_, SqL.of e2⟩, for_list (xs := ws.map V.str) (fun i σ H' => (∃ y2 y3, σ = [some (.str z), some (.ref sl), y2, y3]) ∧ Same H H' ∧ H' l2 = some (.lst (ws.map V.str)) ∧ ∃ fs, FL K H' sl fs ∧ allZ (ws.take i) = some fs)
      ⟨⟨none, none, rfl⟩, s1.trans s2, e2, [], ⟨[], s2 _ _ e1, .nil⟩, rfl⟩ (fun i σ H' _ h => SqL.of h.2.2.1) ?_ ?_⟩
    · rintro i v σ H' hv ⟨⟨y2, y3, rfl⟩, s', el2, fs, F, ea⟩
      obtain ⟨w, ew, rfl⟩ := strs_at hv
      have mw := List.mem_of_getElem? ew
      have li : i < ws.length := (List.getElem?_eq_some_iff.mp ew).1
      have lfs : fs.length = i := by
        rw [all_len ea, List.length_take]
        omega
      -- pieces
      refine ⟨_, rfl, rfl, w, _, rfl, rfl, by decide, Nat.le_trans (show _ ≤ 1002 by have := hp w mw; omega) (by decide), ?_⟩
      intro l3 n3
      generalize hq : upd _ l3 _ = H3
      have s3 := Same.of_upd hq n3
      have e3 := get_of_upd hq
      clear hq
      have hq : ∀ p ∈ Txt.split w "/", p.length ≤ 1000 := fun p hq => Nat.le_trans (split_part hq) (hp w mw)
      have fq := PyProof.Rows.fact_split w "/"
      have lq : (Txt.split w "/").length ≤ 1002 := by have := hp w mw; omega
      have pz : partZ w = pairF ((Txt.split w "/").map numF) := rfl
      revert e3 hq fq lq pz
      generalize Txt.split w "/" = ps
      intro e3 hq fq lq pz
      refine ⟨l3, rfl, ⟨_, SqL.of e3⟩, ?_⟩
      refine comp_listR (rest := []) (fun _ i y => ∀ p, ps[i]? = some p → y = optV (numF p)) Grows.pure rfl (SqL.of e3) (Nat.le_trans (show _ ≤ 2000 by rw [List.length_map]; omega) (by decide)) ?_ ?_
      · intro j v H'' Q' s'' hv q'
        obtain ⟨p, ep, rfl⟩ := strs_at hv
        refine ⟨_, rfl, p, rfl, hq p (List.mem_of_getElem? ep), q' _ _ (Same.refl _) fun p' ep' => ?_⟩
        rw [ep] at ep'
        cases ep'
        rfl
      intro l4 H4 ys s4 n4 e4 el4 hy
      have ey : ys = (ps.map numF).map optV := by
        rw [List.map_map]
        exact eq_map_of (by rw [el4, List.length_map]) hy
      rw [ey] at e4
      have s'4 : Same H' H4 := s3.trans s4
      have s04 : Same H H4 := s'.trans s'4
      have hn : ∀ n, some n ∈ ps.map numF → 0 ≤ n ∧ n < 10 ^ 12 := fun n hm => by
        obtain ⟨p, _, e⟩ := List.mem_map.mp hm
        exact numF_rng e
      revert e4 pz hn
      generalize ps.map numF = os
      intro pz e4 hn
      -- how many
      refine ⟨_, rfl, l4, _, rfl, .inl (SqL.of e4), rfl, _, rfl, ?_⟩
      by_cases h2 : os.length = 2
      rotate_left
      · refine iteD (by
          have : ¬ V.int ((os.map optV).length : Int) = V.int 2 := fun q => by
            have := V.int.inj q
            rw [List.length_map] at this
            omega
          rw [decide_eq_false this]
          rfl) ?_
        refine iteT ?_
        exact no w mw (by rw [pz]; exact pair_two _ h2) _ s04
      refine iteE (by
        have : V.int ((os.map optV).length : Int) = V.int 2 := by rw [List.length_map, h2]; rfl
        rw [decide_eq_true this]
        decide) ?_
      obtain ⟨o1, o2, rfl⟩ : ∃ o1 o2, os = [o1, o2] := by
        match os, h2 with
        | [x, y], _ => exact ⟨x, y, rfl⟩
      -- None in pieces
      cases o1 with
      | none =>
        refine ⟨_, rfl, l4, _, rfl, .inl (SqL.of e4), rfl, (by cases o2 <;> rfl), _, rfl, ?_⟩
        refine iteD (by rfl) ?_
        refine iteT ?_
        exact no w mw (by rw [pz]; cases o2 <;> rfl) _ s04
      | some t =>
      cases o2 with
      | none =>
        refine ⟨_, rfl, l4, _, rfl, .inl (SqL.of e4), rfl, rfl, _, rfl, ?_⟩
        refine iteD (by rfl) ?_
        refine iteT ?_
        exact no w mw (by rw [pz]; rfl) _ s04
      | some u =>
      have e4 : H4 l4 = some (.lst [.int t, .int u]) := e4
      have pz : partZ w = if partOk (t, u) then some (t, u) else none := pz
      have rt := hn t (by simp)
      have ru := hn u (by simp)
      have g0 : ∀ {H'' : Hp}, Same H4 H'' → SqL K H'' l4 [.int t, .int u] := fun s'' => SqL.of (s'' _ _ e4)
      refine ⟨_, rfl, l4, _, rfl, .inl (SqL.of e4), rfl, rfl, _, rfl, ?_⟩
      refine iteE (show ¬ (false = true) by decide) ?_
      refine ⟨_, rfl, l4, _, _, _, rfl, rfl, SqL.of e4, at1, _, _, rfl, rfl, _, rfl, ?_⟩
      refine ite2 (fun h3 => ?_) (fun h3 => ?_)
      · refine iteT ?_
        have h3 := of_decide_eq_true h3
        refine no w mw ?_ _ s04
        rw [pz, if_neg fun q => q.1 (show u = 0 by omega)]
      have h3 : ¬ u < 1 := fun q => h3 (decide_eq_true q)
      refine ⟨_, rfl, l4, _, _, _, rfl, rfl, SqL.of e4, at0, _, rfl, l4, _, _, _, rfl, rfl, SqL.of e4, at1, _, _, rfl, rfl, _, rfl, ?_⟩
      refine ite2 (fun h5 => ?_) (fun h5 => ?_)
      · have h5 := of_decide_eq_true h5
        refine no w mw ?_ _ s04
        rw [pz, if_neg fun q => absurd (show t ≤ u from q.2.1) (by omega)]
      have h5 : t ≤ u := by
        rcases Int.lt_or_le u t with q | q
        · exact absurd (decide_eq_true q) h5
        · exact q
      -- lowest terms
      refine ⟨_, rfl, l4, _, _, _, rfl, rfl, SqL.of e4, at0, _, rfl, l4, _, _, _, rfl, rfl, SqL.of e4, at1, t, u, rfl, by omega, fig_of (by decide) (by omega) (by omega), fun t5 H5 s5 n5 e5 => ?_⟩
      refine ⟨_, rfl, l4, _, _, _, rfl, rfl, g0 s5, at0, _, rfl, l4, _, _, _, rfl, rfl, g0 s5, at1, (by show 2 ≤ sizeLine; decide), ?_⟩
      intro t6 n6
      generalize hq : upd _ t6 _ = H6
      have s6 := Same.of_upd hq n6
      have e6 := get_of_upd hq
      clear hq
      have s46 : Same H4 H6 := s5.trans s6
      refine ⟨_, _, (FrV.of (s6 _ _ e5)).dv, (FrV.of (f := (t, u)) e6).dv, frD_lay _, frD_lay _, Nat.le_trans (frD_depth _) (by decide), _, rfl, ?_⟩
      rw [frD_eqv]
      refine ite2 (fun h6 => ?_) (fun h6 => ?_)
      · refine no w mw ?_ _ (s04.trans s46)
        rw [pz, if_neg fun q => ?_]
        rw [decide_eq_true (show lowP t u = (t, u) from q.2.2)] at h6
        cases h6
      have h6 : lowP t u = (t, u) := Classical.byContradiction fun q => h6 (by rw [decide_eq_false q]; rfl)
      have pz : partZ w = some (t, u) := by rw [pz, if_pos ⟨by show u ≠ 0; omega, h5, h6⟩]
      -- sides.append
      obtain ⟨ss, ess, pss⟩ := id (F.same (s'4.trans s46))
      have lss : ss.length = i := (Paired.length pss).trans lfs
      refine ⟨_, rfl, .inl ⟨rfl, _, SqL.of ess⟩, _, rfl, l4, _, _, _, rfl, rfl, g0 s46, at0, _, rfl, l4, _, _, _, rfl, rfl, g0 s46, at1, (by show 2 ≤ sizeLine; decide), ?_⟩
      intro t7 n7
      generalize hq : upd _ t7 _ = H7
      have s7 := Same.of_upd hq n7
      have e7 := get_of_upd hq
      clear hq
      have ess7 := s7 _ _ ess
      have s'7 : Same H' H7 := s'4.trans (s46.trans s7)
      refine ⟨sl, ss, .ref t7, rfl, rfl, ess7, Nat.lt_of_lt_of_le (show _ < 2000 by omega) (by decide), ?_⟩
      refine ⟨⟨_, _, rfl⟩, Same.updN (s'.trans s'7) nsl, ?_, fs ++ [(t, u)], ?_, ?_⟩
      · rw [upd_ne ne12]
        exact s'7 _ _ el2
      · exact ⟨_, upd_same, Paired.app (frs_chg ess7 (frs_same s7 pss)) (.cons (FrV.chg ess7 (FrV.of (f := (t, u)) e7)) .nil)⟩
      · rw [List.take_succ, ew]
        exact all_snoc ea pz
    · rintro σ H' ⟨⟨y2, y3, rfl⟩, s', el2, fs, F, ea⟩
      rw [List.length_map, List.take_length] at ea
      obtain ⟨ss, ess, pss⟩ := id F
      have lss : ss.length = ws.length := (Paired.length pss).trans (all_len ea)
      refine ⟨_, rfl, sl, _, rfl, .inl (SqL.of ess), _, _, rfl, rfl, _, rfl, ?_⟩
      refine ite2 (fun h3 => ?_) (fun h3 => ?_)
      · have h3 := of_decide_eq_true h3
        have : readZ z = none := by rw [ez, if_neg (by omega)]
        rw [this] at k
        exact k _ s'
      · have h8 : ws.length ≤ 8 := by
          rcases Nat.lt_or_ge 8 ws.length with q | q
          · exact absurd (decide_eq_true (by omega)) h3
          · exact q
        have : readZ z = some fs := by rw [ez, if_pos h8, ea]
        rw [this] at k
        exact ⟨_, rfl, k sl H' s' nsl F⟩

end
end K12

set_option Elab.async false
set_option linter.all false
set_option maxRecDepth 100000
set_option maxHeartbeats 4000000
namespace K12
open PySem L2 L2R
section
variable {P : Program} {w : World} {K : PySem.W.Frag} {mg : Str → Option Value} {base : Heap}
/-! ### words turned -/
def oddA : List Str := ["", "1", "1/", "/2", "1/1/1", "2/4", "0/2", "0/1", "1/1", "2/1", "-1/2", "1/0", "0/0", "01/2", "1/02"]
def oddL : List Str := oddA ++ ([Str.ofString "1/" ++ Txt.mul "9" 12, Str.ofString "1/" ++ Txt.mul "1" 13, "3/2", "+1/2", "1/2\t"] : List Str)
theorem odd_len : ∀ t ∈ oddL, t.length ≤ 25 := by decide +kernel
theorem odd_at {k : Int} (h0 : 0 ≤ k) (h1 : k < 20) : ∃ t, atI (oddL.map V.str) k = some (.str t) ∧ t.length ≤ 25 := by
  obtain ⟨n, rfl⟩ := Int.eq_ofNat_of_zero_le h0
  have hn : n < oddL.length := by
    show n < 20
    omega
  refine ⟨oddL[n], atI_nat (by rw [List.getElem?_map, List.getElem?_eq_getElem hn]; rfl), odd_len _ (List.getElem_mem hn)⟩
theorem mul_ok9 : MulOk "9" 12 := ⟨by decide, fun _ _ => by decide, fun _ _ => by decide⟩
theorem mul_ok1 : MulOk "1" 13 := ⟨by decide, fun _ _ => by decide, fun _ _ => by decide⟩
def RetW (H : Hp) (Q : VK) : Prop := ∀ (l' : Addr) (H' : Hp) (ts : List Str), Same H H' → H' l' = some (.lst (ts.map V.str)) → ts.length ≤ 19 → (∀ t ∈ ts, t.length ≤ 25) → Q (.ref l') H'
def sp_law_turned : Sp := fun vs H Q _ => ∃ (l : Addr) (ws : List Str) (mode cell : Int), vs = [.ref l, .int mode, .int cell] ∧ H l = some (.lst (ws.map V.str)) ∧ 1 ≤ ws.length ∧ ws.length ≤ 9 ∧ (∀ t ∈ ws, t.length ≤ 25) ∧ RetW H Q
theorem ok_law_turned {a : Adr} (T : Txt K mg a) : FnOk P w K mg base CX0 1 a.f_law_turned a.d_law_turned ["words", "mode", "cell"] sp_law_turned := by
  refine T.law_turned.fn.ok sc_law_turned (fun vs H Q E h => ?_) (fun cdv A outer s H vs Q E hr h => ?_)
  · obtain ⟨l, ws, mode, cell, rfl, _⟩ := h
    rfl
  · obtain ⟨l, ws, mode, cell, rfl, el, w1, w9, hw, k⟩ := h
    have lw : (ws.map V.str).length = ws.length := List.length_map _
    obtain ⟨s1, hs1, hb⟩ : ∃ s1, (∃ p b q r, s1 = .Assign [.Name "odd" p] (.List b q) r ∧ strsOf b = some oddA) ∧ defBody s_law_turned = (defBody s_law_turned).getD 0 (.Pass ⟨0, 0, 0, 0⟩) :: s1 :: (defBody s_law_turned).drop 2 := ⟨_, ⟨_, _, _, _, rfl, rfl⟩, rfl⟩
    rw [hb]
    refine ⟨_, (pss_cons (ps_set (i := 3) sc_law_turned.nd rfl (Or.inl rfl) (pe_op op_mod (pv 2) (pe_callB call_len_seq (by rfl) T.no_len bt_len (pa_cons (pv 0) pa_nil))))
        (pss_cons (ps_strs (i := 4) (xs := oddA) sc_law_turned.nd rfl (Or.inl rfl) hs1)
        (pss_cons (ps_set (i := 4) sc_law_turned.nd rfl (Or.inl rfl) (pe_op op_cat (pv 4) (pe_lst (pa_cons (pe_op op_add_str pe_str (pe_op op_mul_str pe_str pe_int)) (pa_cons (pe_op op_add_str pe_str (pe_op op_mul_str pe_str pe_int)) (pa_cons pe_str (pa_cons pe_str (pa_cons pe_str pa_nil))))))))
        (pss_cons (ps_if (pt_cmpR op_eq (pv 1) pe_int (nomark _))
        (pss_one (ps_ret (pe_op op_cat (pe_op op_cat (pe_slice sl_list (pv 0) po_none (po_some (pv 3))) (pe_lst (pa_cons (pe_ix ix_list (pv 4) (pe_op op_mod (pe_op op_fdiv (pv 2) pe_int) pe_int) (fun _ _ => rfl)) pa_nil))) (pe_slice sl_list (pv 0) (po_some (pe_op op_add (pv 3) pe_int)) po_none))))
        pss_nil)
        (pss_cons (ps_if (pt_cmpR op_eq (pv 1) pe_int (nomark _))
        (pss_one (ps_ret (pe_op op_cat (pe_op op_cat (pe_slice sl_list (pv 0) po_none (po_some (pv 3))) (pe_lst (pa_cons (pe_ix ix_list (pv 0) (pv 3) (fun _ _ => rfl)) pa_nil))) (pe_slice sl_list (pv 0) (po_some (pv 3)) po_none))))
        pss_nil)
        (pss_cons (ps_if (pt_cmpR op_eq (pv 1) pe_int (nomark _))
        (pss_one (ps_ret (pe_op op_cat (pe_slice sl_list (pv 0) po_none (po_some (pv 3))) (pe_slice sl_list (pv 0) (po_some (pe_op op_add (pv 3) pe_int)) po_none))))
        pss_nil)
        (pss_one (ps_ret (pv 0))))))))), ?_⟩
    refine ⟨_, rfl, _, rfl, l, _, rfl, .inl (SqL.of el), _, _, rfl, rfl, (by show (0 : Int) < _; omega), ?_⟩
    have a0 := Int.emod_nonneg cell (show ((ws.map V.str).length : Int) ≠ 0 by omega)
    have a1 := Int.emod_lt_of_pos cell (show (0 : Int) < ((ws.map V.str).length : Int) by omega)
    refine ⟨(by show 15 ≤ sizeLine; decide), ?_⟩
    intro o1 n1
    generalize hq : upd _ o1 _ = H1
    have s1 := Same.of_upd hq n1
    have e1 := get_of_upd hq
    clear hq
    refine ⟨_, rfl, _, _, rfl, rfl, mul_ok9, _, _, rfl, rfl, by decide +kernel, _, _, rfl, rfl, mul_ok1, _, _, rfl, rfl, by decide +kernel, (by show 5 ≤ sizeLine; decide), ?_⟩
    intro o2 n2
    generalize hq : upd _ o2 _ = H2
    have s2 := Same.of_upd hq n2
    have e2 := get_of_upd hq
    clear hq
    refine ⟨o1, o2, _, _, rfl, rfl, s2 _ _ e1, e2, by show 20 ≤ sizeLine; decide, ?_⟩
    intro o3 n3
    generalize hq : upd _ o3 _ = H3
    have s3 := Same.of_upd hq n3
    have e3 := get_of_upd hq
    clear hq
    have e3 : H3 o3 = some (.lst (oddL.map V.str)) := e3
    have s03 : Same H H3 := s1.trans (s2.trans s3)
    have el3 := s03 _ _ el
    have c0 := Int.emod_nonneg (cell / 9) (show (20 : Int) ≠ 0 by decide)
    have c1 := Int.emod_lt_of_pos (cell / 9) (show (0 : Int) < 20 by decide)
    -- mode 1
    refine ⟨_, rfl, rfl, _, rfl, ?_⟩
    refine ite2 (fun h1 => ?_) (fun h1 => ?_)
    · obtain ⟨t1, q1, m1, z1⟩ := cut_strs (ws := ws) none (some (cell % ((ws.map V.str).length : Int)))
      obtain ⟨t2, q2, m2, z2⟩ := cut_strs (ws := ws) (some (cell % ((ws.map V.str).length : Int) + 1)) none
      obtain ⟨o, eo, lo⟩ := odd_at c0 c1
      refine ⟨_, rfl, _, rfl, _, rfl, l, _, rfl, SqL.of el3, ?_⟩
      intro p4 n4
      generalize hq : upd _ p4 _ = H4
      have s4 := Same.of_upd hq n4
      have e4 := get_of_upd hq
      clear hq
      rw [q1] at e4
      refine ⟨_, rfl, _, rfl, _, _, rfl, rfl, (by first | (show (0 : Int) < _; first | decide | omega) | exact ⟨by decide, by decide⟩ | exact .inl ⟨by decide, by decide⟩ | exact .inr ⟨by decide, by decide⟩ | rfl | (show _ ≤ sizeLine; decide)), _, _, rfl, rfl, (by first | (show (0 : Int) < _; first | decide | omega) | exact ⟨by decide, by decide⟩ | exact .inl ⟨by decide, by decide⟩ | exact .inr ⟨by decide, by decide⟩ | rfl | (show _ ≤ sizeLine; decide)), o3, _, _, _, rfl, rfl, SqL.of (s4 _ _ e3), eo, (by show 1 ≤ sizeLine; decide), ?_⟩
      intro p5 n5
      generalize hq : upd _ p5 _ = H5
      have s5 := Same.of_upd hq n5
      have e5 := get_of_upd hq
      clear hq
      refine ⟨p4, p5, _, _, rfl, rfl, s5 _ _ e4, e5, Nat.le_trans (show _ ≤ 1000 by simp; omega) (by decide), ?_⟩
      intro p6 n6
      generalize hq : upd _ p6 _ = H6
      have s6 := Same.of_upd hq n6
      have e6 := get_of_upd hq
      clear hq
      have s36 : Same H3 H6 := s4.trans (s5.trans s6)
      refine ⟨_, rfl, _, rfl, _, _, rfl, rfl, _, rfl, l, _, rfl, SqL.of (s36 _ _ el3), ?_⟩
      intro p7 n7
      generalize hq : upd _ p7 _ = H7
      have s7 := Same.of_upd hq n7
      have e7 := get_of_upd hq
      clear hq
      rw [q2] at e7
      refine ⟨p6, p7, _, _, rfl, rfl, s7 _ _ e6, e7, Nat.le_trans (show _ ≤ 1000 by simp; omega) (by decide), ?_⟩
      intro p8 n8
      generalize hq : upd _ p8 _ = H8
      have s8 := Same.of_upd hq n8
      have e8 := get_of_upd hq
      clear hq
      refine k p8 H8 (t1 ++ [o] ++ t2) (s03.trans (s36.trans (s7.trans s8))) (by rw [List.map_append, List.map_append]; exact e8) (by simp; omega) fun t ht => ?_
      simp only [List.mem_append, List.mem_singleton] at ht
      rcases ht with (ht | ht) | ht
      · exact hw t (m1 t ht)
      · rw [ht]; exact lo
      · exact hw t (m2 t ht)
    -- mode 2
    refine ⟨_, rfl, rfl, _, rfl, ?_⟩
    refine ite2 (fun h2 => ?_) (fun h2 => ?_)
    · obtain ⟨t1, q1, m1, z1⟩ := cut_strs (ws := ws) none (some (cell % ((ws.map V.str).length : Int)))
      obtain ⟨t2, q2, m2, z2⟩ := cut_strs (ws := ws) (some (cell % ((ws.map V.str).length : Int))) none
      obtain ⟨o, mo, eo⟩ : ∃ o, o ∈ ws ∧ atI (ws.map V.str) (cell % ((ws.map V.str).length : Int)) = some (.str o) := by
        obtain ⟨n, en⟩ := Int.eq_ofNat_of_zero_le a0
        have hn : n < ws.length := by omega
        refine ⟨ws[n], List.getElem_mem hn, ?_⟩
        rw [en]
        exact atI_nat (by rw [List.getElem?_map, List.getElem?_eq_getElem hn]; rfl)
      refine ⟨_, rfl, _, rfl, _, rfl, l, _, rfl, SqL.of el3, ?_⟩
      intro p4 n4
      generalize hq : upd _ p4 _ = H4
      have s4 := Same.of_upd hq n4
      have e4 := get_of_upd hq
      clear hq
      rw [q1] at e4
      refine ⟨_, rfl, _, rfl, l, _, _, _, rfl, rfl, SqL.of (s4 _ _ el3), eo, (by show 1 ≤ sizeLine; decide), ?_⟩
      intro p5 n5
      generalize hq : upd _ p5 _ = H5
      have s5 := Same.of_upd hq n5
      have e5 := get_of_upd hq
      clear hq
      refine ⟨p4, p5, _, _, rfl, rfl, s5 _ _ e4, e5, Nat.le_trans (show _ ≤ 1000 by simp; omega) (by decide), ?_⟩
      intro p6 n6
      generalize hq : upd _ p6 _ = H6
      have s6 := Same.of_upd hq n6
      have e6 := get_of_upd hq
      clear hq
      have s36 : Same H3 H6 := s4.trans (s5.trans s6)
      refine ⟨_, rfl, _, rfl, _, rfl, l, _, rfl, SqL.of (s36 _ _ el3), ?_⟩
      intro p7 n7
      generalize hq : upd _ p7 _ = H7
      have s7 := Same.of_upd hq n7
      have e7 := get_of_upd hq
      clear hq
      rw [q2] at e7
      refine ⟨p6, p7, _, _, rfl, rfl, s7 _ _ e6, e7, Nat.le_trans (show _ ≤ 1000 by simp; omega) (by decide), ?_⟩
      intro p8 n8
      generalize hq : upd _ p8 _ = H8
      have s8 := Same.of_upd hq n8
      have e8 := get_of_upd hq
      clear hq
      refine k p8 H8 (t1 ++ [o] ++ t2) (s03.trans (s36.trans (s7.trans s8))) (by rw [List.map_append, List.map_append]; exact e8) (by simp; omega) fun t ht => ?_
      simp only [List.mem_append, List.mem_singleton] at ht
      rcases ht with (ht | ht) | ht
      · exact hw t (m1 t ht)
      · rw [ht]; exact hw o mo
      · exact hw t (m2 t ht)
    -- mode 3
    refine ⟨_, rfl, rfl, _, rfl, ?_⟩
    refine ite2 (fun h3 => ?_) (fun h3 => ?_)
    · obtain ⟨t1, q1, m1, z1⟩ := cut_strs (ws := ws) none (some (cell % ((ws.map V.str).length : Int)))
      obtain ⟨t2, q2, m2, z2⟩ := cut_strs (ws := ws) (some (cell % ((ws.map V.str).length : Int) + 1)) none
      refine ⟨_, rfl, _, rfl, _, rfl, l, _, rfl, SqL.of el3, ?_⟩
      intro p4 n4
      generalize hq : upd _ p4 _ = H4
      have s4 := Same.of_upd hq n4
      have e4 := get_of_upd hq
      clear hq
      rw [q1] at e4
      refine ⟨_, rfl, _, rfl, _, _, rfl, rfl, _, rfl, l, _, rfl, SqL.of (s4 _ _ el3), ?_⟩
      intro p5 n5
      generalize hq : upd _ p5 _ = H5
      have s5 := Same.of_upd hq n5
      have e5 := get_of_upd hq
      clear hq
      rw [q2] at e5
      refine ⟨p4, p5, _, _, rfl, rfl, s5 _ _ e4, e5, Nat.le_trans (show _ ≤ 1000 by simp; omega) (by decide), ?_⟩
      intro p6 n6
      generalize hq : upd _ p6 _ = H6
      have s6 := Same.of_upd hq n6
      have e6 := get_of_upd hq
      clear hq
      refine k p6 H6 (t1 ++ t2) (s03.trans (s4.trans (s5.trans s6))) (by rw [List.map_append]; exact e6) (by simp; omega) fun t ht => ?_
      simp only [List.mem_append] at ht
      rcases ht with ht | ht
      · exact hw t (m1 t ht)
      · exact hw t (m2 t ht)
    · exact ⟨_, rfl, k l H3 ws s03 el3 (by omega) hw⟩

end
end K12

set_option Elab.async false
set_option linter.all false
set_option maxRecDepth 100000
set_option maxHeartbeats 4000000
namespace K12
open PySem L2 L2R
section
variable {P : Program} {w : World} {K : PySem.W.Frag} {mg : Str → Option Value} {base : Heap}
/-! ### the law's words for a refusal -/
def kindL (bs : List Bool) : List V := bs.map V.bl
def sp_law_kind (K : PySem.W.Frag) (a : Adr) : Sp := fun vs H Q _ => ∃ (x C : Addr) (b0 b1 b2 b3 b4 b5 : Bool), vs = [.ref x] ∧ H x = some (ExcO x C) ∧ ExcCls K C ∧
  PySem.W.kitOne K (.ref C) (.ref a.c_NoField) = some b0 ∧ PySem.W.kitOne K (.ref C) (.ref a.c_NoMoment) = some b1 ∧ PySem.W.kitOne K (.ref C) (.ref a.c_NoRecord) = some b2 ∧ PySem.W.kitOne K (.ref C) (.ref a.c_TooMany) = some b3 ∧
  PySem.W.kitOne K (.ref C) (.ref a.c_BadText) = some b4 ∧ PySem.W.kitOne K (.ref C) (.type "ValueError") = some b5 ∧
  ∀ l H', Same H H' → H l = none → H' l = some (.lst (kindL [b0, b1, b2, b3, b4, b5])) → Q (.ref l) H'
theorem ok_law_kind {a : Adr} (T : Txt K mg a) : FnOkH P w K mg base 1 a.f_law_kind a.d_law_kind ["e"] (sp_law_kind K a) := by
  refine T.law_kind.fn.okH sc_law_kind (fun vs H Q E h => ?_) (fun cdv A A' outer s H vs Q hr h => ?_)
  · obtain ⟨x, C, b0, b1, b2, b3, b4, b5, rfl, _⟩ := h
    rfl
  · obtain ⟨x, C, b0, b1, b2, b3, b4, b5, rfl, hx, ec, k0, k1, k2, k3, k4, k5, q⟩ := h
    refine ⟨_, (pss_cons (ps_set (i := 1) sc_law_kind.nd rfl (Or.inl rfl) (pe_lst (pa_cons (pe_callB call_isiX (by rfl) T.no_isinstance bt_isinstance (pa_cons (pv 0) (pa_cons (pe_glob (v := .ref _) rfl T.g_NoField rfl) pa_nil))) (pa_cons (pe_callB call_isiX (by rfl) T.no_isinstance bt_isinstance (pa_cons (pv 0) (pa_cons (pe_glob (v := .ref _) rfl T.g_NoMoment rfl) pa_nil))) (pa_cons (pe_callB call_isiX (by rfl) T.no_isinstance bt_isinstance (pa_cons (pv 0) (pa_cons (pe_glob (v := .ref _) rfl T.g_NoRecord rfl) pa_nil))) (pa_cons (pe_callB call_isiX (by rfl) T.no_isinstance bt_isinstance (pa_cons (pv 0) (pa_cons (pe_glob (v := .ref _) rfl T.g_TooMany rfl) pa_nil))) pa_nil))))))
        (pss_one (ps_ret (pe_op op_cat (pv 1) (pe_lst (pa_cons (pe_callB call_isiX (by rfl) T.no_isinstance bt_isinstance (pa_cons (pv 0) (pa_cons (pe_glob (v := .ref _) rfl T.g_BadText rfl) pa_nil))) (pa_cons (pe_callB call_isiX (by rfl) T.no_isinstance bt_isinstance (pa_cons (pv 0) (pa_cons (pe_bltn (v := .ty "ValueError") rfl T.no_ValueError bt_ValueError rfl) pa_nil))) pa_nil))))))), ?_⟩
    refine ⟨_, rfl, x, C, _, _, b0, rfl, rfl, rfl, hx, ec, k0, _, rfl, x, C, _, _, b1, rfl, rfl, rfl, hx, ec, k1, _, rfl, x, C, _, _, b2, rfl, rfl, rfl, hx, ec, k2, _, rfl, x, C, _, _, b3, rfl, rfl, rfl, hx, ec, k3, (by show 4 ≤ sizeLine; decide), ?_⟩
    intro l1 n1
    generalize hq : upd _ l1 _ = H1
    have s1 := Same.of_upd hq n1
    have e1 := get_of_upd hq
    clear hq
    have hx1 := s1 _ _ hx
    refine ⟨_, rfl, _, rfl, x, C, _, _, b4, rfl, rfl, rfl, hx1, ec, k4, _, rfl, x, C, _, _, b5, rfl, rfl, rfl, hx1, ec, k5, (by show 2 ≤ sizeLine; decide), ?_⟩
    intro l2 n2
    generalize hq : upd _ l2 _ = H2
    have s2 := Same.of_upd hq n2
    have e2 := get_of_upd hq
    clear hq
    refine ⟨l1, l2, _, _, rfl, rfl, s2 _ _ e1, e2, (by show 6 ≤ sizeLine; decide), ?_⟩
    intro l3 n3
    generalize hq : upd _ l3 _ = H3
    have s3 := Same.of_upd hq n3
    have e3 := get_of_upd hq
    clear hq
    exact q l3 H3 ((s1.trans s2).trans s3) ((s1.trans s2).free n3) e3
def oneL (k : Int) : List V := ((List.range 5).map fun (i : Nat) => V.bl (decide (V.int k = V.int (0 + (i : Int))))) ++ [.bl true]
def sp_law_one : Sp := fun vs H Q _ => ∃ k : Int, vs = [.int k] ∧ ∀ l H', Same H H' → H l = none → H' l = some (.lst (oneL k)) → Q (.ref l) H'
theorem ok_law_one {a : Adr} (T : Txt K mg a) : FnOk P w K mg base CX0 1 a.f_law_one a.d_law_one ["k"] sp_law_one := by
  refine T.law_one.fn.ok sc_law_one (fun vs H Q E h => ?_) (fun cdv A outer s H vs Q E hr h => ?_)
  · obtain ⟨k, rfl, _⟩ := h
    rfl
  · obtain ⟨k, rfl, q⟩ := h
    refine ⟨_, (pss_one (ps_ret (pe_op op_cat (pe_comp (N := ["j", "k"]) (imp := [none, some 0]) rfl ⟨rfl, rfl, rfl, ⟨rfl, trivial⟩, ⟨⟨rfl, rfl, rfl⟩, trivial⟩⟩ (pi_range1 rfl T.no_range (pa_cons pe_int pa_nil)) (fun _ _ _ _ => pg_name (i := 0) (show (["j", "k"] : List Str).Nodup from by decide +kernel) rfl (Or.inl rfl)) (fun _ _ _ _ => (pe_cmpR op_eq (pv 1) (pv 0) (nomark _)))) (pe_lst (pa_cons pe_bl pa_nil))))), ?_⟩
    refine ⟨5, rfl, by decide, by decide, ?_⟩
    refine comp_rangeR (rest := [some (.int k)]) (fun _ i y => y = V.bl (decide (V.int k = V.int (0 + (i : Int))))) Grows.pure rfl (by decide) ?_ ?_
    · intro i H' Q' s hi q'
      exact ⟨_, rfl, _, rfl, rfl, q' _ _ (Same.refl _) rfl⟩
    · intro l H1 ys s1 n1 e1 el hy
      refine ⟨(by show 1 ≤ sizeLine; decide), ?_⟩
      intro l2 n2
      generalize hq : upd _ l2 _ = H2
      have s2 := Same.of_upd hq n2
      have e2 := get_of_upd hq
      clear hq
      have ey : ys = (List.range 5).map fun (i : Nat) => V.bl (decide (V.int k = V.int (0 + (i : Int)))) := by
        refine List.ext_getElem? fun i => ?_
        by_cases hi : i < 5
        · rw [List.getElem?_map, List.getElem?_range hi, List.getElem?_eq_getElem (by simp at el; omega)]
          exact congrArg some (hy i _ (List.getElem?_eq_getElem _))
        · rw [List.getElem?_eq_none (by simp at el; omega), List.getElem?_eq_none (by simp; omega)]
      refine ⟨l, l2, _, _, rfl, rfl, s2 _ _ e1, e2, Nat.le_trans (show _ ≤ 6 by simp at el; simp [el]) (by decide), ?_⟩
      intro l3 n3
      generalize hq : upd _ l3 _ = H3
      have s3 := Same.of_upd hq n3
      have e3 := get_of_upd hq
      clear hq
      rw [ey] at e3
      exact q l3 H3 ((s1.trans s2).trans s3) ((s1.trans s2).free n3) e3
theorem bools_dv {H : Hp} : ∀ bs : List Bool, DVs K H (bs.map V.bl) (bs.map PyData.bool)
  | [] => .nil
  | b :: bs => .cons (.bl b) (bools_dv bs)

def sp_law (K : PySem.W.Frag) : Sp := fun vs H Q _ => ∃ (a : Addr) (ns : List Int), vs = [.ref a] ∧ SqL K H a (ns.map V.int) ∧ ns.length ≤ 63 ∧ ∀ H', Q (.bl true) H'
theorem wr_low {t b : Int} (h0 : 0 ≤ t) (hb : 0 < b) (h : t ≤ b) (hl : b < 10 ^ 12) : Wr (lowP t b) := by
  have p := lowP_part h0 hb h
  have q := lowP_pos (t := t) hb
  have g1 := gcd_pos' (t := t) hb
  have le : (lowP t b).2 ≤ b := by
    show b / (Int.gcd t b : Int) ≤ b
    exact Int.ediv_le_self _ (Int.le_of_lt hb)
  refine ⟨p.1, p.2, q, by omega, ?_⟩
  have e : lowP t b = rp ((t : Rat) / (b : Rat)) := low_rat hb
  rw [e]
  have e2 : lowP (rp ((t : Rat) / (b : Rat))).1 (rp ((t : Rat) / (b : Rat))).2 = rp (((rp ((t : Rat) / (b : Rat))).1 : Rat) / ((rp ((t : Rat) / (b : Rat))).2 : Rat)) := low_rat (rp_pos _)
  rw [e2, rp_div]
theorem wr_side (i : Int) : Wr (sideF i) := by
  unfold sideF
  split
  · exact wr_low (by omega) (by decide) (by omega) (by decide)
  · have e1 := Int.emod_nonneg (i / 30) (show (1 + i % 6 + 1) ≠ 0 by omega)
    have e2 := Int.emod_lt_of_pos (i / 30) (show 0 < (1 + i % 6 + 1) by omega)
    exact wr_low (by omega) (by omega) (by omega) (by omega)

theorem one4 : oneL 4 = kindL [false, false, false, false, true, true] := by decide
theorem read_len {z : Str} {fs : List (Int × Int)} (h : readZ z = some fs) : fs.length ≤ 8 := by
  unfold readZ at h
  split at h
  · rename_i k
    rw [all_len h]
    exact k
  · cases h
theorem sign_at {k : Int} (h0 : 0 ≤ k) (h1 : k < 16) : ∃ c, atI (Str.ofString "0123456789/ -\n\t.").cps.toList k = some c := by
  obtain ⟨n, rfl⟩ := Int.eq_ofNat_of_zero_le h0
  have hl : (Str.ofString "0123456789/ -\n\t.").cps.toList.length = 16 := by decide
  have hn : n < (Str.ofString "0123456789/ -\n\t.").cps.toList.length := by omega
  exact ⟨_, atI_nat (List.getElem?_eq_getElem hn)⟩
theorem small_log {n : Int} (h0 : 0 ≤ n) (h1 : n < 10 ^ 12) : n.natAbs.log2 < 1920 := log2_lt_of (by decide) (Nat.lt_of_lt_of_le (show n.natAbs < 2 ^ 40 by omega) (Nat.pow_le_pow_right (by decide) (by decide)))
end
end K12

set_option Elab.async false
set_option linter.all false
set_option maxRecDepth 100000
set_option maxHeartbeats 4000000
namespace K12
open PySem L2 L2R
section
variable {P : Program} {w : World} {K : PySem.W.Frag} {mg : Str → Option Value} {base : Heap}
theorem ok_law {a : Adr} (T : Txt K mg a) : FnOk P w K mg base CX0 8 a.f_law a.d_law ["script"] (sp_law K) := by
  refine T.law.fn.ok sc_law (fun vs H Q E h => ?_) (fun cdv A outer s H vs Q E hr h => ?_)
  · obtain ⟨l, ns, rfl, _⟩ := h
    rfl
  · obtain ⟨l, ns, rfl, hS, hl, k⟩ := h
    have hu := hr.units
    let R : Addr → St → Hp → Prop := fun C σ' H' => C = a.c_BadText ∧ ∃ x1 x2 x3 x4 x5 x6 kk, σ' = [some (.ref l), x1, x2, x3, x4, x5, x6, some .non, some .non, some (.ref kk), none]
    refine ⟨_, (pss_cons (ps_comp (j := 1) (N := ["k", "script"]) (imp := [none, some 0]) rfl sc_law.nd rfl rfl ⟨rfl, rfl, rfl, ⟨rfl, trivial⟩, ⟨⟨rfl, rfl, rfl⟩, trivial⟩⟩ (pi_range1 rfl T.no_range (pa_cons (pe_op op_add pe_int (pe_op op_mod (pe_call (ok_law_cell_at T) (hr.mono (by decide)) rfl T.law_cell_at.gl T.law_cell_at.fn.kp T.law_cell_at.bd .nil pass0 (pa_cons (pv 0) (pa_cons pe_int pa_nil))) pe_int)) pa_nil)) (fun _ _ _ _ => pg_name (i := 0) (show (["k", "script"] : List Str).Nodup from by decide +kernel) rfl (Or.inl rfl)) (fun _ _ _ _ => (pe_call (ok_law_side T) (hr.mono (by decide)) rfl T.law_side.gl T.law_side.fn.kp T.law_side.bd .nil pass0 (pa_cons (pe_call (ok_law_cell_at T) (hr.mono (by decide)) rfl T.law_cell_at.gl T.law_cell_at.fn.kp T.law_cell_at.bd .nil pass0 (pa_cons (pv 1) (pa_cons (pe_op op_add pe_int (pv 0)) pa_nil))) pa_nil))))
        (pss_cons (ps_set (i := 2) sc_law.nd rfl (Or.inl rfl) (pe_op op_mod (pe_call (ok_law_cell_at T) (hr.mono (by decide)) rfl T.law_cell_at.gl T.law_cell_at.fn.kp T.law_cell_at.bd .nil pass0 (pa_cons (pv 0) (pa_cons pe_int pa_nil))) pe_int))
        (pss_cons (ps_set (i := 3) sc_law.nd rfl (Or.inl rfl) (pe_call (ok_law_cell_at T) (hr.mono (by decide)) rfl T.law_cell_at.gl T.law_cell_at.fn.kp T.law_cell_at.bd .nil pass0 (pa_cons (pv 0) (pa_cons pe_int pa_nil))))
        (pss_cons (ps_set (i := 4) sc_law.nd rfl (Or.inl rfl) (pe_bm PySem.F.plainAttrs_str PySem.F.slot_str_join PySem.F.type_str_join mt_join pe_str (pa_cons (pe_call (ok_law_turned T) (hr.mono (by decide)) rfl T.law_turned.gl T.law_turned.fn.kp T.law_turned.bd .nil pass0 (pa_cons (pe_comp (N := ["part"]) (imp := [none]) rfl ⟨rfl, rfl, rfl, trivial, trivial⟩ (pi_list (pv 1)) (fun _ _ _ _ => pg_name (i := 0) (nd1 _) rfl (Or.inl rfl)) (fun _ _ _ _ => (pe_op op_add_str (pe_op op_add_str (pe_callTy call_str_int (by rfl) T.no_str bt_str (pa_cons (pe_ix ix_tupC (pv 0) pe_int (fun _ _ => rfl)) pa_nil)) pe_str) (pe_callTy call_str_int (by rfl) T.no_str bt_str (pa_cons (pe_ix ix_tupC (pv 0) pe_int (fun _ _ => rfl)) pa_nil))))) (pa_cons (pv 2) (pa_cons (pv 3) pa_nil)))) pa_nil)))
        (pss_cons (ps_set (i := 5) sc_law.nd rfl (Or.inl rfl) (pe_op op_mod (pv 3) (pe_op op_add (pe_callB call_len_str (by rfl) T.no_len bt_len (pa_cons (pv 4) pa_nil)) pe_int)))
        (pss_cons (ps_set (i := 6) sc_law.nd rfl (Or.inl rfl) (pe_ix ix_str pe_str (pe_op op_mod (pe_op op_fdiv (pv 3) pe_int) pe_int) (fun _ _ => rfl)))
        (pss_consG (ps_if (pt_cmpR op_eq (pv 2) pe_int (nomark _))
        (pss_one (ps_set (i := 4) sc_law.nd rfl (Or.inl rfl) (pe_op op_add_str (pe_op op_add_str (pe_slice sl_str (pv 4) po_none (po_some (pv 5))) (pv 6)) (pe_slice sl_str (pv 4) (po_some (pv 5)) po_none))))
        pss_nil)
        (pss_consG (ps_if (pt_cmpR op_eq (pv 2) pe_int (nomark _))
        (pss_one (ps_set (i := 4) sc_law.nd rfl (Or.inl rfl) (pe_op op_add_str (pe_op op_add_str (pe_slice sl_str (pv 4) po_none (po_some (pv 5))) (pv 6)) (pe_slice sl_str (pv 4) (po_some (pe_op op_add (pv 5) pe_int)) po_none))))
        pss_nil)
        (pss_consG (ps_if (pt_cmpR op_eq (pv 2) pe_int (nomark _))
        (pss_one (ps_set (i := 4) sc_law.nd rfl (Or.inl rfl) (pe_op op_add_str (pe_slice sl_str (pv 4) po_none (po_some (pv 5))) (pe_slice sl_str (pv 4) (po_some (pe_op op_add (pv 5) pe_int)) po_none))))
        pss_nil)
        (pss_cons (ps_set (i := 7) sc_law.nd rfl (Or.inl rfl) (pe_call (ok_law_due T) (hr.mono (by decide)) rfl T.law_due.gl T.law_due.fn.kp T.law_due.bd .nil pass0 (pa_cons (pv 4) pa_nil)))
        (pss_cons (ps_set (i := 8) sc_law.nd rfl (Or.inl rfl) pe_non)
        (pss_cons (ps_set (i := 9) sc_law.nd rfl (Or.inl rfl) (pe_lst pa_nil))
        (pss_cons (ps_try (j := 10) (R := R) rfl rfl rfl rfl sc_law.nd rfl rfl rfl T.g_EchoError (fun _ => (pss_one (ps_set (i := 8) sc_law.nd rfl (Or.inl rfl) (pe_callX (ok_read T) (hr.mono (by decide)) rfl T.read.gl T.read.fn.kp T.read.bd passT (pa_cons (pv 4) pa_nil)))))
        (fun A' hA1 hA2 => (pss_one (ps_set (i := 9) sc_law.nd rfl (Or.inl rfl) (pe_callH (ok_law_kind T) (roomH (hr.mono (by decide)) hA1 hA2) rfl T.law_kind.gl T.law_kind.fn.kp T.law_kind.bd (pa_cons (pv 10) pa_nil))))))
        (pss_cons (ps_if (pt_cmpR op_isN (pv 7) pe_non (nomark _))
        (pss_one (ps_ret (pe_and (pe_cmpR op_isN (pv 8) pe_non (nomark _)) (pe_one (pe_cmpR (op_eqD hu) (pv 9) (pe_call (ok_law_one T) (hr.mono (by decide)) rfl T.law_one.gl T.law_one.fn.kp T.law_one.bd .nil pass0 (pa_cons pe_int pa_nil)) (nomark _))))))
        pss_nil)
        (pss_one (ps_ret (pe_and (pe_cmpR (op_eqD hu) (pv 9) (pe_lst pa_nil) (nomark _)) (pe_one (pe_call (ok_law_parts T) (hr.mono (by decide)) rfl T.law_parts.gl T.law_parts.fn.kp T.law_parts.bd .nil pass0 (pa_cons (pe_meth0 (pv 8) T.cl_of_Field T.m_of_Field_walls (ok_Field_walls T) (hr.mono (by decide)) T.Field_walls.bd .nil pass0) (pa_cons (pv 7) pa_nil))))))))))))))))))))), ?_⟩
    -- parts
    have c1 := Int.emod_nonneg (cellI ns 0) (show (9 : Int) ≠ 0 by decide)
    have c2 := Int.emod_lt_of_pos (cellI ns 0) (show (0 : Int) < 9 by decide)
    refine ⟨_, rfl, l, ns, 0, rfl, hS, by decide, _, _, rfl, rfl, (by first | (show (0 : Int) < _; first | decide | omega) | exact ⟨by decide, by decide⟩ | exact .inl ⟨by decide, by decide⟩ | exact .inr ⟨by decide, by decide⟩ | rfl | (show _ ≤ sizeLine; decide)), _, _, rfl, rfl, _, rfl, by omega, by omega, ?_⟩
    refine comp_rangeR (rest := [some (.ref l)]) (fun H i y => FrV K H y (sideF (cellI ns (4 + (0 + (i : Int)))))) (frG _) rfl (Nat.le_trans (show _ ≤ 1000 by omega) (by decide)) ?_ ?_
    · intro i H' Q' s' hi q'
      exact ⟨_, rfl, _, rfl, _, _, rfl, rfl, l, ns, _, rfl, s'.seq hS, by omega, _, rfl, fun p H3 s3 n3 e3 => q' _ _ s3 (FrV.of e3)⟩
    intro pl H1 ys1 s1 n1 e1 el1 hy1
    have F1 := FL.range e1 el1 hy1
    have lf : ((List.range (1 + cellI ns 0 % 9).toNat).map fun i : Nat => sideF (cellI ns (4 + (0 + (i : Int))))).length = (1 + cellI ns 0 % 9).toNat := by simp
    have hw : ∀ f ∈ ((List.range (1 + cellI ns 0 % 9).toNat).map fun i : Nat => sideF (cellI ns (4 + (0 + (i : Int))))), Wr f := fun f hf => by
      obtain ⟨i, _, rfl⟩ := List.mem_map.mp hf
      exact wr_side _
    generalize ((List.range (1 + cellI ns 0 % 9).toNat).map fun i : Nat => sideF (cellI ns (4 + (0 + (i : Int))))) = fs at F1 lf hw
    clear e1 el1 hy1
    -- mode, cell
    refine ⟨_, rfl, l, ns, 1, rfl, s1.seq hS, by decide, _, _, rfl, rfl, (by first | (show (0 : Int) < _; first | decide | omega) | exact ⟨by decide, by decide⟩ | exact .inl ⟨by decide, by decide⟩ | exact .inr ⟨by decide, by decide⟩ | rfl | (show _ ≤ sizeLine; decide)), ?_⟩
    refine ⟨_, rfl, l, ns, 2, rfl, s1.seq hS, by decide, ?_⟩
    generalize cellI ns 2 = cell
    -- text
    obtain ⟨rs, es, pr⟩ := id F1
    have lr : rs.length = fs.length := Paired.length pr
    refine ⟨rfl, _, rfl, pl, rfl, ⟨_, SqL.of es⟩, ?_⟩
    refine comp_listR (rest := []) (fun _ i y => ∀ f, fs[i]? = some f → y = .str (textF f)) Grows.pure rfl (SqL.of es) (Nat.le_trans (show _ ≤ 1000 by omega) (by decide)) ?_ ?_
    · intro i v H' Q' s' hv q'
      obtain ⟨f, ef⟩ : ∃ f, fs[i]? = some f := ⟨_, List.getElem?_eq_getElem (by have := (List.getElem?_eq_some_iff.mp hv).1; omega)⟩
      obtain ⟨v', ev, a1, rfl, h1'⟩ := Paired.get pr ef
      rw [hv] at ev
      cases ev
      have h1' := h1'.same s'
      have w := hw f (List.mem_of_getElem? ef)
      have w1 := w.top
      have w2 := w.le
      have w3 := w.pos
      have w4 := w.lim
      have g1 := num_len w1 (by omega)
      have g2 := num_len (Int.le_of_lt w3) w4
      have g3 : ("/" : Str).length = 1 := by decide
      refine ⟨_, rfl, a1, _, _, _, rfl, rfl, h1', at0, f.1, rfl, small_log w1 (by omega), _, _, rfl, rfl, Nat.le_trans (show _ ≤ 1000 by omega) (by decide), ?_⟩
      refine ⟨_, rfl, a1, _, _, _, rfl, rfl, h1', at1, f.2, rfl, small_log (by omega) w4, _, _, rfl, rfl, Nat.le_trans (show _ ≤ 1000 by rw [app_len]; omega) (by decide), q' _ _ (Same.refl _) fun g eg => ?_⟩
      rw [ef] at eg
      cases eg
      rfl
    intro l2 H2 ys s2 n2 e2 el hy
    have ey : ys = (fs.map textF).map V.str := by
      rw [List.map_map]
      exact eq_map_of (by omega) hy
    rw [ey] at e2
    refine ⟨_, rfl, _, rfl, l2, fs.map textF, _, _, rfl, e2, by rw [List.length_map]; omega, by rw [List.length_map]; omega, fun t ht => ?_, fun l3 H3 ts s3 e3 lt hts => ?_⟩
    · obtain ⟨f, hf, rfl⟩ := List.mem_map.mp ht
      exact text_len (hw f hf)
    have b1 : (" " : Str).length = 1 := by decide
    have su := sum_le hts
    have su : (ts.map (·.length)).sum ≤ 475 := Nat.le_trans su (by have := Nat.mul_le_mul_left 25 lt; omega)
    refine ⟨_, l3, ts, rfl, rfl, SqL.of e3, by rw [b1]; omega, ?_⟩
    have ej : Txt.join " " ts = (" " : Str).join ts := StrLaws.glued_eq_join _ _
    have hz : (Txt.join " " ts).length ≤ 494 := by
      rw [ej]
      exact Nat.le_trans (join_le (by decide) hts) (by have := Nat.mul_le_mul_left (25 + 1) lt; omega)
    generalize Txt.join " " ts = z at hz
    have hs : z.length ≤ sizeLine := Nat.le_trans hz (by decide)
    -- at, sign
    refine ⟨_, rfl, _, rfl, z, rfl, hs, _, _, rfl, rfl, _, _, rfl, rfl, (by show (0 : Int) < _; omega), ?_⟩
    have g0 := Int.emod_nonneg (cell / 1009) (show (16 : Int) ≠ 0 by decide)
    have g1 := Int.emod_lt_of_pos (cell / 1009) (show (0 : Int) < 16 by decide)
    obtain ⟨c, ec⟩ := sign_at g0 g1
    refine ⟨_, rfl, _, _, rfl, rfl, (by first | (show (0 : Int) < _; first | decide | omega) | exact ⟨by decide, by decide⟩ | exact .inl ⟨by decide, by decide⟩ | exact .inr ⟨by decide, by decide⟩ | rfl | (show _ ≤ sizeLine; decide)), _, _, rfl, rfl, (by first | (show (0 : Int) < _; first | decide | omega) | exact ⟨by decide, by decide⟩ | exact .inl ⟨by decide, by decide⟩ | exact .inr ⟨by decide, by decide⟩ | rfl | (show _ ≤ sizeLine; decide)), _, _, c, rfl, rfl, by decide +kernel, ec, ?_⟩
    have lc : (Str.mk #[c]).length = 1 := rfl
    -- mode 4
    refine ⟨fun σ' H' => ∃ y x5, σ' = [some (.ref l), some (.ref pl), some (.int (cellI ns 1 % 8)), some (.int cell), some (.str y), some (.int x5), some (.str ⟨#[c]⟩), none, none, none, none] ∧ Same H3 H' ∧ y.length ≤ 990 ∧ (cellI ns 1 % 8 ≠ 4 → y.length ≤ 494), ?_, ?_⟩
    rotate_left
    · refine ⟨_, rfl, rfl, _, rfl, ?_⟩
      refine ite2 (fun h1 => ?_) (fun h1 => ?_)
      rotate_left
      · exact ⟨z, _, rfl, Same.refl _, by omega, fun _ => hz⟩
      have h1 := V.int.inj (of_decide_eq_true h1)
      refine ⟨_, rfl, _, rfl, _, rfl, z, rfl, hs, fun y1 hy1 => ?_⟩
      refine ⟨_, rfl, _, _, rfl, rfl, Nat.le_trans (show _ ≤ 1000 by rw [lc]; omega) (by decide), ?_⟩
      refine ⟨_, rfl, _, rfl, _, rfl, z, rfl, hs, fun y2 hy2 => ?_⟩
      refine ⟨_, _, rfl, rfl, Nat.le_trans (show _ ≤ 1000 by rw [app_len, lc]; omega) (by decide), ?_⟩
      exact ⟨_, _, rfl, Same.refl _, by rw [app_len, app_len, lc]; omega, fun q => absurd h1 q⟩
    rintro σ' H4 ⟨y, x5, rfl, s4, hy, hm⟩
    clear hz hs
    have hs : y.length ≤ sizeLine := Nat.le_trans hy (by decide)
    -- mode 5
    refine ⟨fun σ' H' => ∃ y x5, σ' = [some (.ref l), some (.ref pl), some (.int (cellI ns 1 % 8)), some (.int cell), some (.str y), some (.int x5), some (.str ⟨#[c]⟩), none, none, none, none] ∧ Same H3 H' ∧ y.length ≤ 990 ∧ (cellI ns 1 % 8 ≠ 4 → cellI ns 1 % 8 ≠ 5 → y.length ≤ 494), ?_, ?_⟩
    rotate_left
    · refine ⟨_, rfl, rfl, _, rfl, ?_⟩
      refine ite2 (fun h1 => ?_) (fun h1 => ?_)
      rotate_left
      · exact ⟨y, _, rfl, s4, hy, fun q _ => hm q⟩
      have h1 := V.int.inj (of_decide_eq_true h1)
      have hm := hm (by omega)
      refine ⟨_, rfl, _, rfl, _, rfl, y, rfl, hs, fun y1 hy1 => ?_⟩
      refine ⟨_, rfl, _, _, rfl, rfl, Nat.le_trans (show _ ≤ 1000 by rw [lc]; omega) (by decide), ?_⟩
      refine ⟨_, rfl, _, rfl, _, _, rfl, rfl, _, rfl, y, rfl, hs, fun y2 hy2 => ?_⟩
      refine ⟨_, _, rfl, rfl, Nat.le_trans (show _ ≤ 1000 by rw [app_len, lc]; omega) (by decide), ?_⟩
      exact ⟨_, _, rfl, s4, by rw [app_len, app_len, lc]; omega, fun _ q => absurd h1 q⟩
    clear hy hm hs s4
    rintro σ' H4 ⟨y, x5, rfl, s4, hy, hm⟩
    have hs : y.length ≤ sizeLine := Nat.le_trans hy (by decide)
    -- mode 6
    refine ⟨fun σ' H' => ∃ y x5, σ' = [some (.ref l), some (.ref pl), some (.int (cellI ns 1 % 8)), some (.int cell), some (.str y), some (.int x5), some (.str ⟨#[c]⟩), none, none, none, none] ∧ y.length ≤ 1000, ?_, ?_⟩
    rotate_left
    · refine ⟨_, rfl, rfl, _, rfl, ?_⟩
      refine ite2 (fun h1 => ?_) (fun h1 => ?_)
      rotate_left
      · exact ⟨y, _, rfl, by omega⟩
      have h1 := V.int.inj (of_decide_eq_true h1)
      have hm := hm (by omega) (by omega)
      refine ⟨_, rfl, _, rfl, _, rfl, y, rfl, hs, fun y1 hy1 => ?_⟩
      refine ⟨_, rfl, _, rfl, _, _, rfl, rfl, _, rfl, y, rfl, hs, fun y2 hy2 => ?_⟩
      refine ⟨_, _, rfl, rfl, Nat.le_trans (show _ ≤ 1000 by omega) (by decide), ?_⟩
      exact ⟨_, _, rfl, by rw [app_len]; omega⟩
    clear hy hm hs s4
    rintro σ' H4 ⟨y, x5, rfl, hy⟩
    -- due
    refine ⟨_, rfl, y, rfl, hy, ?_⟩
    cases er : readZ y with
    | none =>
      refine fun H5 s5 => ?_
      refine ⟨(by show 0 ≤ sizeLine; decide), ?_⟩
      intro kl n6
      generalize hq : upd _ kl _ = H6
      have s6 := Same.of_upd hq n6
      have e6 := get_of_upd hq
      clear hq
      refine ⟨?_, ?_⟩
      · exact ⟨_, rfl, y, rfl, hy, fun _ H7 s7 => ⟨_, rfl, rfl, _, _, _, _, _, _, kl, rfl⟩, fun fs' e => by rw [er] at e; cases e⟩
      · rintro C σ' H7 x ⟨rfl, x1, x2, x3, x4, x5, x6, kk, rfl⟩ hx
        refine ⟨T.exm_BadText_EchoError, ?_⟩
        refine ⟨_, rfl, x, _, _, _, _, _, _, _, rfl, upd_same, T.ec_BadText, T.kit_BadText_NoField, T.kit_BadText_NoMoment, T.kit_BadText_NoRecord, T.kit_BadText_TooMany, T.kit_BadText_BadText, T.kit_BadText_ValueError, fun l8 H8 s8 n8 e8 => ?_⟩
        refine ⟨_, rfl, rfl, _, rfl, ?_⟩
        refine iteT ?_
        refine ⟨_, rfl, rfl, _, rfl, ?_⟩
        refine iteT ?_
        refine ⟨_, rfl, 4, rfl, fun l9 H9 s9 n9 e9 => ?_⟩
        rw [one4] at e9
        exact ⟨_, _, .lst (.inl (s9 _ _ e8)) (bools_dv _), .lst (.inl e9) (bools_dv _), rfl, rfl, by decide, k _⟩
    | some gs =>
      refine fun du H5 s5 nd F5 => ?_
      refine ⟨(by show 0 ≤ sizeLine; decide), ?_⟩
      intro kl n6
      generalize hq : upd _ kl _ = H6
      have s6 := Same.of_upd hq n6
      have e6 := get_of_upd hq
      clear hq
      refine ⟨?_, ?_⟩
      · refine ⟨_, rfl, y, rfl, hy, fun b => (by rw [er] at b; cases b), fun fs' e => ?_⟩
        rw [er] at e
        cases e
        refine fun x H7 s7 n7 FX => ?_
        refine ⟨_, rfl, rfl, _, rfl, ?_⟩
        refine iteF ?_
        refine ⟨_, rfl, (by show 0 ≤ sizeLine; decide), ?_⟩
        intro t8 n8
        generalize hq : upd _ t8 _ = H8
        have s8 := Same.of_upd hq n8
        have e8 := get_of_upd hq
        clear hq
        refine ⟨_, _, .lst (.inl (s8 _ _ (s7 _ _ e6))) .nil, .lst (.inl e8) .nil, rfl, rfl, by decide, _, rfl, ?_⟩
        refine iteD (SeqAt.eqv_refl (.list []) rfl) ?_
        obtain ⟨dx, t, hx, _⟩ := id (FX.same s8)
        refine ⟨_, rfl, x, dx, _, rfl, hx, rfl, x, gs, rfl, FX.same s8, fun l9 H9 s9 n9 F9 => ?_⟩
        have := read_len er
        exact ⟨_, rfl, l9, du, gs, rfl, F9, F5.same (s6.trans (s7.trans (s8.trans s9))), by omega, k _⟩
      · rintro C σ' H7 x ⟨rfl, x1, x2, x3, x4, x5, x6, kk, rfl⟩ hx
        refine ⟨T.exm_BadText_EchoError, ?_⟩
        refine ⟨_, rfl, x, _, _, _, _, _, _, _, rfl, upd_same, T.ec_BadText, T.kit_BadText_NoField, T.kit_BadText_NoMoment, T.kit_BadText_NoRecord, T.kit_BadText_TooMany, T.kit_BadText_BadText, T.kit_BadText_ValueError, fun l8 H8 s8 n8 e8 => ?_⟩
        refine ⟨_, rfl, rfl, _, rfl, ?_⟩
        refine iteT ?_
        refine ⟨_, rfl, rfl, _, rfl, ?_⟩
        refine iteT ?_
        refine ⟨_, rfl, 4, rfl, fun l9 H9 s9 n9 e9 => ?_⟩
        rw [one4] at e9
        exact ⟨_, _, .lst (.inl (s9 _ _ e8)) (bools_dv _), .lst (.inl e9) (bools_dv _), rfl, rfl, by decide, k _⟩
end
end K12

set_option Elab.async false
set_option linter.all false
set_option maxRecDepth 100000
set_option maxHeartbeats 4000000
namespace K12
open PySem L2 L2R
section
variable {P : Program} {w : World} {K : PySem.W.Frag} {mg : Str → Option Value} {base : Heap}
end
theorem all_mk {l : PySem.W.OpenLaw} {w : World} {K : PySem.W.Frag} {h : Heap} {mg : Str → Option Value} {fa f0 f1 f2 f3 f4 f5 f6 f7 f8 f9 f10 f11 f12 f13 f14 f15 f16 f17 f18 c_Field c_EchoError c_NoField c_NoMoment c_NoRecord c_TooMany c_BadText : Addr} (X : K.In h) (G : h.Ns mainGlobals mg) (hfa : mg "law" = some (.ref fa))
    {od0 an0 od1 an1 od2 an2 od3 an3 od4 an4 od5 an5 od6 an6 od7 an7 od8 an8 od9 an9 od10 an10 od11 an11 od12 an12 od13 an13 od14 an14 od15 an15 od16 an16 od17 an17 od18 an18 : Option Addr} {sl0 sl1 sl2 sl3 sl4 sl5 sl6 sl7 sl8 sl9 sl10 sl11 sl12 sl13 sl14 sl15 sl16 sl17 sl18 : Array (Option Value)} {oc0 kV0 dc0 pm0 cd0 ct0 oc1 kV1 dc1 pm1 cd1 ct1 oc2 kV2 dc2 pm2 cd2 ct2 oc3 kV3 dc3 pm3 cd3 ct3 oc4 kV4 dc4 pm4 cd4 ct4 oc5 kV5 dc5 pm5 cd5 ct5 oc6 kV6 dc6 pm6 cd6 ct6 oc7 kV7 dc7 pm7 cd7 ct7 oc8 kV8 dc8 pm8 cd8 ct8 oc9 kV9 dc9 pm9 cd9 ct9 oc10 kV10 dc10 pm10 cd10 ct10 oc11 kV11 dc11 pm11 cd11 ct11 oc12 kV12 dc12 pm12 cd12 ct12 oc13 kV13 dc13 pm13 cd13 ct13 oc14 kV14 dc14 pm14 cd14 ct14 oc15 kV15 dc15 pm15 cd15 ct15 oc16 kV16 dc16 pm16 cd16 ct16 oc17 kV17 dc17 pm17 cd17 ct17 oc18 kV18 dc18 pm18 cd18 ct18 : Value} {tk_MOST_WALLS : Tok} {tk_MOST_FIGURES : Tok} {tk_FIGURES : Tok}
    (a0 : PySem.W.nsIn K mainGlobals "is_part" = some (some (.ref f0))) (l0 : K.lookup f0 = some ⟨oc0, od0, .func (PySem.W.fnOf "is_part" "is_part" (defArgs s_is_part) (defBody s_is_part) (defScope s_is_part) .none kV0 dc0 pm0 an0 cd0 ct0), sl0⟩) (c0 : PySem.W.codeIn K cd0 "is_part" = true) (k0 : PySem.W.keepIn K (.ref f0) = true)
    (l1 : K.lookup f1 = some ⟨oc1, od1, .func (PySem.W.fnOf "__init__" "Field.__init__" (defArgs s_Field___init__) (defBody s_Field___init__) (defScope s_Field___init__) .none kV1 dc1 pm1 an1 cd1 ct1), sl1⟩) (c1 : PySem.W.codeIn K cd1 "Field.__init__" = true) (k1 : PySem.W.keepIn K (.ref f1) = true)
    (l2 : K.lookup f2 = some ⟨oc2, od2, .func (PySem.W.fnOf "walls" "Field.walls" (defArgs s_Field_walls) (defBody s_Field_walls) (defScope s_Field_walls) .none kV2 dc2 pm2 an2 cd2 ct2), sl2⟩) (c2 : PySem.W.codeIn K cd2 "Field.walls" = true) (k2 : PySem.W.keepIn K (.ref f2) = true)
    (a3 : PySem.W.nsIn K mainGlobals "common_divisor" = some (some (.ref f3))) (l3 : K.lookup f3 = some ⟨oc3, od3, .func (PySem.W.fnOf "common_divisor" "common_divisor" (defArgs s_common_divisor) (defBody s_common_divisor) (defScope s_common_divisor) .none kV3 dc3 pm3 an3 cd3 ct3), sl3⟩) (c3 : PySem.W.codeIn K cd3 "common_divisor" = true) (k3 : PySem.W.keepIn K (.ref f3) = true)
    (a4 : PySem.W.nsIn K mainGlobals "lowest" = some (some (.ref f4))) (l4 : K.lookup f4 = some ⟨oc4, od4, .func (PySem.W.fnOf "lowest" "lowest" (defArgs s_lowest) (defBody s_lowest) (defScope s_lowest) .none kV4 dc4 pm4 an4 cd4 ct4), sl4⟩) (c4 : PySem.W.codeIn K cd4 "lowest" = true) (k4 : PySem.W.keepIn K (.ref f4) = true)
    (a5 : PySem.W.nsIn K mainGlobals "read" = some (some (.ref f5))) (l5 : K.lookup f5 = some ⟨oc5, od5, .func (PySem.W.fnOf "read" "read" (defArgs s_read) (defBody s_read) (defScope s_read) .none kV5 dc5 pm5 an5 cd5 ct5), sl5⟩) (c5 : PySem.W.codeIn K cd5 "read" = true) (k5 : PySem.W.keepIn K (.ref f5) = true)
    (a6 : PySem.W.nsIn K mainGlobals "read_part" = some (some (.ref f6))) (l6 : K.lookup f6 = some ⟨oc6, od6, .func (PySem.W.fnOf "read_part" "read_part" (defArgs s_read_part) (defBody s_read_part) (defScope s_read_part) .none kV6 dc6 pm6 an6 cd6 ct6), sl6⟩) (c6 : PySem.W.codeIn K cd6 "read_part" = true) (k6 : PySem.W.keepIn K (.ref f6) = true)
    (a7 : PySem.W.nsIn K mainGlobals "read_number" = some (some (.ref f7))) (l7 : K.lookup f7 = some ⟨oc7, od7, .func (PySem.W.fnOf "read_number" "read_number" (defArgs s_read_number) (defBody s_read_number) (defScope s_read_number) .none kV7 dc7 pm7 an7 cd7 ct7), sl7⟩) (c7 : PySem.W.codeIn K cd7 "read_number" = true) (k7 : PySem.W.keepIn K (.ref f7) = true)
    (a8 : PySem.W.nsIn K mainGlobals "_law_cell_at" = some (some (.ref f8))) (l8 : K.lookup f8 = some ⟨oc8, od8, .func (PySem.W.fnOf "_law_cell_at" "_law_cell_at" (defArgs s_law_cell_at) (defBody s_law_cell_at) (defScope s_law_cell_at) .none kV8 dc8 pm8 an8 cd8 ct8), sl8⟩) (c8 : PySem.W.codeIn K cd8 "_law_cell_at" = true) (k8 : PySem.W.keepIn K (.ref f8) = true)
    (a9 : PySem.W.nsIn K mainGlobals "_law_kind" = some (some (.ref f9))) (l9 : K.lookup f9 = some ⟨oc9, od9, .func (PySem.W.fnOf "_law_kind" "_law_kind" (defArgs s_law_kind) (defBody s_law_kind) (defScope s_law_kind) .none kV9 dc9 pm9 an9 cd9 ct9), sl9⟩) (c9 : PySem.W.codeIn K cd9 "_law_kind" = true) (k9 : PySem.W.keepIn K (.ref f9) = true)
    (a10 : PySem.W.nsIn K mainGlobals "_law_one" = some (some (.ref f10))) (l10 : K.lookup f10 = some ⟨oc10, od10, .func (PySem.W.fnOf "_law_one" "_law_one" (defArgs s_law_one) (defBody s_law_one) (defScope s_law_one) .none kV10 dc10 pm10 an10 cd10 ct10), sl10⟩) (c10 : PySem.W.codeIn K cd10 "_law_one" = true) (k10 : PySem.W.keepIn K (.ref f10) = true)
    (a11 : PySem.W.nsIn K mainGlobals "_law_whole" = some (some (.ref f11))) (l11 : K.lookup f11 = some ⟨oc11, od11, .func (PySem.W.fnOf "_law_whole" "_law_whole" (defArgs s_law_whole) (defBody s_law_whole) (defScope s_law_whole) .none kV11 dc11 pm11 an11 cd11 ct11), sl11⟩) (c11 : PySem.W.codeIn K cd11 "_law_whole" = true) (k11 : PySem.W.keepIn K (.ref f11) = true)
    (a12 : PySem.W.nsIn K mainGlobals "_law_low" = some (some (.ref f12))) (l12 : K.lookup f12 = some ⟨oc12, od12, .func (PySem.W.fnOf "_law_low" "_law_low" (defArgs s_law_low) (defBody s_law_low) (defScope s_law_low) .none kV12 dc12 pm12 an12 cd12 ct12), sl12⟩) (c12 : PySem.W.codeIn K cd12 "_law_low" = true) (k12 : PySem.W.keepIn K (.ref f12) = true)
    (a13 : PySem.W.nsIn K mainGlobals "_law_parts" = some (some (.ref f13))) (l13 : K.lookup f13 = some ⟨oc13, od13, .func (PySem.W.fnOf "_law_parts" "_law_parts" (defArgs s_law_parts) (defBody s_law_parts) (defScope s_law_parts) .none kV13 dc13 pm13 an13 cd13 ct13), sl13⟩) (c13 : PySem.W.codeIn K cd13 "_law_parts" = true) (k13 : PySem.W.keepIn K (.ref f13) = true)
    (a14 : PySem.W.nsIn K mainGlobals "_law_side" = some (some (.ref f14))) (l14 : K.lookup f14 = some ⟨oc14, od14, .func (PySem.W.fnOf "_law_side" "_law_side" (defArgs s_law_side) (defBody s_law_side) (defScope s_law_side) .none kV14 dc14 pm14 an14 cd14 ct14), sl14⟩) (c14 : PySem.W.codeIn K cd14 "_law_side" = true) (k14 : PySem.W.keepIn K (.ref f14) = true)
    (a15 : PySem.W.nsIn K mainGlobals "_law_number" = some (some (.ref f15))) (l15 : K.lookup f15 = some ⟨oc15, od15, .func (PySem.W.fnOf "_law_number" "_law_number" (defArgs s_law_number) (defBody s_law_number) (defScope s_law_number) .none kV15 dc15 pm15 an15 cd15 ct15), sl15⟩) (c15 : PySem.W.codeIn K cd15 "_law_number" = true) (k15 : PySem.W.keepIn K (.ref f15) = true)
    (a16 : PySem.W.nsIn K mainGlobals "_law_due" = some (some (.ref f16))) (l16 : K.lookup f16 = some ⟨oc16, od16, .func (PySem.W.fnOf "_law_due" "_law_due" (defArgs s_law_due) (defBody s_law_due) (defScope s_law_due) .none kV16 dc16 pm16 an16 cd16 ct16), sl16⟩) (c16 : PySem.W.codeIn K cd16 "_law_due" = true) (k16 : PySem.W.keepIn K (.ref f16) = true)
    (a17 : PySem.W.nsIn K mainGlobals "_law_turned" = some (some (.ref f17))) (l17 : K.lookup f17 = some ⟨oc17, od17, .func (PySem.W.fnOf "_law_turned" "_law_turned" (defArgs s_law_turned) (defBody s_law_turned) (defScope s_law_turned) .none kV17 dc17 pm17 an17 cd17 ct17), sl17⟩) (c17 : PySem.W.codeIn K cd17 "_law_turned" = true) (k17 : PySem.W.keepIn K (.ref f17) = true)
    (a18 : PySem.W.nsIn K mainGlobals "law" = some (some (.ref f18))) (l18 : K.lookup f18 = some ⟨oc18, od18, .func (PySem.W.fnOf "law" "law" (defArgs s_law) (defBody s_law) (defScope s_law) .none kV18 dc18 pm18 an18 cd18 ct18), sl18⟩) (c18 : PySem.W.codeIn K cd18 "law" = true) (k18 : PySem.W.keepIn K (.ref f18) = true)
    (z_len : PySem.W.nsIn K mainGlobals "len" = some none)
    (z_abs : PySem.W.nsIn K mainGlobals "abs" = some none)
    (z_isinstance : PySem.W.nsIn K mainGlobals "isinstance" = some none)
    (z_all : PySem.W.nsIn K mainGlobals "all" = some none)
    (z_list : PySem.W.nsIn K mainGlobals "list" = some none)
    (z_tuple : PySem.W.nsIn K mainGlobals "tuple" = some none)
    (z_int : PySem.W.nsIn K mainGlobals "int" = some none)
    (z_bool : PySem.W.nsIn K mainGlobals "bool" = some none)
    (z_range : PySem.W.nsIn K mainGlobals "range" = some none)
    (z_str : PySem.W.nsIn K mainGlobals "str" = some none)
    (z_ValueError : PySem.W.nsIn K mainGlobals "ValueError" = some none)
    (x_g_Field : PySem.W.nsIn K mainGlobals "Field" = some (some (.ref c_Field)))
    (x_pg_Field : PySem.W.plainGet K c_Field Str.empty = true)
    (x_hd_Field : PySem.W.hasDictIn K c_Field = true)
    (x_po_Field : PySem.W.plainOver K c_Field = true)
    (x_sa_Field : PySem.W.findIn K (.ref c_Field) "__setattr__" = some (some (.builtin "object.__setattr__")))
    (x_na_Field_row : PySem.W.findIn K (.ref c_Field) "row" = some none)
    (x_mk_Field : PySem.W.makesIn K c_Field = true)
    (x_kc_Field : PySem.W.keepIn K (.ref c_Field) = true)
    (x_fi_Field___init__ : PySem.W.findIn K (.ref c_Field) "__init__" = some (some (.ref f1)))
    (x_if_Field___init__ : PySem.W.isFn K (.ref f1) = true)
    (x_ke_Field___init__ : PySem.W.keepIn K (.ref f1) = true)
    (x_fi_Field_walls : PySem.W.findIn K (.ref c_Field) "walls" = some (some (.ref f2)))
    (x_if_Field_walls : PySem.W.isFn K (.ref f2) = true)
    (x_ke_Field_walls : PySem.W.keepIn K (.ref f2) = true)
    (x_g_EchoError : PySem.W.nsIn K mainGlobals "EchoError" = some (some (.ref c_EchoError)))
    (x_ex_EchoError : PySem.W.excIn K c_EchoError VE "ValueError.__new__" = true)
    (x_xg_EchoError : PySem.W.findIn K (.ref c_EchoError) "__getattribute__" = some (some (.builtin "BaseException.__getattribute__")))
    (x_xo_EchoError : PySem.W.findIn K (.ref c_EchoError) "__getattr__" = some none)
    (x_xb_EchoError : PySem.W.mroIn K c_EchoError (.type "BaseException") = some true)
    (x_xh_EchoError : PySem.W.hasDictIn K c_EchoError = true)
    (x_xa_EchoError : PySem.W.findIn K (.ref c_EchoError) "__class__" = some (some (.builtin "object.__class__")))
    (x_xm_EchoError : PySem.W.mroIn K c_EchoError (.type "object") = some true)
    (x_g_NoField : PySem.W.nsIn K mainGlobals "NoField" = some (some (.ref c_NoField)))
    (x_ex_NoField : PySem.W.excIn K c_NoField VE "ValueError.__new__" = true)
    (x_xg_NoField : PySem.W.findIn K (.ref c_NoField) "__getattribute__" = some (some (.builtin "BaseException.__getattribute__")))
    (x_xo_NoField : PySem.W.findIn K (.ref c_NoField) "__getattr__" = some none)
    (x_xb_NoField : PySem.W.mroIn K c_NoField (.type "BaseException") = some true)
    (x_xh_NoField : PySem.W.hasDictIn K c_NoField = true)
    (x_xa_NoField : PySem.W.findIn K (.ref c_NoField) "__class__" = some (some (.builtin "object.__class__")))
    (x_xm_NoField : PySem.W.mroIn K c_NoField (.type "object") = some true)
    (x_g_NoMoment : PySem.W.nsIn K mainGlobals "NoMoment" = some (some (.ref c_NoMoment)))
    (x_ex_NoMoment : PySem.W.excIn K c_NoMoment VE "ValueError.__new__" = true)
    (x_xg_NoMoment : PySem.W.findIn K (.ref c_NoMoment) "__getattribute__" = some (some (.builtin "BaseException.__getattribute__")))
    (x_xo_NoMoment : PySem.W.findIn K (.ref c_NoMoment) "__getattr__" = some none)
    (x_xb_NoMoment : PySem.W.mroIn K c_NoMoment (.type "BaseException") = some true)
    (x_xh_NoMoment : PySem.W.hasDictIn K c_NoMoment = true)
    (x_xa_NoMoment : PySem.W.findIn K (.ref c_NoMoment) "__class__" = some (some (.builtin "object.__class__")))
    (x_xm_NoMoment : PySem.W.mroIn K c_NoMoment (.type "object") = some true)
    (x_g_NoRecord : PySem.W.nsIn K mainGlobals "NoRecord" = some (some (.ref c_NoRecord)))
    (x_ex_NoRecord : PySem.W.excIn K c_NoRecord VE "ValueError.__new__" = true)
    (x_xg_NoRecord : PySem.W.findIn K (.ref c_NoRecord) "__getattribute__" = some (some (.builtin "BaseException.__getattribute__")))
    (x_xo_NoRecord : PySem.W.findIn K (.ref c_NoRecord) "__getattr__" = some none)
    (x_xb_NoRecord : PySem.W.mroIn K c_NoRecord (.type "BaseException") = some true)
    (x_xh_NoRecord : PySem.W.hasDictIn K c_NoRecord = true)
    (x_xa_NoRecord : PySem.W.findIn K (.ref c_NoRecord) "__class__" = some (some (.builtin "object.__class__")))
    (x_xm_NoRecord : PySem.W.mroIn K c_NoRecord (.type "object") = some true)
    (x_g_TooMany : PySem.W.nsIn K mainGlobals "TooMany" = some (some (.ref c_TooMany)))
    (x_ex_TooMany : PySem.W.excIn K c_TooMany VE "ValueError.__new__" = true)
    (x_xg_TooMany : PySem.W.findIn K (.ref c_TooMany) "__getattribute__" = some (some (.builtin "BaseException.__getattribute__")))
    (x_xo_TooMany : PySem.W.findIn K (.ref c_TooMany) "__getattr__" = some none)
    (x_xb_TooMany : PySem.W.mroIn K c_TooMany (.type "BaseException") = some true)
    (x_xh_TooMany : PySem.W.hasDictIn K c_TooMany = true)
    (x_xa_TooMany : PySem.W.findIn K (.ref c_TooMany) "__class__" = some (some (.builtin "object.__class__")))
    (x_xm_TooMany : PySem.W.mroIn K c_TooMany (.type "object") = some true)
    (x_g_BadText : PySem.W.nsIn K mainGlobals "BadText" = some (some (.ref c_BadText)))
    (x_ex_BadText : PySem.W.excIn K c_BadText VE "ValueError.__new__" = true)
    (x_xg_BadText : PySem.W.findIn K (.ref c_BadText) "__getattribute__" = some (some (.builtin "BaseException.__getattribute__")))
    (x_xo_BadText : PySem.W.findIn K (.ref c_BadText) "__getattr__" = some none)
    (x_xb_BadText : PySem.W.mroIn K c_BadText (.type "BaseException") = some true)
    (x_xh_BadText : PySem.W.hasDictIn K c_BadText = true)
    (x_xa_BadText : PySem.W.findIn K (.ref c_BadText) "__class__" = some (some (.builtin "object.__class__")))
    (x_xm_BadText : PySem.W.mroIn K c_BadText (.type "object") = some true)
    (x_xn : PySem.W.specialIn K (.builtin "object.__class__") "__get__" = some (some (.builtin "getset_descriptor.__get__")))
    (x_xt : PySem.W.takesIn K (.builtin "object.__class__") = some true)
    (x_kit_BadText_NoField : PySem.W.kitOne K (.ref c_BadText) (.ref c_NoField) = some false)
    (x_kit_BadText_NoMoment : PySem.W.kitOne K (.ref c_BadText) (.ref c_NoMoment) = some false)
    (x_kit_BadText_NoRecord : PySem.W.kitOne K (.ref c_BadText) (.ref c_NoRecord) = some false)
    (x_kit_BadText_TooMany : PySem.W.kitOne K (.ref c_BadText) (.ref c_TooMany) = some false)
    (x_kit_BadText_BadText : PySem.W.kitOne K (.ref c_BadText) (.ref c_BadText) = some true)
    (x_kit_BadText_ValueError : PySem.W.kitOne K (.ref c_BadText) (.type "ValueError") = some true)
    (x_exm_BadText_EchoError : PySem.W.exmOne K (.ref c_BadText) (.ref c_EchoError) = some true)
    (x_g_MOST_WALLS : PySem.W.nsIn K mainGlobals "MOST_WALLS" = some (some (.int 8 tk_MOST_WALLS)))
    (x_g_MOST_FIGURES : PySem.W.nsIn K mainGlobals "MOST_FIGURES" = some (some (.int 12 tk_MOST_FIGURES)))
    (x_g_FIGURES : PySem.W.nsIn K mainGlobals "FIGURES" = some (some (.str "0123456789" tk_FIGURES)))
    : ∃ fd : FuncData, (∀ (s : Shared) (v : Value), BindsTo s fd ⟨[v], []⟩ [("script", v)]) ∧ ∀ base : Heap, K.In base → base.Ns mainGlobals mg → FnOk l.prog w K mg base CX0 8 fa fd ["script"] (sp_law K) := by
  have e := hfa.symm.trans (PySem.W.mg_of X G a18)
  cases e
  have F0 := fun_mk (st := s_is_part) l0 c0 k0
  have F1 := fun_mk (st := s_Field___init__) l1 c1 k1
  have F2 := fun_mk (st := s_Field_walls) l2 c2 k2
  have F3 := fun_mk (st := s_common_divisor) l3 c3 k3
  have F4 := fun_mk (st := s_lowest) l4 c4 k4
  have F5 := fun_mk (st := s_read) l5 c5 k5
  have F6 := fun_mk (st := s_read_part) l6 c6 k6
  have F7 := fun_mk (st := s_read_number) l7 c7 k7
  have F8 := fun_mk (st := s_law_cell_at) l8 c8 k8
  have F9 := fun_mk (st := s_law_kind) l9 c9 k9
  have F10 := fun_mk (st := s_law_one) l10 c10 k10
  have F11 := fun_mk (st := s_law_whole) l11 c11 k11
  have F12 := fun_mk (st := s_law_low) l12 c12 k12
  have F13 := fun_mk (st := s_law_parts) l13 c13 k13
  have F14 := fun_mk (st := s_law_side) l14 c14 k14
  have F15 := fun_mk (st := s_law_number) l15 c15 k15
  have F16 := fun_mk (st := s_law_due) l16 c16 k16
  have F17 := fun_mk (st := s_law_turned) l17 c17 k17
  have F18 := fun_mk (st := s_law) l18 c18 k18
  have b0 := F0.binds (ps := ["fraction"]) fun _ _ _ _ _ _ us hl => match us, hl with | [_], _ => rfl
  have b1 := F1.binds (ps := ["self", "walls"]) fun _ _ _ _ _ _ us hl => match us, hl with | [_, _], _ => rfl
  have b2 := F2.binds (ps := ["self"]) fun _ _ _ _ _ _ us hl => match us, hl with | [_], _ => rfl
  have b3 := F3.binds (ps := ["one", "other"]) fun _ _ _ _ _ _ us hl => match us, hl with | [_, _], _ => rfl
  have b4 := F4.binds (ps := ["top", "bottom"]) fun _ _ _ _ _ _ us hl => match us, hl with | [_, _], _ => rfl
  have b5 := F5.binds (ps := ["text"]) fun _ _ _ _ _ _ us hl => match us, hl with | [_], _ => rfl
  have b6 := F6.binds (ps := ["written"]) fun _ _ _ _ _ _ us hl => match us, hl with | [_], _ => rfl
  have b7 := F7.binds (ps := ["written"]) fun _ _ _ _ _ _ us hl => match us, hl with | [_], _ => rfl
  have b8 := F8.binds (ps := ["script", "k"]) fun _ _ _ _ _ _ us hl => match us, hl with | [_, _], _ => rfl
  have b9 := F9.binds (ps := ["e"]) fun _ _ _ _ _ _ us hl => match us, hl with | [_], _ => rfl
  have b10 := F10.binds (ps := ["k"]) fun _ _ _ _ _ _ us hl => match us, hl with | [_], _ => rfl
  have b11 := F11.binds (ps := ["found"]) fun _ _ _ _ _ _ us hl => match us, hl with | [_], _ => rfl
  have b12 := F12.binds (ps := ["top", "bottom"]) fun _ _ _ _ _ _ us hl => match us, hl with | [_, _], _ => rfl
  have b13 := F13.binds (ps := ["found", "due"]) fun _ _ _ _ _ _ us hl => match us, hl with | [_, _], _ => rfl
  have b14 := F14.binds (ps := ["cell"]) fun _ _ _ _ _ _ us hl => match us, hl with | [_], _ => rfl
  have b15 := F15.binds (ps := ["word"]) fun _ _ _ _ _ _ us hl => match us, hl with | [_], _ => rfl
  have b16 := F16.binds (ps := ["text"]) fun _ _ _ _ _ _ us hl => match us, hl with | [_], _ => rfl
  have b17 := F17.binds (ps := ["words", "mode", "cell"]) fun _ _ _ _ _ _ us hl => match us, hl with | [_, _, _], _ => rfl
  have b18 := F18.binds (ps := ["script"]) fun _ _ _ _ _ _ us hl => match us, hl with | [_], _ => rfl
  let a : Adr := ⟨f0, PySem.W.fnOf "is_part" "is_part" (defArgs s_is_part) (defBody s_is_part) (defScope s_is_part) .none kV0 dc0 pm0 an0 cd0 ct0,
    f1, PySem.W.fnOf "__init__" "Field.__init__" (defArgs s_Field___init__) (defBody s_Field___init__) (defScope s_Field___init__) .none kV1 dc1 pm1 an1 cd1 ct1,
    f2, PySem.W.fnOf "walls" "Field.walls" (defArgs s_Field_walls) (defBody s_Field_walls) (defScope s_Field_walls) .none kV2 dc2 pm2 an2 cd2 ct2,
    f3, PySem.W.fnOf "common_divisor" "common_divisor" (defArgs s_common_divisor) (defBody s_common_divisor) (defScope s_common_divisor) .none kV3 dc3 pm3 an3 cd3 ct3,
    f4, PySem.W.fnOf "lowest" "lowest" (defArgs s_lowest) (defBody s_lowest) (defScope s_lowest) .none kV4 dc4 pm4 an4 cd4 ct4,
    f5, PySem.W.fnOf "read" "read" (defArgs s_read) (defBody s_read) (defScope s_read) .none kV5 dc5 pm5 an5 cd5 ct5,
    f6, PySem.W.fnOf "read_part" "read_part" (defArgs s_read_part) (defBody s_read_part) (defScope s_read_part) .none kV6 dc6 pm6 an6 cd6 ct6,
    f7, PySem.W.fnOf "read_number" "read_number" (defArgs s_read_number) (defBody s_read_number) (defScope s_read_number) .none kV7 dc7 pm7 an7 cd7 ct7,
    f8, PySem.W.fnOf "_law_cell_at" "_law_cell_at" (defArgs s_law_cell_at) (defBody s_law_cell_at) (defScope s_law_cell_at) .none kV8 dc8 pm8 an8 cd8 ct8,
    f9, PySem.W.fnOf "_law_kind" "_law_kind" (defArgs s_law_kind) (defBody s_law_kind) (defScope s_law_kind) .none kV9 dc9 pm9 an9 cd9 ct9,
    f10, PySem.W.fnOf "_law_one" "_law_one" (defArgs s_law_one) (defBody s_law_one) (defScope s_law_one) .none kV10 dc10 pm10 an10 cd10 ct10,
    f11, PySem.W.fnOf "_law_whole" "_law_whole" (defArgs s_law_whole) (defBody s_law_whole) (defScope s_law_whole) .none kV11 dc11 pm11 an11 cd11 ct11,
    f12, PySem.W.fnOf "_law_low" "_law_low" (defArgs s_law_low) (defBody s_law_low) (defScope s_law_low) .none kV12 dc12 pm12 an12 cd12 ct12,
    f13, PySem.W.fnOf "_law_parts" "_law_parts" (defArgs s_law_parts) (defBody s_law_parts) (defScope s_law_parts) .none kV13 dc13 pm13 an13 cd13 ct13,
    f14, PySem.W.fnOf "_law_side" "_law_side" (defArgs s_law_side) (defBody s_law_side) (defScope s_law_side) .none kV14 dc14 pm14 an14 cd14 ct14,
    f15, PySem.W.fnOf "_law_number" "_law_number" (defArgs s_law_number) (defBody s_law_number) (defScope s_law_number) .none kV15 dc15 pm15 an15 cd15 ct15,
    f16, PySem.W.fnOf "_law_due" "_law_due" (defArgs s_law_due) (defBody s_law_due) (defScope s_law_due) .none kV16 dc16 pm16 an16 cd16 ct16,
    f17, PySem.W.fnOf "_law_turned" "_law_turned" (defArgs s_law_turned) (defBody s_law_turned) (defScope s_law_turned) .none kV17 dc17 pm17 an17 cd17 ct17,
    fa, PySem.W.fnOf "law" "law" (defArgs s_law) (defBody s_law) (defScope s_law) .none kV18 dc18 pm18 an18 cd18 ct18,
    c_Field,
    c_EchoError,
    c_NoField,
    c_NoMoment,
    c_NoRecord,
    c_TooMany,
    c_BadText⟩
  have T : Txt K mg a := ⟨⟨F0, PySem.W.mg_of X G a0, b0⟩, ⟨F1, b1⟩, ⟨F2, b2⟩, ⟨F3, PySem.W.mg_of X G a3, b3⟩, ⟨F4, PySem.W.mg_of X G a4, b4⟩, ⟨F5, PySem.W.mg_of X G a5, b5⟩, ⟨F6, PySem.W.mg_of X G a6, b6⟩, ⟨F7, PySem.W.mg_of X G a7, b7⟩, ⟨F8, PySem.W.mg_of X G a8, b8⟩, ⟨F9, PySem.W.mg_of X G a9, b9⟩, ⟨F10, PySem.W.mg_of X G a10, b10⟩, ⟨F11, PySem.W.mg_of X G a11, b11⟩, ⟨F12, PySem.W.mg_of X G a12, b12⟩, ⟨F13, PySem.W.mg_of X G a13, b13⟩, ⟨F14, PySem.W.mg_of X G a14, b14⟩, ⟨F15, PySem.W.mg_of X G a15, b15⟩, ⟨F16, PySem.W.mg_of X G a16, b16⟩, ⟨F17, PySem.W.mg_of X G a17, b17⟩, ⟨F18, PySem.W.mg_of X G a18, b18⟩, PySem.W.mg_none_of X G z_len, PySem.W.mg_none_of X G z_abs, PySem.W.mg_none_of X G z_isinstance, PySem.W.mg_none_of X G z_all, PySem.W.mg_none_of X G z_list, PySem.W.mg_none_of X G z_tuple, PySem.W.mg_none_of X G z_int, PySem.W.mg_none_of X G z_bool, PySem.W.mg_none_of X G z_range, PySem.W.mg_none_of X G z_str, PySem.W.mg_none_of X G z_ValueError, PySem.W.mg_of X G x_g_Field, x_pg_Field, x_hd_Field, x_po_Field, x_sa_Field, x_na_Field_row, x_mk_Field, x_kc_Field, x_fi_Field___init__, x_if_Field___init__, x_ke_Field___init__, x_fi_Field_walls, x_if_Field_walls, x_ke_Field_walls, PySem.W.mg_of X G x_g_EchoError, x_ex_EchoError, x_xg_EchoError, x_xo_EchoError, x_xb_EchoError, x_xh_EchoError, x_xa_EchoError, x_xm_EchoError, PySem.W.mg_of X G x_g_NoField, x_ex_NoField, x_xg_NoField, x_xo_NoField, x_xb_NoField, x_xh_NoField, x_xa_NoField, x_xm_NoField, PySem.W.mg_of X G x_g_NoMoment, x_ex_NoMoment, x_xg_NoMoment, x_xo_NoMoment, x_xb_NoMoment, x_xh_NoMoment, x_xa_NoMoment, x_xm_NoMoment, PySem.W.mg_of X G x_g_NoRecord, x_ex_NoRecord, x_xg_NoRecord, x_xo_NoRecord, x_xb_NoRecord, x_xh_NoRecord, x_xa_NoRecord, x_xm_NoRecord, PySem.W.mg_of X G x_g_TooMany, x_ex_TooMany, x_xg_TooMany, x_xo_TooMany, x_xb_TooMany, x_xh_TooMany, x_xa_TooMany, x_xm_TooMany, PySem.W.mg_of X G x_g_BadText, x_ex_BadText, x_xg_BadText, x_xo_BadText, x_xb_BadText, x_xh_BadText, x_xa_BadText, x_xm_BadText, x_xn, x_xt, x_kit_BadText_NoField, x_kit_BadText_NoMoment, x_kit_BadText_NoRecord, x_kit_BadText_TooMany, x_kit_BadText_BadText, x_kit_BadText_ValueError, x_exm_BadText_EchoError, ⟨_, PySem.W.mg_of X G x_g_MOST_WALLS, ⟨_, rfl⟩⟩, ⟨_, PySem.W.mg_of X G x_g_MOST_FIGURES, ⟨_, rfl⟩⟩, ⟨_, PySem.W.mg_of X G x_g_FIGURES, ⟨_, rfl⟩⟩⟩
  exact ⟨a.d_law, fun s v => .of_eq rfl, fun base _ _ => ok_law T⟩
theorem walk {l : PySem.W.OpenLaw} {q : Program} {loose : List Str} {XP : (Str → Option Value) → Heap → Prop} {YP : World → Heap → Prop} {d : DefRec} {K : Params → PySem.W.Frag} (hn : l.most = some 63) (hdf : d.params.defaults = [])
    (hY : ∀ (w : World) (h : Heap), YP w h → (K w.params).In h)
    (F : ∀ (w : World) (mg : Str → Option Value) (fa : Addr) (h : Heap), (K w.params).In h → h.Ns mainGlobals mg → mg d.name = some (.ref fa) →
      ∃ fd : FuncData, (∀ (s : Shared) (u : Value), BindsTo s fd ⟨[u], []⟩ [("script", u)]) ∧ ∀ base : Heap, (K w.params).In base → base.Ns mainGlobals mg → FnOk l.prog w (K w.params) mg base CX0 8 fa fd ["script"] (sp_law (K w.params))) :
    PySem.W.WalkO q loose XP YP l.row.toRowW d [] (fun f vs => PySem.call f vs) :=
  L2.walk_of (n := 63) (k := 8) (x := "script") (CX := fun _ => CX0) (sp := fun w => sp_law (K w.params)) hn (by decide) hdf ⟨rfl, by decide, by decide⟩ hY F (fun _ _ a ns hl _ hS => ⟨a, ns, rfl, hS, hl, fun _ => rfl⟩) fun _ _ _ _ _ z => z
end K12
open PySem PySem.W PyProof.Rows
set_option maxRecDepth 100000 in
set_option maxHeartbeats 0 in
theorem PySem.Challenge.cw_echofield_k12_read_holds : PySem.Challenge.rw_echofield_k12_read.Holds := by
  w_on; o_law; k_head; (case hw => w_witness2)
  k_fill
  refine K12.walk (l := PySem.Challenge.rw_echofield_k12_read) rfl rfl (fun w h Y => PySem.W.kIn_of Y) ?F
  case F =>
    intro w mg fa h KX G hmg
    refine' K12.all_mk KX G hmg ?a0 ?l0 ?c0 ?k0 ?l1 ?c1 ?k1 ?l2 ?c2 ?k2 ?a3 ?l3 ?c3 ?k3 ?a4 ?l4 ?c4 ?k4 ?a5 ?l5 ?c5 ?k5 ?a6 ?l6 ?c6 ?k6 ?a7 ?l7 ?c7 ?k7 ?a8 ?l8 ?c8 ?k8 ?a9 ?l9 ?c9 ?k9 ?a10 ?l10 ?c10 ?k10 ?a11 ?l11 ?c11 ?k11 ?a12 ?l12 ?c12 ?k12 ?a13 ?l13 ?c13 ?k13 ?a14 ?l14 ?c14 ?k14 ?a15 ?l15 ?c15 ?k15 ?a16 ?l16 ?c16 ?k16 ?a17 ?l17 ?c17 ?k17 ?a18 ?l18 ?c18 ?k18 ?z_len ?z_abs ?z_isinstance ?z_all ?z_list ?z_tuple ?z_int ?z_bool ?z_range ?z_str ?z_ValueError ?x_g_Field ?x_pg_Field ?x_hd_Field ?x_po_Field ?x_sa_Field ?x_na_Field_row ?x_mk_Field ?x_kc_Field ?x_fi_Field___init__ ?x_if_Field___init__ ?x_ke_Field___init__ ?x_fi_Field_walls ?x_if_Field_walls ?x_ke_Field_walls ?x_g_EchoError ?x_ex_EchoError ?x_xg_EchoError ?x_xo_EchoError ?x_xb_EchoError ?x_xh_EchoError ?x_xa_EchoError ?x_xm_EchoError ?x_g_NoField ?x_ex_NoField ?x_xg_NoField ?x_xo_NoField ?x_xb_NoField ?x_xh_NoField ?x_xa_NoField ?x_xm_NoField ?x_g_NoMoment ?x_ex_NoMoment ?x_xg_NoMoment ?x_xo_NoMoment ?x_xb_NoMoment ?x_xh_NoMoment ?x_xa_NoMoment ?x_xm_NoMoment ?x_g_NoRecord ?x_ex_NoRecord ?x_xg_NoRecord ?x_xo_NoRecord ?x_xb_NoRecord ?x_xh_NoRecord ?x_xa_NoRecord ?x_xm_NoRecord ?x_g_TooMany ?x_ex_TooMany ?x_xg_TooMany ?x_xo_TooMany ?x_xb_TooMany ?x_xh_TooMany ?x_xa_TooMany ?x_xm_TooMany ?x_g_BadText ?x_ex_BadText ?x_xg_BadText ?x_xo_BadText ?x_xb_BadText ?x_xh_BadText ?x_xa_BadText ?x_xm_BadText ?x_xn ?x_xt ?x_kit_BadText_NoField ?x_kit_BadText_NoMoment ?x_kit_BadText_NoRecord ?x_kit_BadText_TooMany ?x_kit_BadText_BadText ?x_kit_BadText_ValueError ?x_exm_BadText_EchoError ?x_g_MOST_WALLS ?x_g_MOST_FIGURES ?x_g_FIGURES
    (case a0 => k_is)
    (case a3 => k_is)
    (case a4 => k_is)
    (case a5 => k_is)
    (case a6 => k_is)
    (case a7 => k_is)
    (case a8 => k_is)
    (case a9 => k_is)
    (case a10 => k_is)
    (case a11 => k_is)
    (case a12 => k_is)
    (case a13 => k_is)
    (case a14 => k_is)
    (case a15 => k_is)
    (case a16 => k_is)
    (case a17 => k_is)
    (case a18 => k_is)
    (case x_g_Field => k_is)
    (case x_fi_Field___init__ => k_is)
    (case x_fi_Field_walls => k_is)
    (case x_g_EchoError => k_is)
    (case x_g_NoField => k_is)
    (case x_g_NoMoment => k_is)
    (case x_g_NoRecord => k_is)
    (case x_g_TooMany => k_is)
    (case x_g_BadText => k_is)
    (case x_g_MOST_WALLS => k_is)
    (case x_g_MOST_FIGURES => k_is)
    (case x_g_FIGURES => k_is)
    (case l0 => k_is)
    (case c0 => k_is)
    (case k0 => k_is)
    (case l1 => k_is)
    (case c1 => k_is)
    (case k1 => k_is)
    (case l2 => k_is)
    (case c2 => k_is)
    (case k2 => k_is)
    (case l3 => k_is)
    (case c3 => k_is)
    (case k3 => k_is)
    (case l4 => k_is)
    (case c4 => k_is)
    (case k4 => k_is)
    (case l5 => k_is)
    (case c5 => k_is)
    (case k5 => k_is)
    (case l6 => k_is)
    (case c6 => k_is)
    (case k6 => k_is)
    (case l7 => k_is)
    (case c7 => k_is)
    (case k7 => k_is)
    (case l8 => k_is)
    (case c8 => k_is)
    (case k8 => k_is)
    (case l9 => k_is)
    (case c9 => k_is)
    (case k9 => k_is)
    (case l10 => k_is)
    (case c10 => k_is)
    (case k10 => k_is)
    (case l11 => k_is)
    (case c11 => k_is)
    (case k11 => k_is)
    (case l12 => k_is)
    (case c12 => k_is)
    (case k12 => k_is)
    (case l13 => k_is)
    (case c13 => k_is)
    (case k13 => k_is)
    (case l14 => k_is)
    (case c14 => k_is)
    (case k14 => k_is)
    (case l15 => k_is)
    (case c15 => k_is)
    (case k15 => k_is)
    (case l16 => k_is)
    (case c16 => k_is)
    (case k16 => k_is)
    (case l17 => k_is)
    (case c17 => k_is)
    (case k17 => k_is)
    (case l18 => k_is)
    (case c18 => k_is)
    (case k18 => k_is)
    (case z_len => k_is)
    (case z_abs => k_is)
    (case z_isinstance => k_is)
    (case z_all => k_is)
    (case z_list => k_is)
    (case z_tuple => k_is)
    (case z_int => k_is)
    (case z_bool => k_is)
    (case z_range => k_is)
    (case z_str => k_is)
    (case z_ValueError => k_is)
    (case x_pg_Field => k_is)
    (case x_hd_Field => k_is)
    (case x_po_Field => k_is)
    (case x_sa_Field => k_is)
    (case x_na_Field_row => k_is)
    (case x_mk_Field => k_is)
    (case x_kc_Field => k_is)
    (case x_if_Field___init__ => k_is)
    (case x_ke_Field___init__ => k_is)
    (case x_if_Field_walls => k_is)
    (case x_ke_Field_walls => k_is)
    (case x_ex_EchoError => k_exc)
    (case x_xg_EchoError => k_is)
    (case x_xo_EchoError => k_is)
    (case x_xb_EchoError => k_is)
    (case x_xh_EchoError => k_is)
    (case x_xa_EchoError => k_is)
    (case x_xm_EchoError => k_is)
    (case x_ex_NoField => k_exc)
    (case x_xg_NoField => k_is)
    (case x_xo_NoField => k_is)
    (case x_xb_NoField => k_is)
    (case x_xh_NoField => k_is)
    (case x_xa_NoField => k_is)
    (case x_xm_NoField => k_is)
    (case x_ex_NoMoment => k_exc)
    (case x_xg_NoMoment => k_is)
    (case x_xo_NoMoment => k_is)
    (case x_xb_NoMoment => k_is)
    (case x_xh_NoMoment => k_is)
    (case x_xa_NoMoment => k_is)
    (case x_xm_NoMoment => k_is)
    (case x_ex_NoRecord => k_exc)
    (case x_xg_NoRecord => k_is)
    (case x_xo_NoRecord => k_is)
    (case x_xb_NoRecord => k_is)
    (case x_xh_NoRecord => k_is)
    (case x_xa_NoRecord => k_is)
    (case x_xm_NoRecord => k_is)
    (case x_ex_TooMany => k_exc)
    (case x_xg_TooMany => k_is)
    (case x_xo_TooMany => k_is)
    (case x_xb_TooMany => k_is)
    (case x_xh_TooMany => k_is)
    (case x_xa_TooMany => k_is)
    (case x_xm_TooMany => k_is)
    (case x_ex_BadText => k_exc)
    (case x_xg_BadText => k_is)
    (case x_xo_BadText => k_is)
    (case x_xb_BadText => k_is)
    (case x_xh_BadText => k_is)
    (case x_xa_BadText => k_is)
    (case x_xm_BadText => k_is)
    (case x_xn => k_is)
    (case x_xt => k_is)
    (case x_kit_BadText_NoField => first | k_is | kit_is | with_unfolding_all rfl)
    (case x_kit_BadText_NoMoment => first | k_is | kit_is | with_unfolding_all rfl)
    (case x_kit_BadText_NoRecord => first | k_is | kit_is | with_unfolding_all rfl)
    (case x_kit_BadText_TooMany => first | k_is | kit_is | with_unfolding_all rfl)
    (case x_kit_BadText_BadText => first | k_is | kit_is | with_unfolding_all rfl)
    (case x_kit_BadText_ValueError => first | k_is | kit_is | with_unfolding_all rfl)
    (case x_exm_BadText_EchoError => first | k_is | kit_is | with_unfolding_all rfl)
#print axioms PySem.Challenge.cw_echofield_k12_read_holds
