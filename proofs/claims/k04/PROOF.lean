import PyProof.Rows.All
import Wide.All
import OpenK.AllK
import Wide.FinOn
import Lean
import PyProof.EqAt
import PyProof.EqKinds
import PyProof.TupleCall
import PyProof.P3Eq
import PyProof.NeData
import PyProof.ConsumeWalk
import PyProof.Rows.SumAny
import PyProof.ZipIter
import PyProof.Rows.ZipGen
import PyProof.Rows.SeqMore
import PySem.Challenge.RW_cutlands_k04_cuttings_told
set_option Elab.async false
set_option linter.all false
set_option maxRecDepth 100000
/-! THE HAND LAYER, for ints, bools, texts, own classes, LISTS and tuples (index, slices, in, append, pop ..), calls, loops. Paste it whole ahead of your own text; what your proof does not reach may be deleted. -/
namespace L2
open PySem PySem.Spec PyProof.Rows

/-- a key: an int or a str -/
abbrev Key := Sum Int Str
def keyIs : Key → Value → Bool
  | .inl k, v => Value.isInt k v
  | .inr x, v => Value.isStrOf x v
def keyH (w : World) : Key → Int
  | .inl k => hashInt k
  | .inr x => hashStr w x
theorem keyIs_shape : ∀ {k : Key} {v : Value}, keyIs k v = true → (∃ i t, k = Sum.inl i ∧ v = Value.int i t) ∨ (∃ x t, k = Sum.inr x ∧ v = Value.str x t)
  | .inl i, v, h => by
    obtain ⟨t, e⟩ := Value.isInt_shape (k := i) (v := v) h
    exact .inl ⟨i, t, rfl, e⟩
  | .inr x, v, h => by
    obtain ⟨t, e⟩ := Value.isStrOf_shape (x := x) (v := v) h
    exact .inr ⟨x, t, rfl, e⟩
theorem keyIs_int (i : Int) (t : Tok) : keyIs (.inl i) (.int i t) = true := by simp [keyIs, Value.isInt]
theorem keyIs_str (x : Str) (t : Tok) : keyIs (.inr x) (.str x t) = true := by simp [keyIs, Value.isStrOf]
theorem key_ll (a b : Int) : decide ((Sum.inl a : Key) = Sum.inl b) = (a == b) := by
  by_cases e : a = b
  · subst e; simp
  · have h : ¬ (Sum.inl a : Key) = Sum.inl b := fun q => e (Sum.inl.inj q)
    rw [decide_eq_false h]
    exact (beq_eq_false_iff_ne.mpr e).symm
theorem key_rr (a b : Str) : decide ((Sum.inr a : Key) = Sum.inr b) = decide (a = b) := by
  by_cases e : a = b
  · subst e; simp
  · have h : ¬ (Sum.inr a : Key) = Sum.inr b := fun q => e (Sum.inr.inj q)
    rw [decide_eq_false h, decide_eq_false e]
theorem key_lr (a : Int) (b : Str) : decide ((Sum.inl a : Key) = Sum.inr b) = false := decide_eq_false (fun q => nomatch q)
theorem key_rl (a : Str) (b : Int) : decide ((Sum.inr a : Key) = Sum.inl b) = false := decide_eq_false (fun q => nomatch q)

def mixKind (prog : Program) (w : World) : PySem.KeyKind prog w Key where
  is := keyIs
  hash := keyH w
  inj := fun v a b ha hb => by
    rcases keyIs_shape ha with ⟨i, t, rfl, rfl⟩ | ⟨x, t, rfl, rfl⟩
    · rcases keyIs_shape hb with ⟨j, u, rfl, e⟩ | ⟨y, u, rfl, e⟩
      · injection e with e1 _; rw [e1]
      · exact nomatch e
    · rcases keyIs_shape hb with ⟨j, u, rfl, e⟩ | ⟨y, u, rfl, e⟩
      · exact nomatch e
      · injection e with e1 _; rw [e1]
  byValue := fun k v h => by
    rcases keyIs_shape h with ⟨i, t, rfl, rfl⟩ | ⟨x, t, rfl, rfl⟩ <;> rfl
  pyHash := fun hv h => by
    rcases keyIs_shape hv with ⟨i, t, rfl, rfl⟩ | ⟨x, t, rfl, rfl⟩
    · exact wpAny_pyHash_int h
    · exact wpAny_pyHash_str h
  eqBool := fun hu hv h => by
    rcases keyIs_shape hu with ⟨i, t, rfl, rfl⟩ | ⟨x, t, rfl, rfl⟩
    · rcases keyIs_shape hv with ⟨j, u, rfl, rfl⟩ | ⟨y, u, rfl, rfl⟩
      · rw [key_ll] at h; exact wpAny_eqBool_int h
      · rw [key_lr] at h; exact SeqAt.EqAt.int_str i t y u _ _ _ _ h
    · rcases keyIs_shape hv with ⟨j, u, rfl, rfl⟩ | ⟨y, u, rfl, rfl⟩
      · rw [key_rl] at h; exact SeqAt.EqAt.str_int x t j u _ _ _ _ h
      · rw [key_rr] at h; exact wpAny_eqBool_str h
  «strs» := fun k x t v h => by
    rcases keyIs_shape h with ⟨i, u, rfl, e⟩ | ⟨y, u, rfl, e⟩
    · exact nomatch e
    · injection e with e1 _
      subst e1
      cases v <;> rfl

theorem mixKind_is (prog : Program) (w : World) (k : Key) (v : Value) : (mixKind prog w).is k v = keyIs k v := rfl
theorem mixKind_int (prog : Program) (w : World) (i : Int) (t : Tok) : (mixKind prog w).is (.inl i) (.int i t) = true := keyIs_int i t
theorem mixKind_str (prog : Program) (w : World) (x : Str) (t : Tok) : (mixKind prog w).is (.inr x) (.str x t) = true := keyIs_str x t
end L2

namespace L2
open PySem PySem.Spec PyProof.Rows

/-- a value, without the heap -/
inductive V where
  | non | bl (b : Bool) | int (i : Int) | str (x : Str) | byt (b : Array UInt8) | flt (b : UInt64) | ref (a : Addr) | ty (n : String)
  deriving DecidableEq

def RelV : V → Value → Prop
  | .non, u => u = Value.none
  | .bl b, u => u = Value.bool b
  | .int i, u => ∃ t, u = Value.int i t
  | .str x, u => ∃ t, u = Value.str x t
  | .byt b, u => ∃ t, u = Value.bytes b t
  | .flt b, u => ∃ t, u = Value.float b t
  | .ref a, u => u = Value.ref a
  | .ty n, u => u = Value.type n

abbrev Vals : List V → List Value → Prop := Paired RelV
theorem Vals.length {xs : List V} {us : List Value} (r : Vals xs us) : xs.length = us.length := Paired.length r
theorem Vals.get : ∀ {xs : List V} {us : List Value} {i : Nat} {x : V}, Vals xs us → xs[i]? = some x → ∃ u, us[i]? = some u ∧ RelV x u
  | _, _, _, _, .nil, e => by simp at e
  | _, _, 0, _, .cons r _, e => by simp at e; subst e; exact ⟨_, rfl, r⟩
  | _, _, i + 1, x, .cons _ t, e => by
    obtain ⟨u, h1, h2⟩ := Vals.get (i := i) (x := x) t (by simpa using e)
    exact ⟨u, by simpa using h1, h2⟩
theorem Vals.set {x : V} {u : Value} (r : RelV x u) : ∀ {xs : List V} {us : List Value} (i : Nat), Vals xs us → Vals (xs.set i x) (us.set i u)
  | _, _, _, .nil => .nil
  | _, _, 0, .cons _ t => .cons r t
  | _, _, i + 1, .cons q t => .cons q (Vals.set r i t)
theorem Vals.append : ∀ {xs ys : List V} {us ws : List Value}, Vals xs us → Vals ys ws → Vals (xs ++ ys) (us ++ ws)
  | _, _, _, _, .nil, s => s
  | _, _, _, _, .cons r t, s => .cons r (Vals.append t s)
theorem Vals.take : ∀ {xs : List V} {us : List Value} (n : Nat), Vals xs us → Vals (xs.take n) (us.take n)
  | _, _, 0, _ => .nil
  | _, _, _ + 1, .nil => .nil
  | _, _, n + 1, .cons r t => .cons r (Vals.take n t)
theorem Vals.drop : ∀ {xs : List V} {us : List Value} (n : Nat), Vals xs us → Vals (xs.drop n) (us.drop n)
  | _, _, 0, r => r
  | _, _, _ + 1, .nil => .nil
  | _, _, n + 1, .cons _ t => Vals.drop n t
theorem Vals.none_of : ∀ {xs : List V} {us : List Value} {i : Nat}, Vals xs us → xs[i]? = none → us[i]? = none := fun {xs us i} r e => by
  have h1 := r.length
  have h2 : xs.length ≤ i := List.getElem?_eq_none_iff.mp e
  exact List.getElem?_eq_none_iff.mpr (by omega)

def RelO : Option V → Option Value → Prop
  | some v, some u => RelV v u
  | none, none => True
  | _, _ => False
def KV {κ : Type} : List (κ × V) → List (κ × Value) → Prop := Paired fun (p : κ × V) (q : κ × Value) => p.1 = q.1 ∧ RelV p.2 q.2

/-- a key of a dict (00_mix): an int or a text -/
def kV : Key → V
  | .inl i => .int i
  | .inr x => .str x

/-- what stands at a tracked address -/
inductive HO where
  /-- a list -/
  | lst (xs : List V)
  /-- a tuple (never changes) -/
  | tup (xs : List V)
  /-- a dict whose keys are ints and texts; one whose keys are tuples of ints and texts (the empty one is both) -/
  | dK (kvs : List (Key × V)) | dT (kvs : List (List Key × V))
  /-- a set of ints: its members, its size -/
  | set (S : Int → Bool) (n : Nat)
  /-- an instance of the class at C, its dict at dx, its attributes -/
  | ins (C dx : Addr) (fs : List (Str × V))
  /-- the dict of the instance at x -/
  | own (x : Addr)
  /-- the dict of an exception -/
  | xd (fs : List (Str × V))
  /-- a bound method, f of x -/
  | met (f x : Addr)
  /-- a range object lo, lo + 1, .. below hi -/
  | rng (lo hi : Int)
  /-- a thing that is known to the object (the script; a dict while a loop walks it): read, never written while it is so -/
  | frz (o : Obj) (u : HO)
  /-- a code object's table -/
  | tbl (ps : Array Value)
  /-- any other thing, by what is true of its one object (a def of one's own: SetO a S n := HO.ext fun h => ..) -/
  | ext (φ : Heap → Prop)

abbrev Hp := Addr → Option HO
def upd (H : Hp) (a : Addr) (o : HO) : Hp := fun b => if b = a then some o else H b
theorem upd_same {H : Hp} {a : Addr} {o : HO} : upd H a o a = some o := by unfold upd; rw [if_pos rfl]
theorem upd_ne {H : Hp} {a b : Addr} {o : HO} (h : b ≠ a) : upd H a o b = H b := by unfold upd; rw [if_neg h]
theorem upd_upd {H : Hp} {a : Addr} {o u : HO} : upd (upd H a o) a u = upd H a u := by
  funext b; unfold upd; split <;> rfl
/-- two objects of different content stand apart -/
theorem ne_of {H : Hp} {a b : Addr} {o u : HO} (h : H a = some o) (h' : H b = some u) (d : o ≠ u) : a ≠ b := by
  intro e; subst e; rw [h] at h'; exact d (Option.some.inj h')
theorem ne_of_none {H : Hp} {a b : Addr} {o : HO} (h : H a = some o) (h' : H b = none) : a ≠ b := by
  intro e; subst e; rw [h] at h'; cases h'

section
variable (P : Program) (w : World)
def ObjOk (H : Hp) (h : Heap) (a : Addr) : HO → Prop
  | .lst xs => xs.length ≤ sizeLine ∧ ∃ (its : List Value) (n : Nat), Vals xs its ∧ h.get? a = some { cls := .type "list", data := .seq its.toArray n }
  | .tup xs => xs.length ≤ sizeLine ∧ ∃ its : List Value, Vals xs its ∧ IsTup h a its.toArray
  | .dK kvs => kvs.length ≤ sizeLine ∧ (a == sysModules) = false ∧ ∃ vs, KV kvs vs ∧ h.DictOf (mixKind P w) a vs
  | .dT kvs => kvs.length ≤ sizeLine ∧ (a == sysModules) = false ∧ ∃ xs : List (List Key × Addr × Value),
      Paired (fun (p : List Key × V) (q : List Key × Addr × Value) => p.1 = q.1 ∧ H q.2.1 = some (.tup (p.1.map kV)) ∧ RelV p.2 q.2.2) kvs xs ∧
      ∃ o es ep, h.get? a = some o ∧ o.ExactDict ∧ o.data = .dict es ep ∧ es.toList = xs.map (entryOfKey (tupleKind (mixKind P w))) ∧ (xs.map (·.1)).Nodup
  | .set S n => h.SetOf (intKind P w) a S n
  | .ins C dx fs => H dx = some (.own a) ∧ fs.length ≤ 1000 ∧ dx ≠ a ∧ h.get? a = some (PySem.W.instObj C dx) ∧
      ∃ mA, h.Ns1 dx mA ∧ (∀ f, RelO (fs.lookup f) (mA f)) ∧ PySem.Within mA (fs.map (·.1))
  | .own _ => ∃ o, h.get? a = some o
  | .xd fs => ∃ mA, h.Ns1 a mA ∧ ∀ f, RelO (fs.lookup f) (mA f)
  | .rng lo hi => ∃ t u v, h.get? a = some { cls := .type "range", data := .fields #[.int lo t, .int hi u, .int 1 v] }
  | .frz o u => h.get? a = some o ∧ ObjOk H h a u
  | .tbl ps => h.get? a = some { cls := .none, data := .fields ps }
  | .met f x => h.get? a = some (PySem.W.methodObj (.ref f) (.ref x))
  | .ext φ => φ h ∧ (∃ o, h.get? a = some o) ∧ ∀ h1 h2 : Heap, φ h1 → (∀ o, h1.get? a = some o → h2.get? a = some o) → φ h2
/-- the abstract heap is held -/
def HOk (H : Hp) (h : Heap) : Prop := ∀ a o, H a = some o → ObjOk P w H h a o
end

section
variable {P : Program} {w : World} {H H' : Hp} {h h' : Heap} {a : Addr} {o : HO}
theorem ObjOk.lt (x : ObjOk P w H h a o) : a < h.objs.size := by
  cases o with
  | lst xs => obtain ⟨_, _, _, _, e⟩ := x; exact Heap.lt_size e
  | tup xs => obtain ⟨_, _, _, p⟩ := x; exact p.lt
  | dK kvs => obtain ⟨_, _, _, _, o, _, _, e, _⟩ := x; exact Heap.lt_size e
  | dT kvs => obtain ⟨_, _, _, _, o, _, _, e, _⟩ := x; exact Heap.lt_size e
  | set S n => obtain ⟨o, _, _, _, e, _⟩ := x; exact Heap.lt_size e
  | ins C dx fs => obtain ⟨_, _, _, e, _⟩ := x; exact Heap.lt_size e
  | own y => obtain ⟨_, e⟩ := x; exact Heap.lt_size e
  | xd fs => obtain ⟨_, ⟨_, _, _, e, _⟩, _⟩ := x; exact Heap.lt_size e
  | rng lo hi => obtain ⟨_, _, _, e⟩ := x; exact Heap.lt_size e
  | frz ob u => obtain ⟨e, _⟩ := x; exact Heap.lt_size e
  | tbl ps => exact Heap.lt_size (show h.get? a = some _ from x)
  | met f y => exact Heap.lt_size (show h.get? a = some _ from x)
  | ext φ => obtain ⟨_, ⟨_, e⟩, _⟩ := x; exact Heap.lt_size e
theorem Paired.mapP {α β : Type} {F G : α → β → Prop} : ∀ {l₁ : List α} {l₂ : List β}, Paired F l₁ l₂ → (∀ a b, F a b → G a b) → Paired G l₁ l₂
  | _, _, .nil, _ => .nil
  | _, _, .cons r t, f => .cons (f _ _ r) (Paired.mapP t f)
theorem Paired.imp' {α β : Type} {F G : α → β → Prop} (f : ∀ a b, F a b → G a b) {l₁ : List α} {l₂ : List β} (r : Paired F l₁ l₂) : Paired G l₁ l₂ := Paired.mapP r f
/-- what an object's description leans on: its own object, its own dict, the tuples -/
theorem ObjOk.stay (x : ObjOk P w H h a o) (k : ∀ b u, (b = a ∨ H b = some (.own a)) → h.get? b = some u → h'.get? b = some u)
    (ho : ∀ b, H b = some (.own a) → H' b = some (.own a)) (ht : ∀ b xs, H b = some (.tup xs) → H' b = some (.tup xs)) : ObjOk P w H' h' a o := by
  induction o with
  | lst xs => obtain ⟨z, its, n, r, e⟩ := x; exact ⟨z, its, n, r, k _ _ (.inl rfl) e⟩
  | tup xs => obtain ⟨z, its, r, ob, e, c⟩ := x; exact ⟨z, its, r, ob, k _ _ (.inl rfl) e, c⟩
  | dK kvs => obtain ⟨z, y, vs, r, ob, es, ep, e, c⟩ := x; exact ⟨z, y, vs, r, ob, es, ep, k _ _ (.inl rfl) e, c⟩
  | dT kvs =>
    obtain ⟨z, y, xs, r, ob, es, ep, e, c⟩ := x
    exact ⟨z, y, xs, Paired.mapP r fun p q z => ⟨z.1, ht _ _ z.2.1, z.2.2⟩, ob, es, ep, k _ _ (.inl rfl) e, c⟩
  | set S n => obtain ⟨ob, es, ep, t, e, c⟩ := x; exact ⟨ob, es, ep, t, k _ _ (.inl rfl) e, c⟩
  | ins C dx fs =>
    obtain ⟨d, z, ne, e, mA, ⟨od, es, ep, e2, c⟩, r⟩ := x
    exact ⟨ho _ d, z, ne, k _ _ (.inl rfl) e, mA, ⟨od, es, ep, k _ _ (.inr d) e2, c⟩, r⟩
  | own y => obtain ⟨ob, e⟩ := x; exact ⟨ob, k _ _ (.inl rfl) e⟩
  | xd fs => obtain ⟨mA, ⟨od, es, ep, e, c⟩, r⟩ := x; exact ⟨mA, ⟨od, es, ep, k _ _ (.inl rfl) e, c⟩, r⟩
  | rng lo hi => obtain ⟨t, u, v, e⟩ := x; exact ⟨t, u, v, k _ _ (.inl rfl) e⟩
  | frz ob u ih => obtain ⟨e, q⟩ := x; exact ⟨k _ _ (.inl rfl) e, ih q⟩
  | tbl ps =>
    have e : h.get? a = some { cls := .none, data := .fields ps } := x
    show h'.get? a = some { cls := .none, data := .fields ps }
    exact k a _ (.inl rfl) e
  | met f y =>
    have e : h.get? a = some (PySem.W.methodObj (.ref f) (.ref y)) := x
    show h'.get? a = some (PySem.W.methodObj (.ref f) (.ref y))
    exact k a _ (.inl rfl) e
  | ext φ => obtain ⟨p, ⟨o, e⟩, st⟩ := x; exact ⟨st _ _ p fun o q => k _ _ (.inl rfl) q, ⟨o, k _ _ (.inl rfl) e⟩, st⟩
theorem HOk.lt (x : HOk P w H h) (e : H a = some o) : a < h.objs.size := (x a o e).lt
theorem HOk.fresh (x : HOk P w H h) (e : h.objs.size ≤ a) : H a = none := by
  cases q : H a with
  | none => rfl
  | some u => exact absurd (Nat.lt_of_lt_of_le (x.lt q) e) (Nat.lt_irrefl _)
/-- every object of the heap is kept -/
theorem HOk.kept (x : HOk P w H h) (k : ∀ b u, h.get? b = some u → h'.get? b = some u) : HOk P w H h' := fun a o e =>
  (x a o e).stay (fun b u _ q => k b u q) (fun _ q => q) fun _ _ q => q
/-- a new object is laid and tracked -/
theorem HOk.laid (x : HOk P w H h) (k : ∀ b u, h.get? b = some u → h'.get? b = some u) (hp : h.objs.size ≤ a) (new : ObjOk P w (upd H a o) h' a o) : HOk P w (upd H a o) h' := fun b u e => by
  have hn := x.fresh hp
  by_cases hb : b = a
  · subst hb; rw [upd_same] at e; cases e; exact new
  · rw [upd_ne hb] at e
    exact (x b u e).stay (fun c v _ q => k c v q) (fun c q => by rw [upd_ne (ne_of_none q hn)]; exact q) fun c xs q => by rw [upd_ne (ne_of_none q hn)]; exact q
end

/-- what may be read as u: it is u, or a known u -/
def Rd (H : Hp) (a : Addr) (u : HO) : Prop := H a = some u ∨ ∃ o, H a = some (.frz o u)
theorem Rd.of {H : Hp} {a : Addr} {u : HO} (h : H a = some u) : Rd H a u := .inl h
theorem Rd.ok {P : Program} {w : World} {H : Hp} {h : Heap} {a : Addr} {u : HO} (r : Rd H a u) (x : HOk P w H h) : ObjOk P w H h a u := by
  rcases r with r | ⟨o, r⟩
  · exact x a u r
  · obtain ⟨_, q⟩ := x a _ r
    exact q
/-- what may be written -/
def Mut : Option HO → Prop
  | some (.lst _) => True
  | some (.dK _) => True
  | some (.dT _) => True
  | some (.set _ _) => True
  | some (.ins _ _ _) => True
  | some (.ext _) => True
  | _ => False
section
variable {P : Program} {w : World} {H : Hp} {h h' : Heap} {x e : Addr} {o' : HO}
/-- the object at e is changed: x itself, or the dict of the instance x -/
theorem HOk.write (ok : HOk P w H h) (mu : Mut (H x)) (he : e = x ∨ H e = some (.own x)) (k : ∀ b u, b ≠ e → h.get? b = some u → h'.get? b = some u) (heo : ∃ u, h'.get? e = some u)
    (new : ObjOk P w (upd H x o') h' x o') : HOk P w (upd H x o') h' := fun b u q => by
  have nown : ∀ c y, H c = some (.own y) → c ≠ x := fun c y r z => by subst z; rw [r] at mu; exact mu
  have ntup : ∀ c xs, H c = some (.tup xs) → c ≠ x := fun c xs r z => by subst z; rw [r] at mu; exact mu
  by_cases hb : b = x
  · subst hb; rw [upd_same] at q; cases q; exact new
  · rw [upd_ne hb] at q
    by_cases hbe : b = e
    · have q' : H b = some (.own x) := by
        rcases he with z | z
        · exact absurd (hbe.trans z) hb
        · rw [hbe]; exact z
      rw [q] at q'; cases q'
      obtain ⟨v, hv⟩ := heo
      exact ⟨v, by rw [hbe]; exact hv⟩
    · refine (ok b u q).stay (fun c v hc r => k c v ?_ r) (fun c r => by rw [upd_ne (nown c b r)]; exact r) fun c xs r => by rw [upd_ne (ntup c xs r)]; exact r
      rcases hc with rfl | hc
      · exact hbe
      · rintro rfl
        rcases he with z | z
        · exact nown c b hc z
        · rw [hc] at z; cases z; exact hb rfl
end

/-! ### kept unless tracked; of the frames at fs (the callers') the slots may change (an exception that passes writes there); of the records at ex (iterators) nothing is said -/
structure Un (fs ex : List Addr) (H H' : Hp) (h h' : Heap) : Prop where
  keep : ∀ b o, h.get? b = some o → H b = none → b ∉ fs → b ∉ ex → h'.get? b = some o
  slot : ∀ b o, h.get? b = some o → H b = none → b ∈ fs → b ∉ ex → ∃ sl, h'.get? b = some { o with slots := sl }
  free : ∀ b o, h.get? b = some o → H b = none → b ∉ ex → H' b = none
  there : ∀ b o, h.get? b = some o → b ∉ ex → ∃ o', h'.get? b = some o'
  tups : ∀ b xs, H b = some (.tup xs) → H' b = some (.tup xs)
  frzs : ∀ b o u, H b = some (.frz o u) → H' b = some (.frz o u)
  tbls : ∀ b ps, H b = some (.tbl ps) → ∃ more, H' b = some (.tbl (ps ++ more))
section
variable {fs fs' ex ex' : List Addr} {H H1 H2 : Hp} {h h1 h2 h' : Heap} {a x e : Addr} {o : HO}
theorem Un.any (u : Un fs ex H H1 h h1) {b : Addr} {ob : Obj} (q : h.get? b = some ob) (n : H b = none) (hx : b ∉ ex) : ∃ sl, h1.get? b = some { ob with slots := sl } := by
  by_cases hb : b ∈ fs
  · exact u.slot b ob q n hb hx
  · exact ⟨ob.slots, u.keep b ob q n hb hx⟩
theorem Un.trans (a : Un fs ex H H1 h h1) (b : Un fs ex H1 H2 h1 h2) : Un fs ex H H2 h h2 where
  keep := fun c ob q n hc hx => b.keep c ob (a.keep c ob q n hc hx) (a.free c ob q n hx) hc hx
  slot := fun c ob q n hc hx => by
    obtain ⟨sl, e1⟩ := a.slot c ob q n hc hx
    obtain ⟨sl', e2⟩ := b.slot c _ e1 (a.free c ob q n hx) hc hx
    exact ⟨sl', e2⟩
  free := fun c ob q n hx => by
    obtain ⟨o', e1⟩ := a.there c ob q hx
    exact b.free c o' e1 (a.free c ob q n hx) hx
  there := fun c ob q hx => by
    obtain ⟨o', e1⟩ := a.there c ob q hx
    exact b.there c o' e1 hx
  tups := fun c xs q => b.tups c xs (a.tups c xs q)
  frzs := fun c ob xs q => b.frzs c ob xs (a.frzs c ob xs q)
  tbls := fun c ps q => by
    obtain ⟨m1, e1⟩ := a.tbls c ps q
    obtain ⟨m2, e2⟩ := b.tbls c _ e1
    exact ⟨m1 ++ m2, by rw [e2, Array.append_assoc]⟩
theorem Un.kept (k : ∀ b u, h.get? b = some u → h'.get? b = some u) : Un fs ex H H h h' :=
  ⟨fun b ob q _ _ _ => k b ob q, fun b ob q _ _ _ => ⟨ob.slots, k b ob q⟩, fun _ _ _ n _ => n, fun b ob q _ => ⟨ob, k b ob q⟩, fun _ _ q => q, fun _ _ _ q => q, fun _ ps q => ⟨#[], by rw [q]; simp⟩⟩
theorem Un.refl : Un fs ex H H h h := Un.kept fun _ _ q => q
theorem Un.laid (k : ∀ b u, h.get? b = some u → h'.get? b = some u) (hp : h.objs.size ≤ a) (hn : H a = none) : Un fs ex H (upd H a o) h h' where
  keep := fun b u q _ _ _ => k b u q
  slot := fun b u q _ _ _ => ⟨u.slots, k b u q⟩
  free := fun b u q n _ => by rw [upd_ne (Nat.ne_of_lt (Nat.lt_of_lt_of_le (Heap.lt_size q) hp))]; exact n
  there := fun b u q _ => ⟨u, k b u q⟩
  tups := fun b xs q => by rw [upd_ne (ne_of_none q hn)]; exact q
  frzs := fun b u xs q => by rw [upd_ne (ne_of_none q hn)]; exact q
  tbls := fun b ps q => ⟨#[], by rw [upd_ne (ne_of_none q hn), q]; simp⟩
theorem Un.write (mu : Mut (H x)) (he : e = x ∨ H e = some (.own x)) (k : ∀ b u, b ≠ e → h.get? b = some u → h'.get? b = some u) (heo : ∃ u, h'.get? e = some u) : Un fs ex H (upd H x o) h h' := by
  have hx : ∀ b, H b = none → b ≠ x := fun b n z => by subst z; rw [n] at mu; exact mu
  have hb : ∀ b, H b = none → b ≠ e := fun b n z => by
    subst z
    rcases he with r | r
    · exact hx b n r
    · rw [n] at r; cases r
  have hm : ∀ b u, H b = some u → ¬ Mut (some u) → b ≠ x := fun b u q nm z => by subst z; rw [q] at mu; exact nm mu
  refine ⟨fun b u q n _ _ => k b u (hb b n) q, fun b u q n _ _ => ⟨u.slots, k b u (hb b n) q⟩, fun b u q n _ => by rw [upd_ne (hx b n)]; exact n, fun b u q _ => ?_,
    fun b xs q => by rw [upd_ne (hm b _ q fun z => z)]; exact q, fun b u xs q => by rw [upd_ne (hm b _ q fun z => z)]; exact q, fun b ps q => ⟨#[], by rw [upd_ne (hm b _ q fun z => z), q]; simp⟩⟩
  by_cases hbe : b = e
  · subst hbe; exact heo
  · exact ⟨u, k b u hbe q⟩
theorem Un.mono (u : Un fs ex H H1 h h1) (hs : ∀ b ∈ fs, b ∈ fs') (hx : ∀ b ∈ ex, b ∈ ex') : Un fs' ex' H H1 h h1 :=
  ⟨fun b ob q n hb he => u.keep b ob q n (fun z => hb (hs b z)) fun z => he (hx b z), fun _ _ q n _ he => u.any q n fun z => he (hx _ z), fun b ob q n he => u.free b ob q n fun z => he (hx b z), fun b ob q he => u.there b ob q fun z => he (hx b z), u.tups, u.frzs, u.tbls⟩
end

/-! ### the heap without what is tracked -/
def trk (h : Heap) (H : Hp) : List Addr := (List.range h.objs.size).filter fun a => (H a).isSome
def hidT (h : Heap) (H : Hp) : Heap := PySem.W.hideAll h (trk h H)
theorem hidT_size (h : Heap) (H : Hp) : (hidT h H).objs.size = h.objs.size := PySem.W.hideAll_size _ _
theorem hidT_get {h : Heap} {H : Hp} {b : Addr} {o : Obj} (e : h.get? b = some o) (n : H b = none) : (hidT h H).get? b = some o :=
  PySem.W.hideAll_get _ e fun hm => by
    have q : (H b).isSome = true := (List.mem_filter.mp hm).2
    rw [n] at q; simp at q
theorem of_hidT {h : Heap} {H : Hp} {b : Addr} {o : Obj} (e : (hidT h H).get? b = some o) : h.get? b = some o ∧ H b = none := by
  have e' : h.get? b = some o := PySem.W.of_hideAll (trk h H) e
  refine ⟨e', ?_⟩
  cases q : H b with
  | none => rfl
  | some x =>
    have hm : b ∈ trk h H := List.mem_filter.mpr ⟨List.mem_range.mpr (Heap.lt_size e'), by simp [q]⟩
    have z : (hidT h H).get? b = none := PySem.W.hideAll_none (trk h H) hm
    rw [z] at e; cases e

/-! ### OpenK's ledger, filled with every new object but one -/
def allNews (g h : Heap) (L : Addr) : List (Addr × Obj) := (List.range h.objs.size).filterMap fun a => if a = L ∨ (g.get? a).isSome = true then none else (h.get? a).map fun o => (a, o)
theorem mem_allNews {g h : Heap} {L a : Addr} {o : Obj} (h1 : a ≠ L) (h2 : g.get? a = none) (h3 : h.get? a = some o) : (a, o) ∈ allNews g h L :=
  List.mem_filterMap.mpr ⟨a, List.mem_range.mpr (Heap.lt_size h3), by simp [h1, h2, h3]⟩
theorem of_mem_allNews {g h : Heap} {L : Addr} {p : Addr × Obj} (hp : p ∈ allNews g h L) : p.1 ≠ L ∧ g.get? p.1 = none ∧ h.get? p.1 = some p.2 := by
  obtain ⟨b, _, e⟩ := List.mem_filterMap.mp hp
  split at e
  · cases e
  · rename_i hn
    cases q : h.get? b with
    | none => rw [q] at e; simp at e
    | some u =>
      rw [q] at e
      simp only [Option.map_some, Option.some.injEq] at e
      subst e
      refine ⟨fun z => hn (.inl z), ?_, q⟩
      show g.get? b = none
      cases r : g.get? b with
      | none => rfl
      | some v => exact (hn (.inr (by simp [r]))).elim
def rest (g h : Heap) (L d : Addr) : List (Addr × Obj) := (allNews g h L).filter fun p => decide (p.1 ≠ d)
theorem rest_ne {g h : Heap} {L d : Addr} : ∀ p ∈ rest g h L d, p.1 ≠ d := fun p hp => of_decide_eq_true (List.mem_filter.mp hp).2
theorem mem_rest {g h : Heap} {L d a : Addr} {o : Obj} (h1 : a ≠ L) (h2 : g.get? a = none) (h3 : h.get? a = some o) (h4 : a ≠ d) : (a, o) ∈ rest g h L d :=
  List.mem_filter.mpr ⟨mem_allNews h1 h2 h3, decide_eq_true h4⟩
theorem news_all {g h : Heap} {L : Addr} : News g L h (allNews g h L) := fun p hp => let ⟨a, b, c⟩ := of_mem_allNews hp; ⟨c, a, b⟩
theorem news_at {g h : Heap} {L d : Addr} {o : Obj} (h1 : d ≠ L) (h2 : g.get? d = none) (h3 : h.get? d = some o) : News g L h ((d, o) :: rest g h L d) := fun p hp => by
  rcases List.mem_cons.mp hp with rfl | hp
  · exact ⟨h3, h1, h2⟩
  · exact news_all p (List.mem_filter.mp hp).1
/-- behind a rule that changed d alone: all else but the frame is kept -/
theorem kept_of_news {g h h' : Heap} {L d : Addr} {m : Str → Option Value} (k : ∀ b o, g.get? b = some o → h.get? b = some o) (F : Fr g L h' m) (N : News g L h' (rest g h L d)) :
    ∀ b o, b ≠ L → b ≠ d → h.get? b = some o → h'.get? b = some o := fun b o h1 h2 e => by
  cases q : g.get? b with
  | some u =>
    have := k b u q
    rw [e] at this; cases this
    exact F.keep b _ q
  | none => exact (N (b, o) (mem_rest h1 q e h2)).1
end L2

namespace L2
open PySem PySem.Spec PyProof.Rows

/-- the module's facts, over the base: the heap at the law's entry without what is tracked there -/
structure Mod (K : PySem.W.Frag) (mg : Str → Option Value) (base : Heap) : Prop where
  kin : K.In base
  glob : base.Ns mainGlobals mg
  blt : ∃ mb, base.Ns builtinsNs mb ∧ ∀ x : Str, x ≠ "__name__" → mb x = bootBuiltins x
  nolimit : base.NoLimit

/-- the context: a def's body (or a comprehension's block) running. base: fixed through the whole law; s₀, H₀: the entry; outer: the frames whose slots others may change (a def's callers); stack: all frames that run;
   ex: iterators that were made ahead of the entry and are walked here (a comprehension's); fn: the names whose cells were made at the entry (a def: all; a comprehension's block: its own); calm: not within an except suite; pn: pins that every state bears; xe: what is wanted of an exception that leaves the code -/
structure Cx where
  prog : Program
  w : World
  K : PySem.W.Frag
  mg : Str → Option Value
  base : Heap
  A : Around
  N : List Str
  s₀ : Shared
  H₀ : Hp
  env : Env
  outer : List Env
  stack : List Env
  ex : List Addr
  fn : Str → Bool
  calm : Bool
  pn : List (Addr × Obj)
  xe : Value → Shared → Prop
/-- the callers' frames -/
def frs (l : List Env) : List Addr := l.filterMap (·.frame)
abbrev Cx.fs (X : Cx) : List Addr := frs X.outer

def Vis (sc : Scope) (x : Str) : Prop := sc.names.lookup x = some .local ∨ sc.names.lookup x = some .cell ∨ sc.names.lookup x = some .free
def Loc (sc : Scope) (x : Str) : Prop := sc.names.lookup x = some .local ∨ sc.names.lookup x = some .cell
def Look (env : Env) (h : Heap) (m : Str → Option Value) (x : Str) (u : Value) : Prop :=
  (env.kindOf x = some .local ∧ m x = some u) ∨ ((env.kindOf x = some .cell ∨ env.kindOf x = some .free) ∧ ∃ c, env.cells.lookup x = some c ∧ h.IsCell c (some u))

structure Cx.Ok (X : Cx) : Prop where
  mod : Mod X.K X.mg X.base
  kind : X.env.scope.kind = .function
  glob : X.env.globals = mainGlobals
  blt : X.env.builtins = builtinsNs
  above : X.s₀.heap.objs.size ≤ X.env.locals
  inj : ∀ x y c, X.env.cells.lookup x = some c → X.env.cells.lookup y = some c → x = y
  has : ∀ x, (X.env.kindOf x = some .cell ∨ X.env.kindOf x = some .free) → ∃ c, X.env.cells.lookup x = some c
  cab : ∀ x c, X.fn x = true → X.env.cells.lookup x = some c → X.s₀.heap.objs.size ≤ c
  hd : X.calm = true → X.A.handled = none
  frames : X.A.frames = some X.stack
  stk : X.stack = X.outer ∨ (X.stack = X.env :: X.outer ∧ X.env.frame = some X.env.locals)
  exf : ∀ b ∈ X.ex, b ≠ X.env.locals ∧ ∀ x c, X.env.cells.lookup x = some c → c ≠ b
  bs : ∀ b o, X.base.get? b = some o → X.s₀.heap.get? b = some o ∧ X.H₀ b = none
  bsz : X.base.objs.size ≤ X.s₀.heap.objs.size
  noex : ∀ b o, X.base.get? b = some o → b ∉ X.ex
  exfs : ∀ b ∈ X.ex, b ∉ X.fs
  funs : X.s₀.heap.FunFrames X.base X.outer
  frf : ∀ b ∈ X.fs, X.H₀ b = none

structure Inv (X : Cx) (pins : List (Addr × Obj)) (σ : List (Option V)) (H : Hp) (s : Shared) : Prop where
  ok : X.Ok
  os : s.os = X.s₀.os
  bare : AllBare s.gens
  base : Un X.fs X.ex X.H₀ H X.s₀.heap s.heap
  loc : ∃ m, s.heap.Ns X.env.locals m ∧ ∀ (i : Nat) (x : Str) (v : V), X.N[i]? = some x → σ[i]? = some (some v) → Vis X.env.scope x → ∃ u, RelV v u ∧ Look X.env s.heap m x u
  cell : ∀ x c, X.env.cells.lookup x = some c → ∃ v, s.heap.IsCell c v
  free : H X.env.locals = none
  freeC : ∀ x c, X.env.cells.lookup x = some c → H c = none
  pin : ∀ p ∈ X.pn ++ pins, s.heap.get? p.1 = some p.2 ∧ H p.1 = none ∧ p.1 ≠ X.env.locals ∧ p.1 ∉ X.fs ∧ ∀ v, p.2.data ≠ .cell v
  hok : HOk X.prog X.w H s.heap
  len : σ.length = X.N.length

section
variable {X : Cx} {pins : List (Addr × Obj)} {σ : List (Option V)} {H H' : Hp} {s : Shared} {h' : Heap}

theorem Cx.Ok.nofr (ok : X.Ok) {b : Addr} {o : Obj} (e : X.base.get? b = some o) : b ∉ X.fs := fun hb => by
  have := (ok.funs.mem hb).1
  rw [e] at this; cases this
theorem Inv.bs (I : Inv X pins σ H s) : ∀ b o, X.base.get? b = some o → s.heap.get? b = some o ∧ H b = none := fun b o e =>
  ⟨I.base.keep b o (I.ok.bs b o e).1 (I.ok.bs b o e).2 (I.ok.nofr e) (I.ok.noex b o e), I.base.free b o (I.ok.bs b o e).1 (I.ok.bs b o e).2 (I.ok.noex b o e)⟩
theorem Inv.bk (I : Inv X pins σ H s) : ∀ b o, X.base.get? b = some o → s.heap.get? b = some o := fun b o e => (I.bs b o e).1
theorem Inv.mod (I : Inv X pins σ H s) : Mod X.K X.mg X.base := I.ok.mod
theorem Inv.kIn (I : Inv X pins σ H s) : X.K.In s.heap := I.ok.mod.kin.keeps I.bk
theorem Inv.nolimit (I : Inv X pins σ H s) : s.heap.NoLimit := I.ok.mod.nolimit.keeps I.bk
/-- the frame over the base: for OpenK's rules (K.In X.base is I.mod.kin) -/
theorem Inv.fr (I : Inv X pins σ H s) : ∃ m, Fr X.base X.env.locals s.heap m :=
  let ⟨m, hn, _⟩ := I.loc
  ⟨m, hn, I.bk, Nat.le_trans I.ok.bsz I.ok.above⟩
theorem Inv.lt (I : Inv X pins σ H s) : X.env.locals < s.heap.objs.size := let ⟨_, hn, _⟩ := I.loc; hn.lt
theorem Inv.sz (I : Inv X pins σ H s) : X.s₀.heap.objs.size ≤ s.heap.objs.size := Nat.le_trans I.ok.above (Nat.le_of_lt I.lt)
theorem Inv.nofs (I : Inv X pins σ H s) {a : Addr} (h : s.heap.objs.size ≤ a) : a ∉ X.fs := fun hb => by
  obtain ⟨_, o, ho, _⟩ := I.ok.funs.mem hb
  exact absurd (Nat.lt_of_lt_of_le (Heap.lt_size ho) (Nat.le_trans I.sz h)) (Nat.lt_irrefl _)
theorem Inv.cne (I : Inv X pins σ H s) : ∀ x c, X.env.cells.lookup x = some c → c ≠ X.env.locals := fun x c e z => by
  obtain ⟨v, o, ho, hd⟩ := I.cell x c e
  obtain ⟨m, ⟨o', es, ep, ho', hd', _⟩, _⟩ := I.loc
  rw [z, ho'] at ho; cases ho; rw [hd'] at hd; cases hd
theorem Inv.funs (I : Inv X pins σ H s) : s.heap.FunFrames X.base X.outer := by
  have all : ∀ (l : List Env), (∀ b ∈ frs l, b ∈ X.fs) → X.s₀.heap.FunFrames X.base l → s.heap.FunFrames X.base l := by
    intro l
    induction l with
    | nil => intro _ _; trivial
    | cons env r ih =>
      intro hs hl
      obtain ⟨hk, ⟨L, o, hf, hn, ho, hd⟩, hr⟩ := hl
      have hL : L ∈ X.fs := hs L (by unfold frs; rw [List.filterMap_cons, hf]; exact List.mem_cons_self)
      obtain ⟨sl, e⟩ := I.base.slot L o ho (I.ok.frf L hL) hL fun z => I.ok.exfs L z hL
      exact ⟨hk, ⟨L, _, hf, hn, e, hd⟩, ih (fun b hb => hs b (by unfold frs; rw [List.filterMap_cons, hf]; exact List.mem_cons_of_mem _ hb)) hr⟩
  exact all X.outer (fun _ hb => hb) I.ok.funs

/-- the frames that run, for a call -/
theorem Inv.stack (I : Inv X pins σ H s) : s.heap.FunFrames X.base X.stack := by
  rcases I.ok.stk with e | ⟨e, hf⟩
  · rw [e]; exact I.funs
  · rw [e]
    obtain ⟨m, hn, _⟩ := I.loc
    refine .cons (by rw [I.ok.kind]; decide) hf hn ?_ I.funs
    exact Heap.get?_none_of_le (Nat.le_trans I.ok.bsz I.ok.above)
theorem Inv.stkSub (I : Inv X pins σ H s) : ∀ b ∈ frs X.stack, b ∈ X.env.locals :: X.fs := fun b hb => by
  rcases I.ok.stk with e | ⟨e, hf⟩
  · rw [e] at hb; exact List.mem_cons_of_mem _ hb
  · rw [e] at hb
    unfold frs at hb
    rw [List.filterMap_cons, hf] at hb
    exact hb
theorem Inv.stkFree (I : Inv X pins σ H s) : ∀ b ∈ frs X.stack, H b = none := fun b hb => by
  rcases List.mem_cons.mp (I.stkSub b hb) with e | hb
  · rw [e]; exact I.free
  · obtain ⟨_, o, ho, _⟩ := I.ok.funs.mem hb
    exact I.base.free b o ho (I.ok.frf b hb) fun z => I.ok.exfs b z hb

/-- THE STEP: the untracked objects but the frame and the records at ch are kept (the callers' frames up to slots), the frame's map is kept, the new abstract heap is held -/
theorem Inv.step {g' : Array GenState} {t' : Nat} {d' : Drawn} {ch : List Addr} (I : Inv X pins σ H s)
    (hch : ∀ b ∈ ch, (b ∈ X.ex ∨ X.s₀.heap.objs.size ≤ b) ∧ b ≠ X.env.locals ∧ (∀ x c, X.env.cells.lookup x = some c → c ≠ b) ∧ ∀ p ∈ X.pn ++ pins, p.1 ≠ b)
    (keep : ∀ b o, b ≠ X.env.locals → b ∉ X.fs → b ∉ ch → s.heap.get? b = some o → H b = none → h'.get? b = some o)
    (slot : ∀ b o, b ≠ X.env.locals → b ∈ X.fs → b ∉ ch → s.heap.get? b = some o → H b = none → ∃ sl, h'.get? b = some { o with slots := sl }) (free : ∀ b o, b ∉ ch → s.heap.get? b = some o → H b = none → H' b = none)
    (there : ∀ b o, b ∉ ch → s.heap.get? b = some o → ∃ o', h'.get? b = some o')
    (tups : ∀ b xs, H b = some (.tup xs) → H' b = some (.tup xs)) (frzs : ∀ b o u, H b = some (.frz o u) → H' b = some (.frz o u)) (tbls : ∀ b ps, H b = some (.tbl ps) → ∃ more, H' b = some (.tbl (ps ++ more)))
    (ns : ∀ m, s.heap.Ns X.env.locals m → h'.Ns X.env.locals m) (hok : HOk X.prog X.w H' h') (hg : AllBare g') :
    Inv X pins σ H' { s with heap := h', gens := g', drawn := d', toks := t' } := by
  have neL : ∀ b o, X.s₀.heap.get? b = some o → b ≠ X.env.locals := fun b o e => Nat.ne_of_lt (Nat.lt_of_lt_of_le (Heap.lt_size e) I.ok.above)
  have neC : ∀ b o, X.s₀.heap.get? b = some o → b ∉ X.ex → b ∉ ch := fun b o e hx hb => by
    rcases (hch b hb).1 with z | z
    · exact hx z
    · exact absurd (Nat.lt_of_lt_of_le (Heap.lt_size e) z) (Nat.lt_irrefl _)
  have cellK : ∀ x c, X.env.cells.lookup x = some c → ∀ v, s.heap.IsCell c v → h'.IsCell c v := fun x c e v ⟨o, ho, hd⟩ => by
    have nch : c ∉ ch := fun z => (hch c z).2.2.1 x c e rfl
    by_cases hc : c ∈ X.fs
    · obtain ⟨sl, q⟩ := slot c o (I.cne x c e) hc nch ho (I.freeC x c e)
      exact ⟨_, q, hd⟩
    · exact ⟨o, keep c o (I.cne x c e) hc nch ho (I.freeC x c e), hd⟩
  refine ⟨I.ok, I.os, hg, ⟨fun b o e n hb hx => ?_, fun b o e n hb hx => ?_, fun b o e n hx => ?_, fun b o e hx => ?_, fun b xs e => tups b xs (I.base.tups b xs e), fun b o xs e => frzs b o xs (I.base.frzs b o xs e), fun b ps e => ?_⟩, ?_, fun x c e => ?_, ?_, fun x c e => ?_, fun p hp => ?_, hok, I.len⟩
  · exact keep b o (neL b o e) hb (neC b o e hx) (I.base.keep b o e n hb hx) (I.base.free b o e n hx)
  · obtain ⟨sl, e1⟩ := I.base.slot b o e n hb hx
    obtain ⟨sl', e2⟩ := slot b _ (neL b o e) hb (neC b o e hx) e1 (I.base.free b o e n hx)
    exact ⟨sl', e2⟩
  · obtain ⟨o', e1⟩ := I.base.there b o e hx
    exact free b o' (neC b o e hx) e1 (I.base.free b o e n hx)
  · obtain ⟨o', e1⟩ := I.base.there b o e hx
    exact there b o' (neC b o e hx) e1
  · obtain ⟨m1, e1⟩ := I.base.tbls b ps e
    obtain ⟨m2, e2⟩ := tbls b _ e1
    exact ⟨m1 ++ m2, by rw [e2, Array.append_assoc]⟩
  · obtain ⟨m, hn, hl⟩ := I.loc
    refine ⟨m, ns m hn, fun i x v e1 e2 e3 => ?_⟩
    obtain ⟨u, r, l⟩ := hl i x v e1 e2 e3
    refine ⟨u, r, ?_⟩
    rcases l with l | ⟨k, c, e, z⟩
    · exact .inl l
    · exact .inr ⟨k, c, e, cellK x c e _ z⟩
  · obtain ⟨v, z⟩ := I.cell x c e
    exact ⟨v, cellK x c e v z⟩
  · obtain ⟨m, ⟨o, _, _, ho, _⟩, _⟩ := I.loc
    exact free _ o (fun z => (hch _ z).2.1 rfl) ho I.free
  · obtain ⟨v, o, ho, hd⟩ := I.cell x c e
    exact free c o (fun z => (hch c z).2.2.1 x c e rfl) ho (I.freeC x c e)
  · obtain ⟨e, n, ne, nf, d⟩ := I.pin p hp
    have nch : p.1 ∉ ch := fun z => (hch p.1 z).2.2.2 p hp rfl
    exact ⟨keep p.1 p.2 ne nf nch e n, free p.1 p.2 nch e n, ne, nf, d⟩
/-- .. where the frame's own object is kept too -/
theorem Inv.un {t' : Nat} (I : Inv X pins σ H s) (u : Un X.fs [] H H' s.heap h') (hok : HOk X.prog X.w H' h') : Inv X pins σ H' { s with heap := h', toks := t' } := by
  obtain ⟨m, ⟨o, es, ep, ho, r⟩, _⟩ := id I.loc
  obtain ⟨sl, hL⟩ := u.any ho I.free (by simp)
  exact I.step (g' := s.gens) (d' := s.drawn) (ch := []) (fun _ z => nomatch z) (fun b o _ hb _ e n => u.keep b o e n hb (by simp)) (fun b o _ hb _ e n => u.slot b o e n hb (by simp)) (fun b o _ e n => u.free b o e n (by simp)) (fun b o _ e => u.there b o e (by simp)) u.tups u.frzs u.tbls (fun m' hm => by
    obtain ⟨o', es', ep', ho', r'⟩ := hm
    rw [ho] at ho'; cases ho'
    exact ⟨_, es', ep', hL, r'⟩) hok I.bare
/-- behind a call (or a comprehension's block): the slots of this frame may have changed too, the records at ch may have turned -/
theorem Inv.call {g' : Array GenState} {t' : Nat} {d' : Drawn} {ch : List Addr} (I : Inv X pins σ H s) (u : Un (frs X.stack) ch H H' s.heap h') (hok : HOk X.prog X.w H' h') (hg : AllBare g')
    (hch : ∀ b ∈ ch, (b ∈ X.ex ∨ X.s₀.heap.objs.size ≤ b) ∧ b ≠ X.env.locals ∧ (∀ x c, X.env.cells.lookup x = some c → c ≠ b) ∧ ∀ p ∈ X.pn ++ pins, p.1 ≠ b) :
    Inv X pins σ H' { s with heap := h', gens := g', drawn := d', toks := t' } := by
  obtain ⟨m, ⟨o, es, ep, ho, r⟩, _⟩ := id I.loc
  obtain ⟨sl, hL⟩ := u.any ho I.free fun z => (hch _ z).2.1 rfl
  exact I.step (ch := ch) hch (fun b o hL hb hc e n => u.keep b o e n (fun z => (List.mem_cons.mp (I.stkSub b z)).elim hL hb) hc) (fun b o _ _ hc e n => u.any e n hc) (fun b o hc e n => u.free b o e n hc) (fun b o hc e => u.there b o e hc) u.tups u.frzs u.tbls (fun m' hm => by
    obtain ⟨o', es', ep', ho', r'⟩ := hm
    rw [ho] at ho'; cases ho'
    exact ⟨_, es', ep', hL, r'⟩) hok hg
/-- an untracked record of ours (an iterator) has turned -/
theorem Inv.turned {t' : Nat} {it : Addr} (I : Inv X pins σ H s) (k : ∀ b o, b ≠ it → s.heap.get? b = some o → h'.get? b = some o) (hn : H it = none) (hL : it ≠ X.env.locals)
    (h1 : it ∈ X.ex ∨ X.s₀.heap.objs.size ≤ it) (h2 : ∀ x c, X.env.cells.lookup x = some c → c ≠ it) (h3 : ∀ p ∈ X.pn ++ pins, p.1 ≠ it) : Inv X pins σ H { s with heap := h', toks := t' } := by
  have nit : ∀ b u, H b = some u → b ≠ it := fun b u e z => by rw [z, hn] at e; cases e
  refine I.step (g' := s.gens) (d' := s.drawn) (ch := [it]) (fun b hb => ?_) (fun b o _ _ hc e _ => k b o (fun z => hc (by simp [z])) e) (fun b o _ _ hc e _ => ⟨o.slots, k b o (fun z => hc (by simp [z])) e⟩) (fun _ _ _ _ n => n)
    (fun b o hc e => ⟨o, k b o (fun z => hc (by simp [z])) e⟩) (fun _ _ e => e) (fun _ _ _ e => e) (fun b ps e => ⟨#[], by rw [e]; simp⟩) (fun m hm => ?_) (fun b u e => ?_) I.bare
  · have e : b = it := by simpa using hb
    subst e
    exact ⟨h1, hL, h2, h3⟩
  · obtain ⟨o, es, ep, ho, r⟩ := hm
    exact ⟨o, es, ep, k _ o (Ne.symm hL) ho, r⟩
  · refine (I.hok b u e).stay (fun c v hc q => k c v ?_ q) (fun _ q => q) fun _ _ q => q
    rcases hc with z | z
    · rw [z]; exact nit b u e
    · exact nit c _ z
theorem Inv.tok (I : Inv X pins σ H s) (t : Nat) : Inv X pins σ H { s with toks := t } := I.un (h' := s.heap) (t' := t) Un.refl I.hok
/-- all objects kept -/
theorem Inv.kept {t' : Nat} (I : Inv X pins σ H s) (k : ∀ b u, s.heap.get? b = some u → h'.get? b = some u) : Inv X pins σ H { s with heap := h', toks := t' } := I.un (Un.kept k) (I.hok.kept k)
/-- a new object laid and tracked -/
theorem Inv.laid {a : Addr} {o : HO} {t' : Nat} (I : Inv X pins σ H s) (k : ∀ b u, s.heap.get? b = some u → h'.get? b = some u) (hp : s.heap.objs.size ≤ a) (new : ObjOk X.prog X.w (upd H a o) h' a o) :
    Inv X pins σ (upd H a o) { s with heap := h', toks := t' } := I.un (Un.laid k hp (I.hok.fresh hp)) (I.hok.laid k hp new)
/-- an object written -/
theorem Inv.write {x e : Addr} {o : HO} {t' : Nat} (I : Inv X pins σ H s) (mu : Mut (H x)) (he : e = x ∨ H e = some (.own x)) (k : ∀ b u, b ≠ e → s.heap.get? b = some u → h'.get? b = some u) (heo : ∃ u, h'.get? e = some u)
    (new : ObjOk X.prog X.w (upd H x o) h' x o) : Inv X pins σ (upd H x o) { s with heap := h', toks := t' } := I.un (Un.write mu he k heo) (I.hok.write mu he k heo new)
/-- forgetting slots, pins -/
theorem Inv.weak {σ' : List (Option V)} (I : Inv X pins σ H s) (hl : σ'.length = σ.length) (w : ∀ (i : Nat) v, σ'[i]? = some (some v) → σ[i]? = some (some v)) : Inv X pins σ' H s :=
  ⟨I.ok, I.os, I.bare, I.base, let ⟨m, hn, hl'⟩ := I.loc; ⟨m, hn, fun i x v e1 e2 e3 => hl' i x v e1 (w i v e2) e3⟩, I.cell, I.free, I.freeC, I.pin, I.hok, hl.trans I.len⟩
theorem Inv.pins_of {pins' : List (Addr × Obj)} (I : Inv X pins σ H s) (h : ∀ p ∈ pins', s.heap.get? p.1 = some p.2 ∧ H p.1 = none ∧ p.1 ≠ X.env.locals ∧ p.1 ∉ X.fs ∧ ∀ v, p.2.data ≠ .cell v) : Inv X pins' σ H s :=
  ⟨I.ok, I.os, I.bare, I.base, I.loc, I.cell, I.free, I.freeC, fun p hp => (List.mem_append.mp hp).elim (fun z => I.pin p (List.mem_append_left _ z)) (h p), I.hok, I.len⟩

theorem nodup_ix {N : List Str} (hN : N.Nodup) {i j : Nat} {x : Str} (a : N[i]? = some x) (b : N[j]? = some x) : i = j := by
  obtain ⟨h1, e1⟩ := List.getElem?_eq_some_iff.mp a
  obtain ⟨h2, e2⟩ := List.getElem?_eq_some_iff.mp b
  exact (List.getElem_inj hN).mp (e1.trans e2.symm)

/-- a name is stored; what changed -/
theorem store_ok2 {M : Model} {A : Around} {E : Value → Shared → Prop} {i : Nat} {x : Str} {v : V} {u : Value} {Q : Unit → Shared → Prop} (I : Inv X pins σ H s) (hN : X.N.Nodup) (hi : X.N[i]? = some x) (hx : Loc X.env.scope x) (r : RelV v u)
    (h : ∀ s', Inv X pins (σ.set i (some v)) H s' → (∃ a, Heap.SameBut a s.heap s'.heap ∧ (a = X.env.locals ∨ X.env.cells.lookup x = some a)) → Q () s') (hf : X.fn x = true ∨ X.env.scope.names.lookup x = some .local := by first | exact .inl rfl | exact .inr rfl | assumption) : wpAny M A (storeName X.env x u) Q E s := by
  obtain ⟨m, hn, hl⟩ := id I.loc
  have hcls : (X.env.scope.kind == .class || (X.env.scope.kind == .module && X.env.locals != X.env.globals)) = false := by rw [I.ok.kind]; rfl
  have hiσ : i < σ.length := by rw [I.len]; exact (List.getElem?_eq_some_iff.mp hi).1
  have cne := I.cne
  have tracked : ∀ {a : Addr} {h' : Heap}, (∃ o, s.heap.get? a = some o ∧ H a = none) → Heap.SameBut a s.heap h' → HOk X.prog X.w H h' := fun {a h'} ha hs b ob e => by
    obtain ⟨_, _, hfree⟩ := ha
    refine (I.hok b ob e).stay (fun c w' hc q => (hs.2 c ?_).trans q) (fun _ q => q) fun _ _ q => q
    rintro rfl
    rcases hc with rfl | hc
    · rw [hfree] at e; cases e
    · rw [hfree] at hc; cases hc
  rcases hx with hk | hk
  · refine wpAny_storeName_local hk hn (fun h' hn' hs => ?_) hcls
    obtain ⟨oL, _, _, hoL, _⟩ := id hn
    refine h _ ⟨I.ok, I.os, I.bare, ⟨fun b o e n hb hx => ?_, fun b o e n hb hx => ?_, I.base.free, fun b o e hx => ?_, I.base.tups, I.base.frzs, I.base.tbls⟩, ⟨_, hn', fun j y v' e1 e2 e3 => ?_⟩, fun y c e => ?_, I.free, I.freeC, fun p hp => ?_, tracked ⟨oL, hoL, I.free⟩ hs, by simpa using I.len⟩ ⟨_, hs, .inl rfl⟩
    · exact (hs.2 b (Nat.ne_of_lt (Nat.lt_of_lt_of_le (Heap.lt_size e) I.ok.above))).trans (I.base.keep b o e n hb hx)
    · obtain ⟨sl, e1⟩ := I.base.slot b o e n hb hx
      exact ⟨sl, (hs.2 b (Nat.ne_of_lt (Nat.lt_of_lt_of_le (Heap.lt_size e) I.ok.above))).trans e1⟩
    · obtain ⟨o', e1⟩ := I.base.there b o e hx
      exact ⟨o', (hs.2 b (Nat.ne_of_lt (Nat.lt_of_lt_of_le (Heap.lt_size e) I.ok.above))).trans e1⟩
    · by_cases hj : j = i
      · subst hj
        rw [hi] at e1; cases e1
        rw [List.getElem?_set_self hiσ] at e2
        cases e2
        exact ⟨u, r, .inl ⟨hk, by simp⟩⟩
      · rw [List.getElem?_set_ne (Ne.symm hj)] at e2
        obtain ⟨u', r', q⟩ := hl j y v' e1 e2 e3
        refine ⟨u', r', ?_⟩
        rcases q with ⟨k, e⟩ | ⟨k, c, e, z⟩
        · refine .inl ⟨k, ?_⟩
          have : y ≠ x := fun e => hj (nodup_ix hN e1 (e ▸ hi))
          simp [this, e]
        · exact .inr ⟨k, c, e, z.sameBut hs (cne y c e)⟩
    · obtain ⟨w', z⟩ := I.cell y c e
      exact ⟨w', z.sameBut hs (cne y c e)⟩
    · obtain ⟨e, n, ne, nf, d⟩ := I.pin p hp
      exact ⟨(hs.2 p.1 ne).trans e, n, ne, nf, d⟩
  · have hfn : X.fn x = true := by
      rcases hf with z | z
      · exact z
      · rw [z] at hk; cases hk
    obtain ⟨c, hc⟩ := I.ok.has x (.inl hk)
    obtain ⟨w', z⟩ := I.cell x c hc
    refine wpAny_storeName_cell I.ok.kind hk hc z (fun h' hc' hs => ?_)
    obtain ⟨oc, hoc, hocd⟩ := id z
    refine h { s with heap := h' } ⟨I.ok, I.os, I.bare, ⟨fun b o e n hb hx => ?_, fun b o e n hb hx => ?_, I.base.free, fun b o e hx => ?_, I.base.tups, I.base.frzs, I.base.tbls⟩, ⟨m, hn.sameBut hs (Ne.symm (cne x c hc)), fun j y v' e1 e2 e3 => ?_⟩, fun y c' e => ?_, I.free, I.freeC, fun p hp => ?_, tracked ⟨oc, hoc, I.freeC x c hc⟩ hs, by simpa using I.len⟩ ⟨c, hs, .inr hc⟩
    · exact (hs.2 b (Nat.ne_of_lt (Nat.lt_of_lt_of_le (Heap.lt_size e) (I.ok.cab x c hfn hc)))).trans (I.base.keep b o e n hb hx)
    · obtain ⟨sl, e1⟩ := I.base.slot b o e n hb hx
      exact ⟨sl, (hs.2 b (Nat.ne_of_lt (Nat.lt_of_lt_of_le (Heap.lt_size e) (I.ok.cab x c hfn hc)))).trans e1⟩
    · obtain ⟨o', e1⟩ := I.base.there b o e hx
      exact ⟨o', (hs.2 b (Nat.ne_of_lt (Nat.lt_of_lt_of_le (Heap.lt_size e) (I.ok.cab x c hfn hc)))).trans e1⟩
    · by_cases hj : j = i
      · subst hj
        rw [hi] at e1; cases e1
        rw [List.getElem?_set_self hiσ] at e2
        cases e2
        exact ⟨u, r, .inr ⟨.inl hk, c, hc, hc'⟩⟩
      · rw [List.getElem?_set_ne (Ne.symm hj)] at e2
        obtain ⟨u', r', q⟩ := hl j y v' e1 e2 e3
        refine ⟨u', r', ?_⟩
        rcases q with q | ⟨k, c', e, z'⟩
        · exact .inl q
        · refine .inr ⟨k, c', e, z'.sameBut hs ?_⟩
          rintro rfl
          exact hj (nodup_ix hN e1 (I.ok.inj _ _ _ e hc ▸ hi))
    · by_cases hcc : c' = c
      · subst hcc; exact ⟨_, hc'⟩
      · obtain ⟨w2, z2⟩ := I.cell y c' e
        exact ⟨w2, z2.sameBut hs hcc⟩
    · obtain ⟨e, n, ne, nf, d⟩ := I.pin p hp
      refine ⟨(hs.2 p.1 ?_).trans e, n, ne, nf, d⟩
      intro q
      rw [q, hoc] at e
      have q' : oc = p.2 := Option.some.inj e
      exact d w' (by rw [← q']; exact hocd)
theorem store_ok {M : Model} {A : Around} {E : Value → Shared → Prop} {i : Nat} {x : Str} {v : V} {u : Value} {Q : Unit → Shared → Prop} (I : Inv X pins σ H s) (hN : X.N.Nodup) (hi : X.N[i]? = some x) (hx : Loc X.env.scope x) (r : RelV v u)
    (h : ∀ s', Inv X pins (σ.set i (some v)) H s' → Q () s') (hf : X.fn x = true ∨ X.env.scope.names.lookup x = some .local := by first | exact .inl rfl | exact .inr rfl | assumption) : wpAny M A (storeName X.env x u) Q E s :=
  store_ok2 I hN hi hx r (fun s' I' _ => h s' I') hf
/-- behind a call or a block, the state as it is -/
theorem Inv.call' {s' : Shared} {ch : List Addr} (I : Inv X pins σ H s) (ho : s'.os = s.os) (u : Un (frs X.stack) ch H H' s.heap s'.heap) (hok : HOk X.prog X.w H' s'.heap) (hg : AllBare s'.gens)
    (hch : ∀ b ∈ ch, (b ∈ X.ex ∨ X.s₀.heap.objs.size ≤ b) ∧ b ≠ X.env.locals ∧ (∀ x c, X.env.cells.lookup x = some c → c ≠ b) ∧ ∀ p ∈ X.pn ++ pins, p.1 ≠ b) : Inv X pins σ H' s' := by
  obtain ⟨h', g', d', t', o'⟩ := s'
  have e : o' = s.os := ho
  subst e
  exact I.call (g' := g') (t' := t') (d' := d') u hok hg hch
end

/-! ### the judgements -/
/-- an exception: its class, its own dict's address (where it has one), the abstract heap behind it -/
abbrev XK := Value → Option Addr → Hp → Prop
abbrev St := List (Option V)
abbrev VK := V → Hp → Prop
/-- an expression's reading; a test's; an argument list's -/
abbrev TE := St → Hp → VK → Prop
abbrev TT := St → Hp → (Bool → Hp → Prop) → Prop
abbrev TA := St → Hp → (List V → Hp → Prop) → Prop
/-- what is wanted behind a statement -/
structure Ends where
  nx : St → Hp → Prop
  rt : VK
  bk : St → Hp → Prop := fun _ _ => False
  ct : St → Hp → Prop := fun _ _ => False
abbrev TS := Ends → St → Hp → Prop

def EP (X : Cx) (pins : List (Addr × Obj)) (σ : St) (Q : VK) (u : Value) (s' : Shared) : Prop := ∃ v H', Inv X pins σ H' s' ∧ RelV v u ∧ Q v H'
def TP (X : Cx) (pins : List (Addr × Obj)) (σ : St) (Q : Bool → Hp → Prop) (b : Bool) (s' : Shared) : Prop := ∃ H', Inv X pins σ H' s' ∧ Q b H'
def AP (X : Cx) (pins : List (Addr × Obj)) (σ : St) (Q : List V → Hp → Prop) (us : List Value) (s' : Shared) : Prop := ∃ vs H', Inv X pins σ H' s' ∧ Vals vs us ∧ Q vs H'
def SP (X : Cx) (pins : List (Addr × Obj)) (D : Ends) (f : Flow) (s' : Shared) : Prop :=
  match f with
  | .next => ∃ σ' H', Inv X pins σ' H' s' ∧ D.nx σ' H'
  | .brk => ∃ σ' H', Inv X pins σ' H' s' ∧ D.bk σ' H'
  | .cont => ∃ σ' H', Inv X pins σ' H' s' ∧ D.ct σ' H'
  | .ret u => ∃ v σ' H', Inv X pins σ' H' s' ∧ RelV v u ∧ D.rt v H'

def PE (X : Cx) (e : Expr) (t : TE) : Prop :=
  ∀ (pins : List (Addr × Obj)) (s : Shared) (σ : St) (H : Hp) (Q : VK), Inv X pins σ H s → t σ H Q → wpAny (model X.prog X.w) X.A (eval e X.env) (EP X pins σ Q) X.xe s
def PT (X : Cx) (e : Expr) (t : TT) : Prop :=
  ∀ (pins : List (Addr × Obj)) (s : Shared) (σ : St) (H : Hp) (Q : Bool → Hp → Prop), Inv X pins σ H s → t σ H Q → wpAny (model X.prog X.w) X.A (isTrue e X.env (eval e X.env)) (TP X pins σ Q) X.xe s
/-- a test whatever its 'whole' is (and, or) -/
def PW (X : Cx) (e : Expr) (t : TT) : Prop :=
  ∀ (whole : Sem Value) (pins : List (Addr × Obj)) (s : Shared) (σ : St) (H : Hp) (Q : Bool → Hp → Prop), Inv X pins σ H s → t σ H Q → wpAny (model X.prog X.w) X.A (isTrue e X.env whole) (TP X pins σ Q) X.xe s
theorem PW.pt {X : Cx} {e : Expr} {t : TT} (h : PW X e t) : PT X e t := h _
/-- an argument list (no star), from the left -/
def PA (X : Cx) (es : List Expr) (t : TA) : Prop :=
  ∀ (pos : Pos) (pins : List (Addr × Obj)) (s : Shared) (σ : St) (H : Hp) (Q : List V → Hp → Prop), Inv X pins σ H s → t σ H Q → wpAny (model X.prog X.w) X.A (spliced (backTo pos (starEach es X.env))) (AP X pins σ Q) X.xe s
def PS (X : Cx) (st : Stmt) (t : TS) : Prop :=
  ∀ (pins : List (Addr × Obj)) (s : Shared) (σ : St) (H : Hp) (D : Ends), Inv X pins σ H s → t D σ H → wpAny (model X.prog X.w) X.A (exec st X.env) (SP X pins D) X.xe s
def PSs (X : Cx) (st : List Stmt) (t : TS) : Prop :=
  ∀ (pins : List (Addr × Obj)) (s : Shared) (σ : St) (H : Hp) (D : Ends), Inv X pins σ H s → t D σ H → wpAny (model X.prog X.w) X.A (execs st X.env) (SP X pins D) X.xe s
/-- weaken the end -/
theorem thn {α : Type} {t : Sem α} {Q Q' : α → Shared → Prop} {M : Model} {A : Around} {E : Value → Shared → Prop} {s : Shared} (h : wpAny M A t Q E s) (hQ : ∀ a s, Q a s → Q' a s) : wpAny M A t Q' E s := wpAny_mono h hQ fun _ _ x => x
end L2

namespace L2
open PySem PySem.Spec PyProof.Rows
section
variable {X : Cx}

/-- two expressions in a row -/
theorem bin {a b : Expr} {ta tb : TE} (ha : PE X a ta) (hb : PE X b tb) {pins : List (Addr × Obj)} {s : Shared} {σ : St} {H : Hp} {R : V → V → Hp → Prop} (I : Inv X pins σ H s) (h : ta σ H fun x H1 => tb σ H1 fun y H2 => R x y H2)
    {α : Type} {Q : α → Shared → Prop} {f : Value → Value → Sem α}
    (hf : ∀ v u s2 x y H2, Inv X pins σ H2 s2 → RelV x v → RelV y u → R x y H2 → wpAny (model X.prog X.w) X.A (f v u) Q X.xe s2) :
    wpAny (model X.prog X.w) X.A (eval a X.env) (fun v s₁ => wpAny (model X.prog X.w) X.A (eval b X.env) (fun u s₂ => wpAny (model X.prog X.w) X.A (f v u) Q X.xe s₂) X.xe s₁) X.xe s := by
  refine thn (ha pins s σ H _ I h) fun v s1 ⟨x, H1, I1, r1, q1⟩ => ?_
  refine thn (hb pins s1 σ H1 _ I1 q1) fun u s2 ⟨y, H2, I2, r2, q2⟩ => ?_
  exact hf v u s2 x y H2 I2 r1 r2 q2

/-! ### names and constants -/
def tVar (i : Nat) : TE := fun σ H Q => ∃ v, σ[i]? = some (some v) ∧ Q v H
def tC (v : V) : TE := fun _ H Q => Q v H
theorem pe_var {i : Nat} {x : Str} {pos : Pos} (hN : X.N[i]? = some x) (hv : Vis X.env.scope x) (hd : (x == ("__debug__" : Str)) = false := by decide) (hcd : (x == ("__classdict__" : Str)) = false := by decide) : PE X (.Name x pos) (tVar i) := by
  intro pins s σ H Q I h
  obtain ⟨v, e, h⟩ := h
  obtain ⟨m, hn, hl⟩ := I.loc
  obtain ⟨u, r, l⟩ := hl i x v hN e hv
  have fin : EP X pins σ Q u s := ⟨v, H, I, r, h⟩
  rcases l with ⟨hk, hm⟩ | ⟨hk, c, hc, hcell⟩
  · exact wpAny_Name (wpAny_loadName_local I.ok.kind hk hn hm fin) hd
  · rcases hk with hk | hk
    · exact wpAny_Name (wpAny_loadName_cell I.ok.kind hk hc hcell fin) hd
    · exact wpAny_Name (wpAny_loadName_free I.ok.kind hk hc hcell fin hcd) hd
theorem pe_int {i j pos} : PE X (.Constant (.int i) j pos) (tC (.int i)) := fun _ _ _ H _ I h => wpAny_Constant_int ⟨.int i, H, I.tok _, ⟨_, rfl⟩, h⟩
theorem pe_bl {b j pos} : PE X (.Constant (.bool b) j pos) (tC (.bl b)) := fun _ _ _ H _ I h => Constant_bool ⟨.bl b, H, I, rfl, h⟩
theorem pe_non {j pos} : PE X (.Constant .none j pos) (tC .non) := fun _ _ _ H _ I h => Constant_none ⟨.non, H, I, rfl, h⟩
theorem pe_str {x j pos} : PE X (.Constant (.str x) j pos) (tC (.str x)) := fun _ _ _ H _ I h => Calls.Constant_str ⟨.str x, H, I.tok _, ⟨_, rfl⟩, h⟩

/-- a global name of the def -/
def Gl (X : Cx) (x : Str) : Prop := X.env.kindOf x = some .globalImplicit
theorem ld_glob {E : Value → Shared → Prop} {pins : List (Addr × Obj)} {s : Shared} {σ : St} {H : Hp} {x : Str} {u : Value} {pos : Pos} {Q : Value → Shared → Prop} (I : Inv X pins σ H s) (hg : Gl X x) (hm : X.mg x = some u) (h : Q u s)
    (hd : (x == ("__debug__" : Str)) = false := by decide) : wpAny (model X.prog X.w) X.A (eval (.Name x pos) X.env) Q E s :=
  Calls.Name_function_global I.ok.kind hg (Calls.loadGlobal_global (by rw [I.ok.glob]; exact I.mod.glob.keeps I.bk) hm h) hd
theorem ld_blt {E : Value → Shared → Prop} {pins : List (Addr × Obj)} {s : Shared} {σ : St} {H : Hp} {x : Str} {u : Value} {pos : Pos} {Q : Value → Shared → Prop} (I : Inv X pins σ H s) (hg : Gl X x) (hm : X.mg x = none) (hv : bootBuiltins x = some u) (h : Q u s)
    (hn : x ≠ "__name__" := by decide) (hd : (x == ("__debug__" : Str)) = false := by decide) : wpAny (model X.prog X.w) X.A (eval (.Name x pos) X.env) Q E s := by
  obtain ⟨mb, h1, h2⟩ := I.mod.blt
  exact Calls.Name_function_global I.ok.kind hg (Calls.loadGlobal_builtin (by rw [I.ok.glob]; exact I.mod.glob.keeps I.bk) hm (by rw [I.ok.blt]; exact h1.keeps I.bk) ((h2 x hn).trans hv) h) hd
/-- a module's constant, a class, a function, as a value -/
theorem pe_glob {x : Str} {v : V} {u : Value} {pos : Pos} (hg : Gl X x) (hm : X.mg x = some u) (r : RelV v u) (hd : (x == ("__debug__" : Str)) = false := by decide) : PE X (.Name x pos) (tC v) :=
  fun _ _ _ H _ I h => ld_glob I hg hm ⟨v, H, I, r, h⟩ hd
theorem pe_bltn {x : Str} {v : V} {u : Value} {pos : Pos} (hg : Gl X x) (hm : X.mg x = none) (hv : bootBuiltins x = some u) (r : RelV v u) (hn : x ≠ "__name__" := by decide) (hd : (x == ("__debug__" : Str)) = false := by decide) : PE X (.Name x pos) (tC v) :=
  fun _ _ _ H _ I h => ld_blt I hg hm hv ⟨v, H, I, r, h⟩ hn hd

/-! ### arithmetic -/
/-- two ints -/
def t2I (ta tb : TE) (k : Int → Int → Hp → Prop) : St → Hp → Prop := fun σ H => ta σ H fun x H1 => tb σ H1 fun y H2 => ∃ i j, x = .int i ∧ y = .int j ∧ k i j H2
def tAdd (ta tb : TE) : TE := fun σ H Q => t2I ta tb (fun i j H2 => Q (.int (i + j)) H2) σ H
def tSub (ta tb : TE) : TE := fun σ H Q => t2I ta tb (fun i j H2 => Q (.int (i - j)) H2) σ H
/-- the left factor below 2^64 -/
def tMul (ta tb : TE) : TE := fun σ H Q => t2I ta tb (fun i j H2 => (-(2 ^ 64) < i ∧ i < 2 ^ 64) ∧ Q (.int (i * j)) H2) σ H
variable {a b : Expr} {ta tb : TE} {pos : Pos}
theorem pe_add (ha : PE X a ta) (hb : PE X b tb) : PE X (.BinOp a .Add b pos) (tAdd ta tb) := by
  intro pins s σ H Q I h
  refine wpAny_BinOp (bin ha hb I h fun v u s2 x y H2 I2 rx ry q => ?_)
  obtain ⟨i, j, rfl, rfl, q⟩ := q
  obtain ⟨t, rfl⟩ := rx
  obtain ⟨t', rfl⟩ := ry
  exact add_int ⟨.int _, H2, I2.tok _, ⟨_, rfl⟩, q⟩
theorem pe_sub (ha : PE X a ta) (hb : PE X b tb) : PE X (.BinOp a .Sub b pos) (tSub ta tb) := by
  intro pins s σ H Q I h
  refine wpAny_BinOp (bin ha hb I h fun v u s2 x y H2 I2 rx ry q => ?_)
  obtain ⟨i, j, rfl, rfl, q⟩ := q
  obtain ⟨t, rfl⟩ := rx
  obtain ⟨t', rfl⟩ := ry
  exact sub_int ⟨.int _, H2, I2.tok _, ⟨_, rfl⟩, q⟩
theorem pe_mul (ha : PE X a ta) (hb : PE X b tb) : PE X (.BinOp a .Mult b pos) (tMul ta tb) := by
  intro pins s σ H Q I h
  refine wpAny_BinOp (bin ha hb I h fun v u s2 x y H2 I2 rx ry q => ?_)
  obtain ⟨i, j, rfl, rfl, ⟨q1, q2⟩, q⟩ := q
  obtain ⟨t, rfl⟩ := rx
  obtain ⟨t', rfl⟩ := ry
  exact mul_int ⟨.int _, H2, I2.tok _, ⟨_, rfl⟩, q⟩ (.of_left (intBits_le_64 q1 q2))

/-! ### comparisons -/
def PC (X : Cx) (op : CmpOp) (a b : Expr) (t : TE) : Prop :=
  ∀ (pins : List (Addr × Obj)) (s : Shared) (σ : St) (H : Hp) (Q : VK), Inv X pins σ H s → t σ H Q →
    wpAny (model X.prog X.w) X.A (eval a X.env) (fun v s₁ => wpAny (model X.prog X.w) X.A (eval b X.env) (fun u s₂ => wpAny (model X.prog X.w) X.A (compareOp op v u) (EP X pins σ Q) X.xe s₂) X.xe s₁) X.xe s
theorem nobehind (b : Expr) {op : CmpOp} (h : op ≠ .In) (h2 : op ≠ .NotIn) : behindInMarks op b = false := by
  have e1 : (op == CmpOp.In) = false := by cases op <;> first | rfl | exact absurd rfl h
  have e2 : (op == CmpOp.NotIn) = false := by cases op <;> first | rfl | exact absurd rfl h2
  cases b <;> simp [behindInMarks, e1, e2]
def tCmp (p : Int → Int → Bool) (ta tb : TE) : TE := fun σ H Q => t2I ta tb (fun i j H2 => Q (.bl (p i j)) H2) σ H
abbrev tLt : TE → TE → TE := tCmp fun i j => decide (i < j)
abbrev tLe : TE → TE → TE := tCmp fun i j => decide (i ≤ j)
abbrev tGt : TE → TE → TE := tCmp fun i j => decide (j < i)
abbrev tGe : TE → TE → TE := tCmp fun i j => decide (j ≤ i)
abbrev tEqI : TE → TE → TE := tCmp fun i j => decide (i = j)
abbrev tNeI : TE → TE → TE := tCmp fun i j => !decide (i = j)
/-- a comparison of two ints, by its rule -/
theorem pc_int {op : CmpOp} {p : Int → Int → Bool} (ha : PE X a ta) (hb : PE X b tb)
    (rule : ∀ (i j : Int) (t u : Tok) (Q : Value → Shared → Prop) (s : Shared), Q (.bool (p i j)) s → wpAny (model X.prog X.w) X.A (compareOp op (.int i t) (.int j u)) Q X.xe s) : PC X op a b (tCmp p ta tb) := by
  intro pins s σ H Q I h
  refine bin ha hb I h fun v u s2 x y H2 I2 rx ry q => ?_
  obtain ⟨i, j, rfl, rfl, q⟩ := q
  obtain ⟨t, rfl⟩ := rx
  obtain ⟨t', rfl⟩ := ry
  exact rule i j t t' _ s2 ⟨.bl _, H2, I2, rfl, q⟩
theorem pc_lt (ha : PE X a ta) (hb : PE X b tb) : PC X .Lt a b (tLt ta tb) := pc_int ha hb fun _ _ _ _ _ _ h => lt_int h
theorem pc_le (ha : PE X a ta) (hb : PE X b tb) : PC X .LtE a b (tLe ta tb) := pc_int ha hb fun _ _ _ _ _ _ h => le_int h
theorem pc_gt (ha : PE X a ta) (hb : PE X b tb) : PC X .Gt a b (tGt ta tb) := pc_int ha hb fun _ _ _ _ _ _ h => gt_int h
theorem pc_ge (ha : PE X a ta) (hb : PE X b tb) : PC X .GtE a b (tGe ta tb) := pc_int ha hb fun _ _ _ _ _ _ h => ge_int h
theorem pc_eqI (ha : PE X a ta) (hb : PE X b tb) : PC X .Eq a b (tEqI ta tb) := pc_int ha hb fun _ _ _ _ _ _ h => eq_int (by rw [Bool.beq_eq_decide_eq]; exact h)
theorem pc_neI (ha : PE X a ta) (hb : PE X b tb) : PC X .NotEq a b (tNeI ta tb) := pc_int ha hb fun _ _ _ _ _ _ h => ne_int (by rw [bne, Bool.beq_eq_decide_eq]; exact h)
/-- is None -/
def tIsN (ta : TE) : TE := fun σ H Q => ta σ H fun x H1 => Q (.bl (decide (x = .non))) H1
def tNotN (ta : TE) : TE := fun σ H Q => ta σ H fun x H1 => Q (.bl (!decide (x = .non))) H1
theorem RelV.none_iff {x : V} {v : Value} (r : RelV x v) : (v == Value.none) = decide (x = .non) := by
  cases x with
  | non => cases r; rfl
  | bl _ => cases r; rfl
  | int _ => obtain ⟨t, rfl⟩ := r; rfl
  | str _ => obtain ⟨t, rfl⟩ := r; rfl
  | byt _ => obtain ⟨t, rfl⟩ := r; rfl
  | flt _ => obtain ⟨t, rfl⟩ := r; rfl
  | ref _ => cases r; rfl
  | ty _ => cases r; rfl
theorem pc_isN {j pos'} (ha : PE X a ta) : PC X .Is a (.Constant .none j pos') (tIsN ta) := by
  intro pins s σ H Q I h
  refine thn (ha pins s σ H _ I h) fun v s1 ⟨x, H1, I1, r1, q1⟩ => ?_
  exact Constant_none (is_none_gen ⟨.bl _, H1, I1, by rw [r1.none_iff]; rfl, q1⟩)
theorem pc_notN {j pos'} (ha : PE X a ta) : PC X .IsNot a (.Constant .none j pos') (tNotN ta) := by
  intro pins s σ H Q I h
  refine thn (ha pins s σ H _ I h) fun v s1 ⟨x, H1, I1, r1, q1⟩ => ?_
  exact Constant_none (isnot_none_gen ⟨.bl _, H1, I1, by rw [r1.none_iff]; rfl, q1⟩)
/-- a comparison as a value, as a test -/
def tB (t : TE) : TT := fun σ H Q => t σ H fun x H1 => ∃ c, x = .bl c ∧ Q c H1
theorem pe_cmp {op : CmpOp} {t : TE} (h : PC X op a b t) (h1 : behindInMarks op b = false := by first | exact nobehind _ (by decide) (by decide) | rfl) : PE X (.Compare a [op] [b] pos) t := fun pins s σ H Q I hw => wpAny_Compare1 (h pins s σ H Q I hw) h1
theorem pt_cmp {op : CmpOp} {t : TE} (h : PC X op a b t) (h1 : behindInMarks op b = false := by first | exact nobehind _ (by decide) (by decide) | rfl) : PT X (.Compare a [op] [b] pos) (tB t) := by
  intro pins s σ H Q I hw
  refine wpAny_isTrue_Compare1 (thn (h pins s σ H _ I hw) fun v s1 h1 => thn h1 fun u s2 h2 => thn h2 fun c s3 ⟨x, H1, I1, r1, q1⟩ => ?_) h1
  obtain ⟨d, rfl, q⟩ := q1
  cases r1
  exact wpAny_truthy_bool ⟨H1, I1, q⟩
/-- an expression whose value is a bool, as a test -/
theorem pt_val {e : Expr} {t : TE} (h : PE X e t) (he : ∀ whole, isTrue e X.env whole = (do let v ← whole; standAt e.pos; holding [v] (truthy v)) := by intro _; rfl) : PT X e (tB t) := by
  intro pins s σ H Q I hw
  refine isTrue_plain (thn (h pins s σ H _ I hw) fun v s1 ⟨x, H1, I1, r1, q1⟩ => ?_) (he _)
  obtain ⟨d, rfl, q⟩ := q1
  cases r1
  exact wpAny_truthy_bool ⟨H1, I1, q⟩

/-! ### and, or, not -/
variable {tA tB' : TT} {rest : List Expr}
def tAnd (t u : TT) : TT := fun σ H Q => t σ H fun c H1 => if c = true then u σ H1 Q else Q false H1
def tOr (t u : TT) : TT := fun σ H Q => t σ H fun c H1 => if c = true then Q true H1 else u σ H1 Q
def tNot (t : TT) : TT := fun σ H Q => t σ H fun c H1 => Q (!c) H1
theorem pw_and1 (ha : PT X a tA) : PW X (.BoolOp .And [a] pos) tA := by
  intro wh pins s σ H Q I h
  refine isTrue_and (thn (ha pins s σ H Q I h) fun c s1 e => ?_)
  cases c with
  | true => exact isTrue_and_nil e
  | false => exact e
theorem pw_or1 (ha : PT X a tA) : PW X (.BoolOp .Or [a] pos) tA := by
  intro wh pins s σ H Q I h
  refine isTrue_or (thn (ha pins s σ H Q I h) fun c s1 e => ?_)
  cases c with
  | false => exact isTrue_or_nil e
  | true => exact e
theorem pw_and (ha : PT X a tA) (hb : PW X (.BoolOp .And (b :: rest) pos) tB') : PW X (.BoolOp .And (a :: b :: rest) pos) (tAnd tA tB') := by
  intro wh pins s σ H Q I h
  refine isTrue_and (thn (ha pins s σ H _ I h) fun c s1 ⟨H1, I1, q1⟩ => ?_)
  cases c with
  | true => exact hb wh pins s1 σ H1 Q I1 q1
  | false => exact ⟨H1, I1, q1⟩
theorem pw_or (ha : PT X a tA) (hb : PW X (.BoolOp .Or (b :: rest) pos) tB') : PW X (.BoolOp .Or (a :: b :: rest) pos) (tOr tA tB') := by
  intro wh pins s σ H Q I h
  refine isTrue_or (thn (ha pins s σ H _ I h) fun c s1 ⟨H1, I1, q1⟩ => ?_)
  cases c with
  | true => exact ⟨H1, I1, q1⟩
  | false => exact hb wh pins s1 σ H1 Q I1 q1
theorem pt_not (ha : PT X a tA) : PT X (.UnaryOp .Not a pos) (tNot tA) := by
  intro pins s σ H Q I h
  exact isTrue_not (ha pins s σ H (fun c H1 => Q (!c) H1) I h)
/-- .. as values (bools) -/
def tAndV (ta tb : TE) : TE := fun σ H Q => ta σ H fun x H1 => ∃ c, x = .bl c ∧ if c = true then tb σ H1 Q else Q (.bl false) H1
def tOrV (ta tb : TE) : TE := fun σ H Q => ta σ H fun x H1 => ∃ c, x = .bl c ∧ if c = true then Q (.bl true) H1 else tb σ H1 Q
def tNotV (ta : TE) : TE := fun σ H Q => ta σ H fun x H1 => ∃ c, x = .bl c ∧ Q (.bl (!c)) H1
theorem pe_one {op} {t : TE} (h : PE X a t) : PE X (.BoolOp op [a] pos) t := fun pins s σ H Q I hw => BoolOp_one (h pins s σ H Q I hw)
theorem pe_and (ha : PE X a ta) (hb : PE X (.BoolOp .And (b :: rest) pos) tb) : PE X (.BoolOp .And (a :: b :: rest) pos) (tAndV ta tb) := by
  intro pins s σ H Q I h
  refine BoolOp_and (thn (ha pins s σ H _ I h) fun v s1 ⟨x, H1, I1, r1, q1⟩ => ?_)
  obtain ⟨c, rfl, q1⟩ := q1
  cases r1
  refine wpAny_truthy_bool ?_
  cases c with
  | true => exact hb pins s1 σ H1 Q I1 q1
  | false => exact ⟨.bl false, H1, I1, rfl, q1⟩
theorem pe_or (ha : PE X a ta) (hb : PE X (.BoolOp .Or (b :: rest) pos) tb) : PE X (.BoolOp .Or (a :: b :: rest) pos) (tOrV ta tb) := by
  intro pins s σ H Q I h
  refine BoolOp_or (thn (ha pins s σ H _ I h) fun v s1 ⟨x, H1, I1, r1, q1⟩ => ?_)
  obtain ⟨c, rfl, q1⟩ := q1
  cases r1
  refine wpAny_truthy_bool ?_
  cases c with
  | false => exact hb pins s1 σ H1 Q I1 q1
  | true => exact ⟨.bl true, H1, I1, rfl, q1⟩
theorem pe_not (ha : PE X a ta) : PE X (.UnaryOp .Not a pos) (tNotV ta) := by
  intro pins s σ H Q I h
  refine UnaryOp_ (thn (ha pins s σ H _ I h) fun v s1 ⟨x, H1, I1, r1, q1⟩ => ?_)
  obtain ⟨c, rfl, q1⟩ := q1
  cases r1
  exact not_of (wpAny_truthy_bool ⟨.bl (!c), H1, I1, rfl, q1⟩)
/-- a if t else b -/
def tIf (t : TT) (ta tb : TE) : TE := fun σ H Q => t σ H fun c H1 => if c = true then ta σ H1 Q else tb σ H1 Q
theorem pe_ifExp {c : Expr} (hc : PT X c tA) (ha : PE X a ta) (hb : PE X b tb) : PE X (.IfExp c a b pos) (tIf tA ta tb) := by
  intro pins s σ H Q I h
  refine wpAny_IfExp (thn (hc pins s σ H _ I h) fun d s1 ⟨H1, I1, q1⟩ => ?_)
  cases d with
  | true => exact ha pins s1 σ H1 Q I1 q1
  | false => exact hb pins s1 σ H1 Q I1 q1
end
end L2

namespace L2
open PySem PySem.Spec PyProof.Rows

/-! ### a list, a tuple that is read: tracked, frozen, or an object of the module -/
def SqL (K : PySem.W.Frag) (H : Hp) (a : Addr) (xs : List V) : Prop :=
  Rd H a (.lst xs) ∨
    ∃ (o : Obj) (its : Array Value) (n : Nat), K.lookup a = some o ∧ o.cls = .type "list" ∧ o.dict = none ∧ o.data = .seq its n ∧ its.size ≤ sizeLine ∧ Vals xs its.toList
def SqT (K : PySem.W.Frag) (H : Hp) (a : Addr) (xs : List V) : Prop :=
  Rd H a (.tup xs) ∨
    ∃ (o : Obj) (its : Array Value) (n : Nat), K.lookup a = some o ∧ o.cls = .type "tuple" ∧ o.data = .seq its n ∧ its.size ≤ sizeLine ∧ Vals xs its.toList
def absV : Value → Option V
  | .none => some .non
  | .bool b => some (.bl b)
  | .int i _ => some (.int i)
  | .str x _ => some (.str x)
  | .bytes b _ => some (.byt b)
  | .float b _ => some (.flt b)
  | .ref a => some (.ref a)
  | .type n => some (.ty n)
  | _ => none
theorem RelV.abs {x : V} {u : Value} (r : RelV x u) : absV u = some x := by
  cases x with
  | non => cases r; rfl
  | bl _ => cases r; rfl
  | int _ => obtain ⟨t, rfl⟩ := r; rfl
  | str _ => obtain ⟨t, rfl⟩ := r; rfl
  | byt _ => obtain ⟨t, rfl⟩ := r; rfl
  | flt _ => obtain ⟨t, rfl⟩ := r; rfl
  | ref _ => cases r; rfl
  | ty _ => cases r; rfl
theorem RelV.inj {x y : V} {u : Value} (r : RelV x u) (q : RelV y u) : x = y := Option.some.inj (r.abs.symm.trans q.abs)
theorem Vals.inj : ∀ {xs ys : List V} {us : List Value}, Vals xs us → Vals ys us → xs = ys
  | _, _, _, .nil, .nil => rfl
  | _, _, _, .cons r t, .cons r' t' => by rw [r.inj r', Vals.inj t t']
section
variable {X : Cx} {pins : List (Addr × Obj)} {σ : St} {H : Hp} {s : Shared} {a : Addr} {xs ys : List V}
theorem SqL.of {K : PySem.W.Frag} (h : H a = some (.lst xs)) : SqL K H a xs := .inl (.inl h)
theorem SqT.of {K : PySem.W.Frag} (h : H a = some (.tup xs)) : SqT K H a xs := .inl (.inl h)
theorem Inv.list (I : Inv X pins σ H s) (h : SqL X.K H a xs) : ∃ its : List Value, Vals xs its ∧ PlainL s.heap a its.toArray ∧ xs.length ≤ sizeLine := by
  rcases h with h | ⟨o, its, n, hk, hc, hd, hs, hz, r⟩
  · obtain ⟨z, its, n, r, e⟩ := h.ok I.hok
    exact ⟨its, r, ⟨_, n, e, rfl, rfl, rfl⟩, z⟩
  · refine ⟨its.toList, r, ⟨o, n, I.kIn a o hk, hc, hd, by simpa using hs⟩, ?_⟩
    have e := r.length
    simp only [Array.length_toList] at e
    omega
theorem Inv.tuple (I : Inv X pins σ H s) (h : SqT X.K H a xs) : ∃ its : List Value, Vals xs its ∧ IsTup s.heap a its.toArray ∧ xs.length ≤ sizeLine := by
  rcases h with h | ⟨o, its, n, hk, hc, hs, hz, r⟩
  · obtain ⟨z, its, r, p⟩ := h.ok I.hok
    exact ⟨its, r, p, z⟩
  · refine ⟨its.toList, r, ⟨o, I.kIn a o hk, hc, n, by simpa using hs⟩, ?_⟩
    have e := r.length
    simp only [Array.length_toList] at e
    omega
theorem Inv.list_inj (I : Inv X pins σ H s) (h : SqL X.K H a xs) (h' : SqL X.K H a ys) : xs = ys := by
  obtain ⟨its, r, ⟨o, n, e, _, _, d⟩, _⟩ := I.list h
  obtain ⟨its', r', ⟨o', n', e', _, _, d'⟩, _⟩ := I.list h'
  rw [e] at e'; cases e'
  rw [d] at d'
  injection d' with d1 _
  have : its = its' := by simpa using congrArg Array.toList d1
  subst this
  exact r.inj r'
theorem Inv.tuple_inj (I : Inv X pins σ H s) (h : SqT X.K H a xs) (h' : SqT X.K H a ys) : xs = ys := by
  obtain ⟨its, r, ⟨o, e, _, n, d⟩, _⟩ := I.tuple h
  obtain ⟨its', r', ⟨o', e', _, n', d'⟩, _⟩ := I.tuple h'
  rw [e] at e'; cases e'
  rw [d] at d'
  injection d' with d1 _
  have : its = its' := by simpa using congrArg Array.toList d1
  subst this
  exact r.inj r'
end

/-! ### another wish about exceptions -/
abbrev Cx.wish (X : Cx) (E : Value → Shared → Prop) : Cx := { X with xe := E }
/-- no exception leaves -/
abbrev Cx.nox (X : Cx) : Cx := X.wish fun _ _ => False
theorem Cx.Ok.wish {X : Cx} (ok : X.Ok) (E : Value → Shared → Prop) : (X.wish E).Ok :=
  ⟨ok.mod, ok.kind, ok.glob, ok.blt, ok.above, ok.inj, ok.has, ok.cab, ok.hd, ok.frames, ok.stk, ok.exf, ok.bs, ok.bsz, ok.noex, ok.exfs, ok.funs, ok.frf⟩
theorem Cx.Ok.unwish {X : Cx} {E : Value → Shared → Prop} (ok : (X.wish E).Ok) : X.Ok :=
  ⟨ok.mod, ok.kind, ok.glob, ok.blt, ok.above, ok.inj, ok.has, ok.cab, ok.hd, ok.frames, ok.stk, ok.exf, ok.bs, ok.bsz, ok.noex, ok.exfs, ok.funs, ok.frf⟩
section
variable {X : Cx} {pins : List (Addr × Obj)} {σ : St} {H : Hp} {s : Shared} {E : Value → Shared → Prop}
theorem Inv.wish (I : Inv X pins σ H s) (E : Value → Shared → Prop) : Inv (X.wish E) pins σ H s := ⟨I.ok.wish E, I.os, I.bare, I.base, I.loc, I.cell, I.free, I.freeC, I.pin, I.hok, I.len⟩
theorem Inv.unwish (I : Inv (X.wish E) pins σ H s) : Inv X pins σ H s := ⟨I.ok.unwish, I.os, I.bare, I.base, I.loc, I.cell, I.free, I.freeC, I.pin, I.hok, I.len⟩
theorem SP.unwish {D : Ends} {f : Flow} {s' : Shared} (h : SP (X.wish E) pins D f s') : SP X pins D f s' := by
  cases f with
  | next => obtain ⟨σ', H', I, q⟩ := h; exact ⟨σ', H', I.unwish, q⟩
  | brk => obtain ⟨σ', H', I, q⟩ := h; exact ⟨σ', H', I.unwish, q⟩
  | cont => obtain ⟨σ', H', I, q⟩ := h; exact ⟨σ', H', I.unwish, q⟩
  | ret u => obtain ⟨v, σ', H', I, r, q⟩ := h; exact ⟨v, σ', H', I.unwish, r, q⟩
theorem PE.nox {e : Expr} {t : TE} (h : PE X.nox e t) : PE X e t := fun pins s σ H Q I hw =>
  wpAny_mono (h pins s σ H Q (I.wish _) hw) (fun _ _ ⟨v, H', I', r, q⟩ => ⟨v, H', I'.unwish, r, q⟩) fun _ _ z => False.elim z
theorem PT.nox {e : Expr} {t : TT} (h : PT X.nox e t) : PT X e t := fun pins s σ H Q I hw =>
  wpAny_mono (h pins s σ H Q (I.wish _) hw) (fun _ _ ⟨H', I', q⟩ => ⟨H', I'.unwish, q⟩) fun _ _ z => False.elim z
theorem PSs.nox {st : List Stmt} {t : TS} (h : PSs X.nox st t) : PSs X st t := fun pins s σ H D I hw =>
  wpAny_mono (h pins s σ H D (I.wish _) hw) (fun _ _ q => q.unwish) fun _ _ z => False.elim z
end

/-! ### blocks and small statements -/
section
variable {X : Cx} {st : Stmt} {rest : List Stmt} {t u : TS} {e : Expr} {te : TE} {pos : Pos}
def tNext : TS := fun D σ H => D.nx σ H
def tSeq (t u : TS) : TS := fun D σ H => t { D with nx := u D } σ H
theorem pss_nil : PSs X [] tNext := fun _ _ σ H _ I h => wpAny_execs_nil ⟨σ, H, I, h⟩
theorem pss_cons (h1 : PS X st t) (h2 : PSs X rest u) : PSs X (st :: rest) (tSeq t u) := by
  intro pins s σ H D I h
  refine wpAny_execs_cons (thn (h1 pins s σ H { D with nx := u D } I h) fun f s1 q => ?_)
  cases f with
  | next =>
    obtain ⟨σ', H', I', q⟩ := q
    exact h2 pins s1 σ' H' D I' q
  | ret v => exact q
  | brk => exact q
  | cont => exact q
theorem pss_one (h1 : PS X st t) : PSs X [st] t := by
  intro pins s σ H D I h
  refine wpAny_execs_cons (thn (h1 pins s σ H D I h) fun f s1 q => ?_)
  cases f with
  | next => exact wpAny_execs_nil q
  | ret v => exact q
  | brk => exact q
  | cont => exact q
def tBreak : TS := fun D σ H => D.bk σ H
def tCont : TS := fun D σ H => D.ct σ H
theorem ps_pass : PS X (.Pass pos) tNext := fun _ _ σ H _ I h => wpAny_Pass ⟨σ, H, I, h⟩
theorem ps_break : PS X (.Break pos) tBreak := fun _ _ σ H _ I h => wpAny_Break ⟨σ, H, I, h⟩
theorem ps_continue : PS X (.Continue pos) tCont := fun _ _ σ H _ I h => wpAny_Continue ⟨σ, H, I, h⟩
/-- in a def's body nothing is shown -/
theorem Inv.quiet {pins : List (Addr × Obj)} {σ : St} {H : Hp} {s : Shared} (I : Inv X pins σ H s) : interactive X.env = false := by simp [interactive, I.ok.kind]
/-- a docstring -/
theorem ps_doc {x j pos pos'} : PS X (.Expr (.Constant (.str x) j pos) pos') tNext := fun _ s σ H _ I h => wpAny_Expr (Calls.Constant_str (show SP X _ _ .next { s with toks := s.toks + 1 } from ⟨σ, H, I.tok _, h⟩)) I.quiet
/-- an expression whose value is dropped -/
def tDrop (te : TE) : TS := fun D σ H => te σ H fun _ H1 => D.nx σ H1
theorem ps_expr (he : PE X e te) (hs : swapsWith e none pos.line X.env = pure false := by rfl) : PS X (.Expr e pos) (tDrop te) := by
  intro pins s σ H D I h
  exact wpAny_Expr_any (thn (he pins s σ H _ I h) fun v s1 ⟨x, H1, I1, r1, q1⟩ => ⟨σ, H1, I1, q1⟩) I.quiet hs
def tRet (te : TE) : TS := fun D σ H => te σ H D.rt
theorem ps_ret (he : PE X e te) : PS X (.Return (some e) pos) (tRet te) := by
  intro pins s σ H D I h
  exact wpAny_Return_some (thn (he pins s σ H _ I h) fun v s1 ⟨x, H1, I1, r1, q1⟩ => ⟨x, σ, H1, I1, r1, q1⟩)
def tRetN : TS := fun D _ H => D.rt .non H
theorem ps_retN : PS X (.Return none pos) tRetN := fun _ _ σ H _ I h => wpAny_Return_none ⟨.non, σ, H, I, rfl, h⟩
def tIfS (c : TT) (t u : TS) : TS := fun D σ H => c σ H fun b H1 => if b = true then t D σ H1 else u D σ H1
theorem ps_if {c : Expr} {a b : List Stmt} {tc : TT} (hc : PT X c tc) (ha : PSs X a t) (hb : PSs X b u) : PS X (.If c a b pos) (tIfS tc t u) := by
  intro pins s σ H D I h
  refine wpAny_If (thn (hc pins s σ H _ I h) fun d s1 ⟨H1, I1, q1⟩ => ?_)
  cases d with
  | true => exact ha pins s1 σ H1 D I1 q1
  | false => exact hb pins s1 σ H1 D I1 q1
/-- code that the proof never comes to -/
def tNever : TS := fun _ _ _ => False
theorem ps_never : PS X st tNever := fun _ _ _ _ _ _ h => h.elim
theorem pss_never {sts : List Stmt} : PSs X sts tNever := fun _ _ _ _ _ _ h => h.elim
end

/-! ### targets -/
abbrev TG := V → St → Hp → (St → Hp → Prop) → Prop
abbrev TGs := List V → St → Hp → (St → Hp → Prop) → Prop
def PG (X : Cx) (target : Expr) (t : TG) : Prop :=
  ∀ (pins : List (Addr × Obj)) (s : Shared) (σ : St) (H : Hp) (v : V) (u : Value) (Q : St → Hp → Prop), Inv X pins σ H s → RelV v u → t v σ H Q →
    wpAny (model X.prog X.w) X.A (assign target X.env u) (fun _ s' => ∃ σ' H', Inv X pins σ' H' s' ∧ Q σ' H') X.xe s
/-- several targets, one after another -/
def PGs (X : Cx) (ts : List Expr) (t : TGs) : Prop :=
  ∀ (pins : List (Addr × Obj)) (s : Shared) (σ : St) (H : Hp) (vs : List V) (us : List Value) (Q : St → Hp → Prop), Inv X pins σ H s → Vals vs us → t vs σ H Q →
    wpAny (model X.prog X.w) X.A (assignInOrder ((assignEach ts X.env).map (·.2)) us) (fun _ s' => ∃ σ' H', Inv X pins σ' H' s' ∧ Q σ' H') X.xe s
/-- o[i] = v, by values -/
abbrev TSet := V → V → V → Hp → (Hp → Prop) → Prop
def PSet (X : Cx) (t : TSet) : Prop :=
  ∀ (pins : List (Addr × Obj)) (s : Shared) (σ : St) (H : Hp) (o i v : V) (ov iv u : Value) (Q : Hp → Prop), Inv X pins σ H s → RelV o ov → RelV i iv → RelV v u → t o i v H Q →
    wpAny (model X.prog X.w) X.A (setItem ov iv u) (fun _ s' => ∃ H', Inv X pins σ H' s' ∧ Q H') X.xe s
/-- a op= b, by values -/
abbrev TIp := V → V → Hp → VK → Prop
def PIp (X : Cx) (op : Operator) (t : TIp) : Prop :=
  ∀ (pins : List (Addr × Obj)) (s : Shared) (σ : St) (H : Hp) (x y : V) (v u : Value) (Q : VK), Inv X pins σ H s → RelV x v → RelV y u → t x y H Q →
    wpAny (model X.prog X.w) X.A (inplaceOp op v u) (EP X pins σ Q) X.xe s
section
variable {X : Cx} {pos : Pos}
def gName (i : Nat) : TG := fun v σ H Q => Q (σ.set i (some v)) H
theorem pg_name {i : Nat} {x : Str} (hN : X.N.Nodup) (hi : X.N[i]? = some x) (hx : Loc X.env.scope x) (hf : X.fn x = true ∨ X.env.scope.names.lookup x = some .local := by first | exact .inl rfl | exact .inr rfl | assumption) : PG X (.Name x pos) (gName i) := by
  intro pins s σ H v u Q I r h
  exact wpAny_assign_Name (store_ok I hN hi hx r (fun s' I' => ⟨_, H, I', h⟩) hf)
def gNil : TGs := fun vs σ H Q => vs = [] ∧ Q σ H
def gCons (t : TG) (u : TGs) : TGs := fun vs σ H Q => ∃ v r, vs = v :: r ∧ t v σ H fun σ' H' => u r σ' H' Q
theorem pgs_nil : PGs X [] gNil := by
  intro pins s σ H vs us Q I r h
  obtain ⟨e, h⟩ := h
  subst e
  cases r
  exact assignInOrder_nil ⟨σ, H, I, h⟩
theorem pgs_cons {e : Expr} {es : List Expr} {t : TG} {u : TGs} (h1 : PG X e t) (h2 : PGs X es u)
    (hs : (assignEach (e :: es) X.env).map (·.2) = assign e X.env :: (assignEach es X.env).map (·.2) := by rfl) : PGs X (e :: es) (gCons t u) := by
  intro pins s σ H vs us Q I r h
  obtain ⟨v, vr, e1, h⟩ := h
  subst e1
  cases r with
  | cons r rr =>
    rw [hs]
    refine assignInOrder_cons (thn (h1 pins s σ H _ _ _ I r h) fun _ s1 ⟨σ1, H1, I1, q1⟩ => ?_)
    exact h2 pins s1 σ1 H1 _ _ Q I1 rr q1
/-- (a, b, ..) = a tuple of that length -/
def gTup (K : PySem.W.Frag) (n : Nat) (t : TGs) : TG := fun v σ H Q => ∃ a xs, v = .ref a ∧ SqT K H a xs ∧ xs.length = n ∧ t xs σ H Q
theorem pg_tup {es : List Expr} {k : Nat} {t : TGs} {n : Nat} (hc : X.calm = true) (h : PGs X es t)
    (hn : (assignEach es X.env).length = n := by rfl) (hst : (assignEach es X.env).findIdx? (·.1) = none := by rfl) : PG X (.Tuple es k pos) (gTup X.K n t) := by
  intro pins s σ H v u Q I r hw
  obtain ⟨a, xs, e1, hq, hl, hw⟩ := hw
  subst e1
  cases r
  obtain ⟨its, rv, ht, hz⟩ := I.tuple hq
  refine assign_Tuple_tuple (I.ok.hd hc) ht (by simp [hn, ← hl, rv.length]) hst fun h' hx => ?_
  have I1 : Inv X pins σ H { s with heap := h' } := I.kept (t' := s.toks) fun b o e => hx b o (Nat.ne_of_lt (Heap.lt_size e)) e
  exact h pins _ σ H xs _ Q I1 (by simpa using rv) hw
/-- o[i] = .. -/
def gSub (to ti : TE) (t : TSet) : TG := fun v σ H Q => to σ H fun o H1 => ti σ H1 fun i H2 => t o i v H2 fun H3 => Q σ H3
theorem pg_sub {o i : Expr} {to ti : TE} {t : TSet} (ho : PE X o to) (hi : PE X i ti) (hs : PSet X t)
    (ha : ∀ v, assign (.Subscript o i pos) X.env v = (do
      let ov ← holding [v] (eval o X.env)
      let iv ← holding [v, ov] (eval i X.env)
      standAt pos
      holding [v, ov, iv] (setItem ov iv v)
      release [v, ov, iv] []) := by intro _; rfl) : PG X (.Subscript o i pos) (gSub to ti t) := by
  intro pins s σ H v u Q I r h
  rw [ha]
  refine wpAny_bind (wpAny_holding (thn (ho pins s σ H _ I h) fun ov s1 ⟨x, H1, I1, r1, q1⟩ => ?_))
  refine wpAny_bind (wpAny_holding (thn (hi pins s1 σ H1 _ I1 q1) fun iv s2 ⟨y, H2, I2, r2, q2⟩ => ?_))
  refine wpAny_bind (wpAny_standAt (wpAny_bind (wpAny_holding (thn (hs pins s2 σ H2 x y v ov iv u _ I2 r1 r2 r q2) fun _ s3 ⟨H3, I3, q3⟩ => ?_))))
  exact wpAny_release ⟨σ, H3, I3, q3⟩
/-- target = value -/
def tAsg (te : TE) (g : TG) : TS := fun D σ H => te σ H fun x H1 => g x σ H1 D.nx
theorem ps_asg {tg e : Expr} {te : TE} {g : TG} (he : PE X e te) (hg : PG X tg g) (hs : swapsWithSole [tg] e pos.line X.env = pure false := by rfl) (hw : swappedStores [tg] e X.env = pure none := by rfl)
    (h1 : (assignEach [tg] X.env).map (·.2) = [assign tg X.env] := by rfl) : PS X (.Assign [tg] e pos) (tAsg te g) := by
  intro pins s σ H D I h
  refine wpAny_Assign_stores (thn (he pins s σ H _ I h) fun v s1 ⟨x, H1, I1, r1, q1⟩ => ?_) hs hw
  rw [h1]
  exact thn (hg pins s1 σ H1 x v _ I1 r1 q1) fun _ s2 q => q
/-- name = value -/
theorem ps_set {i : Nat} {x : Str} {e : Expr} {te : TE} {pos' : Pos} (hN : X.N.Nodup) (hi : X.N[i]? = some x) (hx : Loc X.env.scope x) (he : PE X e te) (hs : swapsWith e (some (.Name x pos')) pos.line X.env = pure false := by rfl) (hf : X.fn x = true ∨ X.env.scope.names.lookup x = some .local := by first | exact .inl rfl | exact .inr rfl | assumption) :
    PS X (.Assign [.Name x pos'] e pos) (tAsg te (gName i)) := by
  intro pins s σ H D I h
  refine wpAny_Assign_Name (thn (he pins s σ H _ I h) fun v s1 ⟨y, H1, I1, r1, q1⟩ => ?_) hs
  exact store_ok I1 hN hi hx r1 (fun s2 I2 => ⟨_, H1, I2, q1⟩) hf
/-- a, b = x, y with plain local names: stored from the right; the pair itself is not tracked (the opening rows as in PyProof/Rows/TupAssign.lean:23) -/
def tPar (i j : Nat) (ta : TA) : TS := fun D σ H => ta σ H fun vs H1 => ∃ v w, vs = [v, w] ∧ D.nx ((σ.set i (some v)).set j (some w)) H1
theorem ps_par {i j : Nat} {x y : Str} {a b : Expr} {ta : TA} {px py pt : Pos} {kt k2 pt2} (hc : X.calm = true) (hN : X.N.Nodup) (hi : X.N[i]? = some x) (hj : X.N[j]? = some y) (hij : i ≠ j)
    (hx : X.env.scope.names.lookup x = some .local) (hy : X.env.scope.names.lookup y = some .local) (ha : PA X [a, b] ta)
    (hw : swappedStores [.Tuple [.Name x px, .Name y py] kt pt] (.Tuple [a, b] k2 pt2) X.env = pure (some [x, y]))
    (hs : swapsWithSole [.Tuple [.Name x px, .Name y py] kt pt] (.Tuple [a, b] k2 pt2) pos.line X.env = pure false := by rfl) :
    PS X (.Assign [.Tuple [.Name x px, .Name y py] kt pt] (.Tuple [a, b] k2 pt2) pos) (tPar i j ta) := by
  intro pins s σ H D I h
  rw [exec_Assign_arm]
  refine wpAny_bind (wpAny_standAt ?_)
  rw [hs]
  refine wpAny_bind (wpAny_pure ?_)
  rw [if_neg (by decide)]
  refine wpAny_bind (Tuple_ (thn (ha _ pins s σ H _ I h) fun us s1 ⟨vs, H1, I1, r1, q1⟩ => ?_))
  obtain ⟨v, w, e1, q1⟩ := q1
  subst e1
  obtain ⟨u1, u2, rfl, rv, rw'⟩ : ∃ u1 u2, us = [u1, u2] ∧ RelV v u1 ∧ RelV w u2 := by
    cases r1 with
    | cons p q =>
      cases q with
      | cons p' q' =>
        cases q'
        exact ⟨_, _, rfl, p, p'⟩
  refine wpAny_newObj_type ?_ (by show 2 ≤ sizeLine; decide)
  have I2 : Inv X pins σ H1 { s1 with heap := s1.heap.push { cls := .type "tuple", data := .seq [u1, u2].toArray } } := I1.kept (t' := s1.toks) fun b o e => Heap.get?_push_of_some _ e
  rw [hw]
  refine wpAny_bind (wpAny_pure ?_)
  show wpAny (model X.prog X.w) X.A (do rule "assign.swapped-stores"; let items ← unpackItems (.ref s1.heap.objs.size) 2 none; assignInOrder [fun v => bindName X.env y v, fun v => bindName X.env x v] items.reverse; pure Flow.next) _ _ _
  refine wpAny_bind (wpAny_rule (wpAny_bind (unpackItems_tuple (items := #[u1, u2]) (I.ok.hd hc) (IsTup.new s1.heap _) fun h' hx' => ?_)))
  have I3 := I2.kept (h' := h') (t' := s1.toks) fun b o e => hx' b o (Nat.ne_of_lt (Heap.lt_size e)) e
  show wpAny _ _ (assignInOrder [fun v => bindName X.env y v, fun v => bindName X.env x v] [u2, u1] >>= fun _ => pure Flow.next) _ _ _
  refine wpAny_bind (assignInOrder_cons (wpAny_bindName (store_ok I3 hN hj (.inl hy) rw' (fun s2 I4 => ?_) (.inr hy))))
  refine assignInOrder_cons (wpAny_bindName (store_ok I4 hN hi (.inl hx) rv (fun s3 I5 => assignInOrder_nil (wpAny_pure ?_)) (.inr hx)))
  rw [List.set_comm _ _ (Ne.symm hij)] at I5
  exact ⟨_, H1, I5, q1⟩
/-- name op= e -/
def tAug (i : Nat) (te : TE) (ti : TIp) : TS := fun D σ H => ∃ x, σ[i]? = some (some x) ∧ te σ H fun y H1 => ti x y H1 fun z H2 => D.nx (σ.set i (some z)) H2
theorem ps_aug {i : Nat} {x : Str} {e : Expr} {te : TE} {op : Operator} {ti : TIp} {pos' : Pos} (hN : X.N.Nodup) (hi : X.N[i]? = some x) (hx : Loc X.env.scope x) (he : PE X e te) (ho : PIp X op ti) (hf : X.fn x = true ∨ X.env.scope.names.lookup x = some .local := by first | exact .inl rfl | exact .inr rfl | assumption) :
    PS X (.AugAssign (.Name x pos') op e pos) (tAug i te ti) := by
  intro pins s σ H D I h
  obtain ⟨v, e1, h⟩ := h
  obtain ⟨m, hn, hl⟩ := I.loc
  have vis : Vis X.env.scope x := by rcases hx with k | k; exact .inl k; exact .inr (.inl k)
  obtain ⟨u, r, l⟩ := hl i x v hi e1 vis
  refine wpAny_AugAssign_Name ?_
  have go : wpAny (model X.prog X.w) X.A (eval e X.env) (fun w s₂ => wpAny (model X.prog X.w) X.A (inplaceOp op u w) (fun r s₃ => wpAny (model X.prog X.w) X.A (storeName X.env x r) (fun _ => SP X pins D .next) X.xe s₃) X.xe s₂) X.xe s := by
    refine thn (he pins s σ H _ I h) fun w s1 ⟨y, H1, I1, r1, q1⟩ => ?_
    refine thn (ho pins s1 σ H1 v y u w _ I1 r r1 q1) fun z s2 ⟨zv, H2, I2, r2, q2⟩ => ?_
    exact store_ok I2 hN hi hx r2 (fun s3 I3 => ⟨_, H2, I3, q2⟩) hf
  rcases l with ⟨hk, hm⟩ | ⟨hk, c, hc, hcell⟩
  · exact wpAny_loadName_local I.ok.kind hk hn hm go
  · rcases hk with hk | hk
    · exact wpAny_loadName_cell I.ok.kind hk hc hcell go
    · rcases hx with k | k
      · have : X.env.scope.names.lookup x = some .free := hk
        rw [k] at this; cases this
      · have : X.env.scope.names.lookup x = some .free := hk
        rw [k] at this; cases this
/-- o[i] op= e -/
def tAugS (to ti te : TE) (tget : V → V → Hp → VK → Prop) (tip : TIp) (tset : TSet) : TS := fun D σ H => to σ H fun o H1 => ti σ H1 fun i H2 => tget o i H2 fun x H3 => te σ H3 fun y H4 => tip x y H4 fun z H5 => tset o i z H5 fun H6 => D.nx σ H6
/-- o[i], by values -/
def PGet (X : Cx) (t : V → V → Hp → VK → Prop) : Prop :=
  ∀ (pins : List (Addr × Obj)) (s : Shared) (σ : St) (H : Hp) (o i : V) (ov iv : Value) (Q : VK), Inv X pins σ H s → RelV o ov → RelV i iv → t o i H Q →
    wpAny (model X.prog X.w) X.A (getItem ov iv) (EP X pins σ Q) X.xe s
theorem ps_augS {o i e : Expr} {to ti te : TE} {tget : V → V → Hp → VK → Prop} {tip : TIp} {tset : TSet} {op : Operator} {tpos : Pos} (ho : PE X o to) (hi : PE X i ti) (hg : PGet X tget) (he : PE X e te) (hp : PIp X op tip) (hs : PSet X tset)
    (ha : ∀ ov iv new, augStore i ov iv new = (do holding [new, ov, iv] (setItem ov iv new); release [new, ov, iv] []; pure .next) := by intros; rfl) : PS X (.AugAssign (.Subscript o i tpos) op e pos) (tAugS to ti te tget tip tset) := by
  intro pins s σ H D I h
  refine wpAny_AugAssign_SubscriptAny (thn (ho pins s σ H _ I h) fun ov s1 ⟨x1, H1, I1, r1, q1⟩ => ?_) ha
  refine thn (hi pins s1 σ H1 _ I1 q1) fun iv s2 ⟨x2, H2, I2, r2, q2⟩ => ?_
  refine thn (hg pins s2 σ H2 x1 x2 ov iv _ I2 r1 r2 q2) fun old s3 ⟨x3, H3, I3, r3, q3⟩ => ?_
  refine thn (he pins s3 σ H3 _ I3 q3) fun v s4 ⟨x4, H4, I4, r4, q4⟩ => ?_
  refine thn (hp pins s4 σ H4 x3 x4 old v _ I4 r3 r4 q4) fun new s5 ⟨x5, H5, I5, r5, q5⟩ => ?_
  exact thn (hs pins s5 σ H5 x1 x2 x5 ov iv new _ I5 r1 r2 r5 q5) fun _ s6 ⟨H6, I6, q6⟩ => ⟨σ, H6, I6, q6⟩
/-- ints -/
def ipI (f : Int → Int → Int) : TIp := fun x y H Q => ∃ i j, x = .int i ∧ y = .int j ∧ Q (.int (f i j)) H
theorem ip_add : PIp X .Add (ipI fun i j => i + j) := by
  intro pins s σ H x y v u Q I r1 r2 h
  obtain ⟨i, j, e1, e2, q⟩ := h
  subst e1; subst e2
  obtain ⟨t, rfl⟩ := r1
  obtain ⟨t', rfl⟩ := r2
  exact iadd_int ⟨.int _, H, I.tok _, ⟨_, rfl⟩, q⟩
theorem ip_sub : PIp X .Sub (ipI fun i j => i - j) := by
  intro pins s σ H x y v u Q I r1 r2 h
  obtain ⟨i, j, e1, e2, q⟩ := h
  subst e1; subst e2
  obtain ⟨t, rfl⟩ := r1
  obtain ⟨t', rfl⟩ := r2
  exact isub_int ⟨.int _, H, I.tok _, ⟨_, rfl⟩, q⟩
end

/-! ### while -/
section
variable {X : Cx} {pos : Pos}
/-- the invariant W with its measure -/
def tWhile (c : TT) (tb : TS) : TS := fun D σ H => ∃ W : Nat → St → Hp → Prop, (∃ m, W m σ H) ∧ ∀ m σ H, W m σ H →
  c σ H fun b H1 => if b = true then ∃ N : St → Hp → Prop, (∀ σ' H', N σ' H' → ∃ m', m' < m ∧ W m' σ' H') ∧ tb { D with nx := N, ct := N, bk := D.nx } σ H1 else D.nx σ H1
theorem ps_while {c : Expr} {body : List Stmt} {tc : TT} {tb : TS} (hp : PassesOwn (model X.prog X.w) X.A X.env X.xe) (hc : PT X c tc) (hb : PSs X body tb) : PS X (.While c body [] pos) (tWhile tc tb) := by
  intro pins s σ H D I h
  obtain ⟨W, ⟨m0, w0⟩, turn⟩ := h
  refine wpAny_While (codeAny_whileLoop (fun n s' => ∃ σ' H', Inv X pins σ' H' s' ∧ W n σ' H') ?_ m0 ⟨σ, H, I, w0⟩)
  rintro n s1 ⟨σ1, H1, I1, w1⟩
  refine wpAny_passesOwn hp (thn (hc pins s1 σ1 H1 _ I1 (turn n σ1 H1 w1)) fun b s2 ⟨H2, I2, q2⟩ => ?_)
  cases b with
  | true =>
    obtain ⟨N, hN, q2⟩ := q2
    rw [if_pos rfl]
    refine wpAny_passesOwn hp (thn (hb pins s2 σ1 H2 _ I2 q2) fun f s3 q3 => ?_)
    cases f with
    | next =>
      obtain ⟨σ3, H3, I3, n3⟩ := q3
      obtain ⟨m', hm, w3⟩ := hN σ3 H3 n3
      exact ⟨m', hm, σ3, H3, I3, w3⟩
    | cont =>
      obtain ⟨σ3, H3, I3, n3⟩ := q3
      obtain ⟨m', hm, w3⟩ := hN σ3 H3 n3
      exact ⟨m', hm, σ3, H3, I3, w3⟩
    | brk => exact q3
    | ret v => exact q3
  | false =>
    rw [if_neg Bool.false_ne_true]
    exact wpAny_execs_nil ⟨σ1, H2, I2, q2⟩
end

/-! ### what a loop or a comprehension walks -/
/-- at turn i: it yields x (the heap may grow), or it stops -/
structure It where
  go : Nat → Hp → Prop
  yld : Nat → Hp → V → Hp → Prop
  stop : Nat → Hp → Prop
/-- the iterator's own objects may turn: they are not the frame's, not pinned, younger than the entry (or a comprehension's own) -/
def FpOk (X : Cx) (pins : List (Addr × Obj)) (H : Hp) (b : Addr) : Prop :=
  H b = none ∧ b ≠ X.env.locals ∧ b ∉ X.fs ∧ (b ∈ X.ex ∨ X.s₀.heap.objs.size ≤ b) ∧ (∀ x c, X.env.cells.lookup x = some c → c ≠ b) ∧ ∀ p ∈ X.pn ++ pins, p.1 ≠ b
theorem Inv.fpOk {X : Cx} {pins : List (Addr × Obj)} {σ : St} {H H' : Hp} {s : Shared} {b : Addr} (I : Inv X pins σ H s) (hb : s.heap.objs.size ≤ b) (hn : H' b = none) : FpOk X pins H' b := by
  refine ⟨hn, Nat.ne_of_gt (Nat.lt_of_lt_of_le I.lt hb), I.nofs hb, .inr (Nat.le_trans I.sz hb), fun x c e z => ?_, fun p hp z => ?_⟩
  · obtain ⟨v, q⟩ := I.cell x c e
    exact absurd (Nat.lt_of_lt_of_le q.lt (by rw [z]; exact hb)) (Nat.lt_irrefl _)
  · exact absurd (Nat.lt_of_lt_of_le (Heap.lt_size (I.pin p hp).1) (by rw [z]; exact hb)) (Nat.lt_irrefl _)
structure Turn (P : Program) (w : World) (K : PySem.W.Frag) (tg : Expr) (J : It) (fp : List Addr) (it : Addr) (tn : Nat → Heap → Prop) : Prop where
  mem : it ∈ fp
  obj : ∀ i h, tn i h → ∀ b ∈ fp, ∃ o, h.get? b = some o ∧ ∀ v, o.data ≠ .cell v
  keep : ∀ i h h', tn i h → (∀ b ∈ fp, ∀ o, h.get? b = some o → h'.get? b = some o) → tn i h'
  item : ∀ (X : Cx), X.prog = P → X.w = w → X.K = K → X.calm = true → ∀ (i : Nat) (pins : List (Addr × Obj)) (s : Shared) (σ : St) (H : Hp) (E : Value → Shared → Prop), Inv X pins σ H s → (∀ b ∈ fp, FpOk X pins H b) → tn i s.heap → J.go i H →
    wpAny (model P w) X.A (pyNext (.ref it)) (fun r s1 => ∃ u, r = some u ∧
      wpAny (model P w) X.A (letOwnedTupleGo tg (.ref it) u) (fun _ s2 => ∃ x H', Inv X pins σ H' s2 ∧ RelV x u ∧ J.yld i H x H' ∧ tn (i + 1) s2.heap ∧ ∀ b ∈ fp, H' b = none) E s1) E s
  done : ∀ (X : Cx), X.prog = P → X.w = w → X.K = K → X.calm = true → ∀ (i : Nat) (pins : List (Addr × Obj)) (s : Shared) (σ : St) (H : Hp) (E : Value → Shared → Prop), Inv X pins σ H s → (∀ b ∈ fp, FpOk X pins H b) → tn i s.heap → J.stop i H →
    wpAny (model P w) X.A (pyNext (.ref it)) (fun r s1 => r = none ∧ Inv X pins σ H s1) E s
  self : ∀ (A : Around) (i : Nat) (s : Shared) (Q : Value → Shared → Prop) (E : Value → Shared → Prop), tn i s.heap → Q (.ref it) s → wpAny (model P w) A (pyIter (.ref it)) Q E s
abbrev TI := St → Hp → (It → Hp → Prop) → Prop
/-- an iterator has come -/
def PIE (X : Cx) (pins : List (Addr × Obj)) (σ : St) (tg : Expr) (R : It → Hp → Prop) (itv : Value) (s2 : Shared) : Prop :=
  ∃ (it : Addr) (fp : List Addr) (tn : Nat → Heap → Prop) (J : It) (H' : Hp), itv = .ref it ∧ Inv X pins σ H' s2 ∧ Turn X.prog X.w X.K tg J fp it tn ∧ tn 0 s2.heap ∧ (∀ b ∈ fp, FpOk X pins H' b) ∧ R J H'
def PI (X : Cx) (tg iter : Expr) (wi : TI) : Prop :=
  ∀ (pins : List (Addr × Obj)) (s : Shared) (σ : St) (H : Hp) (R : It → Hp → Prop), Inv X pins σ H s → wi σ H R →
    wpAny (model X.prog X.w) X.A (eval iter X.env) (fun v s1 => wpAny (model X.prog X.w) X.A (pyIter v) (PIE X pins σ tg R) X.xe s1) X.xe s

/-- the step ahead of the store is nothing for an iterator that keeps no tuple -/
theorem go_of {M : Model} {A : Around} {E : Value → Shared → Prop} {s : Shared} {tg : Expr} {it : Addr} {u : Value} {o : Obj} {n : String} {vs : Array Value} {Q : Unit → Shared → Prop} (ho : s.heap.get? it = some o) (hc : o.cls = .type n) (hd : o.data = .fields vs)
    (hn : ["enumerate", "zip", "dict_itemiterator", "dict_reverseitemiterator", "odict_iterator", "itertools.zip_longest", "itertools.pairwise"].contains n = false) (hQ : Q () s) : wpAny M A (letOwnedTupleGo tg (.ref it) u) Q E s := by
  unfold letOwnedTupleGo
  cases tg <;> first
    | exact wpAny_pure hQ
    | (cases u <;> first
        | exact wpAny_pure hQ
        | (refine wpAny_bind (wpAny_load ho ?_)
           rw [hc, hd]
           show wpAny M A (if (["enumerate", "zip", "dict_itemiterator", "dict_reverseitemiterator", "odict_iterator", "itertools.zip_longest", "itertools.pairwise"].contains n && vs[0]? == some (rawInt _)) = true then _ else _) Q E s
           rw [if_neg (by intro h; rw [hn, Bool.false_and] at h; cases h)]
           exact wpAny_pure hQ))

/-- the list at a, as it stands at each turn (a loop may append to it) -/
def Itl (K : PySem.W.Frag) (a : Addr) : It :=
  ⟨fun i H => ∃ xs x, SqL K H a xs ∧ xs[i]? = some x, fun i H x H' => H' = H ∧ ∀ xs, SqL K H a xs → xs[i]? = some x, fun i H => ∃ xs, SqL K H a xs ∧ xs.length ≤ i⟩
def Itt (K : PySem.W.Frag) (a : Addr) : It :=
  ⟨fun i H => ∃ xs x, SqT K H a xs ∧ xs[i]? = some x, fun i H x H' => H' = H ∧ ∀ xs, SqT K H a xs → xs[i]? = some x, fun i H => ∃ xs, SqT K H a xs ∧ xs.length ≤ i⟩
/-- lo, lo + 1, .. (n of them) -/
def Itr (lo : Int) (n : Nat) : It := ⟨fun i _ => i < n, fun i H x H' => H' = H ∧ x = .int (lo + i), fun i _ => n ≤ i⟩
theorem turn_list {P : Program} {w : World} {K : PySem.W.Frag} {tg : Expr} (a it : Addr) : Turn P w K tg (Itl K a) [it] it (fun i h => h.IsListIter it a i) where
  mem := by simp
  obj := fun i h st b hb => by
    have e : b = it := by simpa using hb
    subst e
    obtain ⟨o, e, c, d⟩ := st
    exact ⟨o, e, fun v z => by rw [d] at z; cases z⟩
  keep := fun i h h' st k => st.at fun o e => k it (by simp) o e
  item := by
    intro X hP hw hK hc i pins s σ H E I hf st hg
    subst hP hw hK
    obtain ⟨xs, x, hq, hx⟩ := hg
    obtain ⟨its, rv, p, hz⟩ := I.list hq
    obtain ⟨u, hu, ru⟩ := rv.get hx
    obtain ⟨f0, f1, f2, f3, f4, f5⟩ := hf it (by simp)
    refine wpAny_pyNext_list_item st p.isList (x := u) (by simpa using hu) fun h' st' sb => ?_
    have I1 : Inv X pins σ H { s with heap := h' } := I.turned (t' := s.toks) (fun b o hb e => (sb.2 b hb).trans e) f0 f1 f3 f4 f5
    obtain ⟨o, e, c, d⟩ := id st'
    exact ⟨u, rfl, go_of (s := { s with heap := h' }) e c d (by decide) ⟨x, H, I1, ru, ⟨rfl, fun ys hy => by rw [I.list_inj hy hq]; exact hx⟩, st', fun b hb => (hf b hb).1⟩⟩
  done := by
    intro X hP hw hK hc i pins s σ H E I hf st hg
    subst hP hw hK
    obtain ⟨xs, hq, hx⟩ := hg
    obtain ⟨its, rv, p, hz⟩ := I.list hq
    obtain ⟨f0, f1, f2, f3, f4, f5⟩ := hf it (by simp)
    have hl := rv.length
    exact wpAny_pyNext_list_end (I.ok.hd hc) st p.isList (by simp; omega) fun h' eb => ⟨rfl, I.turned (t' := s.toks) (fun b o hb e => eb b o hb e) f0 f1 f3 f4 f5⟩
  self := fun _ _ _ _ _ st h => wpAny_pyIter_listiter st h
theorem turn_tuple {P : Program} {w : World} {K : PySem.W.Frag} {tg : Expr} (a it : Addr) : Turn P w K tg (Itt K a) [it] it (fun i h => h.IsTupleIter it a i) where
  mem := by simp
  obj := fun i h st b hb => by
    have e : b = it := by simpa using hb
    subst e
    obtain ⟨o, e, c, d⟩ := st
    exact ⟨o, e, fun v z => by rw [d] at z; cases z⟩
  keep := fun i h h' st k => st.at fun o e => k it (by simp) o e
  item := by
    intro X hP hw hK hc i pins s σ H E I hf st hg
    subst hP hw hK
    obtain ⟨xs, x, hq, hx⟩ := hg
    obtain ⟨its, rv, p, hz⟩ := I.tuple hq
    obtain ⟨u, hu, ru⟩ := rv.get hx
    obtain ⟨f0, f1, f2, f3, f4, f5⟩ := hf it (by simp)
    refine wpAny_pyNext_tuple_item st (show s.heap.IsTuple a its.toArray from p) (x := u) (by simpa using hu) fun h' st' sb => ?_
    have I1 : Inv X pins σ H { s with heap := h' } := I.turned (t' := s.toks) (fun b o hb e => (sb.2 b hb).trans e) f0 f1 f3 f4 f5
    obtain ⟨o, e, c, d⟩ := id st'
    exact ⟨u, rfl, go_of (s := { s with heap := h' }) e c d (by decide) ⟨x, H, I1, ru, ⟨rfl, fun ys hy => by rw [I.tuple_inj hy hq]; exact hx⟩, st', fun b hb => (hf b hb).1⟩⟩
  done := by
    intro X hP hw hK hc i pins s σ H E I hf st hg
    subst hP hw hK
    obtain ⟨xs, hq, hx⟩ := hg
    obtain ⟨its, rv, p, hz⟩ := I.tuple hq
    obtain ⟨f0, f1, f2, f3, f4, f5⟩ := hf it (by simp)
    have hl := rv.length
    exact wpAny_pyNext_tuple_end (I.ok.hd hc) st (show s.heap.IsTuple a its.toArray from p) (by simp; omega) fun h' eb => ⟨rfl, I.turned (t' := s.toks) (fun b o hb e => eb b o hb e) f0 f1 f3 f4 f5⟩
  self := fun _ _ _ _ _ st h => wpAny_pyIter_tupleiter st h
theorem turn_range {P : Program} {w : World} {K : PySem.W.Frag} {tg : Expr} (it : Addr) (lo : Int) (n : Nat) : Turn P w K tg (Itr lo n) [it] it (fun i h => IsRangeIter h it (lo + (i : Nat) * 1) ((n : Int) - (i : Nat)) 1) where
  mem := by simp
  obj := fun i h st b hb => by
    have e : b = it := by simpa using hb
    subst e
    exact ⟨_, st, fun v z => by
      have z' : Data.fields _ = Data.cell v := z
      cases z'⟩
  keep := fun i h h' st k => k it (by simp) _ st
  item := by
    intro X hP hw hK hc i pins s σ H E I hf st hg
    subst hP hw hK
    obtain ⟨f0, f1, f2, f3, f4, f5⟩ := hf it (by simp)
    have W := Walks.range (prog := X.prog) (w := X.w) (I.ok.hd hc) it lo 1 n
    refine W.item i s _ _ hg st fun v h' tk hv st' kk => ?_
    obtain ⟨t, rfl⟩ := hv
    have I1 : Inv X pins σ H { s with heap := h', toks := tk } := I.turned (fun b o hb e => kk b o (by simpa using hb) e) f0 f1 f3 f4 f5
    refine ⟨_, rfl, go_of (s := { s with heap := h', toks := tk }) (n := "range_iterator") st' rfl rfl (by decide) ⟨.int (lo + i), H, I1, ⟨t, ?_⟩, ⟨rfl, rfl⟩, st', fun b hb => (hf b hb).1⟩⟩
    rw [Int.mul_one]
  done := by
    intro X hP hw hK hc i pins s σ H E I hf st hg
    subst hP hw hK
    obtain ⟨f0, f1, f2, f3, f4, f5⟩ := hf it (by simp)
    exact wpAny_pyNext_range_end (I.ok.hd hc) st (by have : n ≤ i := hg; omega) fun h' eb => ⟨rfl, I.turned (t' := s.toks) (fun b o hb e => eb b o hb e) f0 f1 f3 f4 f5⟩
  self := fun _ _ _ _ _ st h => wpAny_pyIter_rangeiter st h
end L2

namespace L2
open PySem PySem.Spec PyProof.Rows
section
variable {X : Cx} {tg : Expr}
def iList (K : PySem.W.Frag) (tl : TE) : TI := fun σ H R => tl σ H fun x H1 => ∃ a, x = .ref a ∧ (∃ xs, SqL K H1 a xs) ∧ R (Itl K a) H1
def iTup (K : PySem.W.Frag) (tl : TE) : TI := fun σ H R => tl σ H fun x H1 => ∃ a, x = .ref a ∧ (∃ xs, SqT K H1 a xs) ∧ R (Itt K a) H1
theorem pi_list {l : Expr} {tl : TE} (hl : PE X l tl) : PI X tg l (iList X.K tl) := by
  intro pins s σ H R I h
  refine thn (hl pins s σ H _ I h) fun v s1 ⟨x, H1, I1, r1, q1⟩ => ?_
  obtain ⟨a, e, ⟨xs, hq⟩, q⟩ := q1
  subst e
  cases r1
  obtain ⟨its, rv, p, hz⟩ := I1.list hq
  refine wpAny_pyIter_list p.isList ?_
  refine ⟨s1.heap.objs.size, [s1.heap.objs.size], _, _, H1, rfl, I1.kept (t' := s1.toks) fun b o e => Heap.get?_push_of_some _ e, turn_list a _, ⟨_, Heap.get?_push_size _ rfl, rfl, rfl⟩, fun b hb => ?_, q⟩
  have e : b = s1.heap.objs.size := by simpa using hb
  subst e
  exact I1.fpOk (Nat.le_refl _) (I1.hok.fresh (Nat.le_refl _))
theorem pi_tup {l : Expr} {tl : TE} (hl : PE X l tl) : PI X tg l (iTup X.K tl) := by
  intro pins s σ H R I h
  refine thn (hl pins s σ H _ I h) fun v s1 ⟨x, H1, I1, r1, q1⟩ => ?_
  obtain ⟨a, e, ⟨xs, hq⟩, q⟩ := q1
  subst e
  cases r1
  obtain ⟨its, rv, p, hz⟩ := I1.tuple hq
  refine wpAny_pyIter_tuple (show s1.heap.IsTuple a its.toArray from p) ?_
  refine ⟨s1.heap.objs.size, [s1.heap.objs.size], _, _, H1, rfl, I1.kept (t' := s1.toks) fun b o e => Heap.get?_push_of_some _ e, turn_tuple a _, ⟨_, Heap.get?_push_size _ rfl, rfl, rfl⟩, fun b hb => ?_, q⟩
  have e : b = s1.heap.objs.size := by simpa using hb
  subst e
  exact I1.fpOk (Nat.le_refl _) (I1.hok.fresh (Nat.le_refl _))
/-- a range object just made, walked -/
theorem range_it {pins : List (Addr × Obj)} {σ : St} {H : Hp} {s : Shared} {R : It → Hp → Prop} {E : Value → Shared → Prop} {lo hi : Int} {t u v : Tok} {tk : Nat} (I : Inv X pins σ H s) (h1 : -(2 ^ 62) ≤ lo) (h2 : lo < 2 ^ 62) (h3 : -(2 ^ 62) ≤ hi) (h4 : hi < 2 ^ 62)
    (q : R (Itr lo (hi - lo).toNat) H) : wpAny (model X.prog X.w) X.A (pyIter (.ref s.heap.objs.size)) (PIE X pins σ tg R) E { s with heap := s.heap.push { cls := .type "range", data := .fields #[.int lo t, .int hi u, .int 1 v] }, toks := tk } := by
  refine wpAny_pyIter_range (IsRange.new ..) (small_one h1 h2 h3 h4) ?_
  have I1 : Inv X pins σ H { s with heap := s.heap.push { cls := .type "range", data := .fields #[.int lo t, .int hi u, .int 1 v] }, toks := tk } := I.kept fun b o e => Heap.get?_push_of_some _ e
  refine ⟨(s.heap.push { cls := .type "range", data := .fields #[.int lo t, .int hi u, .int 1 v] }).objs.size, [(s.heap.push { cls := .type "range", data := .fields #[.int lo t, .int hi u, .int 1 v] }).objs.size], _, _, H, rfl,
    I1.kept (t' := tk) fun b o e => Heap.get?_push_of_some _ e, turn_range _ lo (hi - lo).toNat, ?_, fun b hb => ?_, q⟩
  · have e1 : lo + ((0 : Nat) : Int) * 1 = lo := by simp
    have e2 : (((hi - lo).toNat : Nat) : Int) - ((0 : Nat) : Int) = Builtin.Range.rangeSize lo hi 1 := by rw [rangeSize_one]; split <;> omega
    show IsRangeIter _ _ (lo + ((0 : Nat) : Int) * 1) ((((hi - lo).toNat : Nat) : Int) - ((0 : Nat) : Int)) 1
    rw [e1, e2]
    exact Heap.get?_push_size _ rfl
  · have e : b = (s.heap.push { cls := .type "range", data := .fields #[.int lo t, .int hi u, .int 1 v] }).objs.size := by simpa using hb
    subst e
    exact I1.fpOk (Nat.le_refl _) (I1.hok.fresh (Nat.le_refl _))
def iRng1 (ta : TA) : TI := fun σ H R => ta σ H fun vs H1 => ∃ j : Int, vs = [.int j] ∧ -(2 ^ 62) ≤ j ∧ j < 2 ^ 62 ∧ R (Itr 0 j.toNat) H1
def iRng2 (ta : TA) : TI := fun σ H R => ta σ H fun vs H1 => ∃ i j : Int, vs = [.int i, .int j] ∧ (-(2 ^ 62) ≤ i ∧ i < 2 ^ 62 ∧ -(2 ^ 62) ≤ j ∧ j < 2 ^ 62) ∧ R (Itr i (j - i).toNat) H1
theorem pi_range1 {a : Expr} {ta : TA} {p pos : Pos} (hg : Gl X "range") (hm : X.mg "range" = none) (ha : PA X [a] ta) (hs : starEach [a] X.env = [(false, eval a X.env)] := by rfl) : PI X tg (.Call (.Name "range" p) [a] [] pos) (iRng1 ta) := by
  intro pins s σ H R I h
  refine Call_ (ld_blt I hg hm boot_range (PyProof.Rows.callWith_type1 (thn (ha pos pins s σ H _ I h) fun us s1 ⟨vs, H1, I1, r1, q1⟩ => ?_) hs rfl))
  obtain ⟨j, e, q1, q2, q⟩ := q1
  subst e
  cases r1 with
  | cons r rr =>
    cases rr
    obtain ⟨t, rfl⟩ := r
    exact call_range_1 (range_it I1 (by omega) (by omega) q1 q2 (by simpa using q))
theorem pi_range2 {a b : Expr} {ta : TA} {p pos : Pos} (hg : Gl X "range") (hm : X.mg "range" = none) (ha : PA X [a, b] ta) (hs : starEach [a, b] X.env = [(false, eval a X.env), (false, eval b X.env)] := by rfl) (hs2 : starEach [b] X.env = [(false, eval b X.env)] := by rfl) :
    PI X tg (.Call (.Name "range" p) [a, b] [] pos) (iRng2 ta) := by
  intro pins s σ H R I h
  refine Call_ (ld_blt I hg hm boot_range (PyProof.Rows.callWith_type1 (thn (ha pos pins s σ H _ I h) fun us s1 ⟨vs, H1, I1, r1, q1⟩ => ?_) (by rw [hs, hs2]) (by rw [hs2]; rfl)))
  obtain ⟨i, j, e, ⟨q1, q2, q3, q4⟩, q⟩ := q1
  subst e
  cases r1 with
  | cons r rr =>
    cases rr with
    | cons r' rr =>
      cases rr
      obtain ⟨t, rfl⟩ := r
      obtain ⟨t', rfl⟩ := r'
      exact call_range_2 (range_it I1 q1 q2 q3 q4 q)

/-! ### for -/
/-- W: the invariant by the turn and a measure; N: what the body is to reach -/
def tFor (wi : TI) (g : TG) (tb : TS) : TS := fun D σ H => wi σ H fun J H1 => ∃ W : Nat → Nat → St → Hp → Prop, (∃ m, W 0 m σ H1) ∧ ∀ i m σ H, W i m σ H →
  (J.stop i H ∧ D.nx σ H) ∨ (J.go i H ∧ ∃ N : St → Hp → Prop, (∀ σ' H', N σ' H' → ∃ m', m' < m ∧ W (i + 1) m' σ' H') ∧ ∀ x H', J.yld i H x H' → g x σ H' fun σ2 H2 => tb { D with nx := N, ct := N, bk := D.nx } σ2 H2)
/-- the records at fp as they stand -/
def pinsAt (fp : List Addr) (h : Heap) : List (Addr × Obj) := fp.filterMap fun b => (h.get? b).map fun o => (b, o)
theorem mem_pinsAt {fp : List Addr} {h : Heap} {b : Addr} {o : Obj} (hb : b ∈ fp) (e : h.get? b = some o) : (b, o) ∈ pinsAt fp h := List.mem_filterMap.mpr ⟨b, hb, by rw [e]; rfl⟩
theorem of_pinsAt {fp : List Addr} {h : Heap} {p : Addr × Obj} (hp : p ∈ pinsAt fp h) : p.1 ∈ fp ∧ h.get? p.1 = some p.2 := by
  obtain ⟨b, hb, e⟩ := List.mem_filterMap.mp hp
  cases q : h.get? b with
  | none => rw [q] at e; cases e
  | some o =>
    rw [q] at e
    have e' : (b, o) = p := Option.some.inj e
    subst e'
    exact ⟨hb, q⟩
theorem Inv.pinned {pins : List (Addr × Obj)} {σ : St} {H : Hp} {s : Shared} {fp : List Addr} (I : Inv X pins σ H s) (hf : ∀ b ∈ fp, FpOk X pins H b) (ho : ∀ b ∈ fp, ∃ o, s.heap.get? b = some o ∧ ∀ v, o.data ≠ .cell v) : Inv X (pins ++ pinsAt fp s.heap) σ H s :=
  I.pins_of fun p hp => (List.mem_append.mp hp).elim (fun z => I.pin p (List.mem_append_right _ z)) fun z => by
    obtain ⟨hb, e⟩ := of_pinsAt z
    obtain ⟨f0, f1, f2, _⟩ := hf p.1 hb
    obtain ⟨o, e', d⟩ := ho p.1 hb
    rw [e] at e'; cases e'
    exact ⟨e, f0, f1, f2, d⟩
theorem Inv.unpinned {pins pl : List (Addr × Obj)} {σ : St} {H : Hp} {s : Shared} (I : Inv X (pins ++ pl) σ H s) : Inv X pins σ H s := I.pins_of fun p hp => I.pin p (List.mem_append_right _ (List.mem_append_left _ hp))
theorem ps_for {iter : Expr} {body : List Stmt} {wi : TI} {g : TG} {tb : TS} {pos : Pos} (hp : PassesOwn (model X.prog X.w) X.A X.env X.xe) (hc : X.calm = true) (hi : PI X tg iter wi) (hg : PG X tg g) (hb : PSs X body tb)
    (hs : ∀ x, foldedSetIterable iter X.env x = pure x := by intro _; rfl) : PS X (.For tg iter body [] pos) (tFor wi g tb) := by
  intro pins s σ H D I h
  refine wpAny_For (thn (hi pins s σ H _ I h) fun v s1 h1 => thn h1 fun itv s2 h2 => ?_) hs
  obtain ⟨it, fp, tn, J, H2, e, I2, T, st2, f2, W, ⟨m0, w0⟩, turn⟩ := h2
  subst e
  -- what stays true of the iterator's objects through the loop
  have stat : ∀ {H' : Hp}, (∀ b ∈ fp, H' b = none) → ∀ b ∈ fp, FpOk X pins H' b := fun hn b hb => ⟨hn b hb, (f2 b hb).2⟩
  refine codeAny_forLoop_any (fun n s' => ∃ i σ' H', Inv X pins σ' H' s' ∧ tn i s'.heap ∧ (∀ b ∈ fp, H' b = none) ∧ W i n σ' H') ?_ m0 ⟨0, σ, H2, I2, st2, fun b hb => (f2 b hb).1, w0⟩
  rintro n s3 ⟨i, σ3, H3, I3, st3, fr3, w3⟩
  rcases turn i n σ3 H3 w3 with ⟨stop, qn⟩ | ⟨go, N, hN, step⟩
  · refine wpAny_passesOwn hp (thn (T.done X rfl rfl rfl hc i pins s3 σ3 H3 X.xe I3 (stat fr3) st3 stop) fun r s4 ⟨hr, I4⟩ => ?_)
    subst hr
    exact wpAny_execs_nil ⟨σ3, H3, I4, qn⟩
  · refine wpAny_passesOwn hp (thn (T.item X rfl rfl rfl hc i pins s3 σ3 H3 X.xe I3 (stat fr3) st3 go) fun r s4 ⟨u, hr, h4⟩ => ?_)
    subst hr
    refine wpAny_passesOwn hp (thn h4 fun _ s5 ⟨x, H5, I5, r5, y5, st5, fr5⟩ => ?_)
    have I5' := I5.pinned (stat fr5) (T.obj _ _ st5)
    refine wpAny_passesOwn hp (thn (hg _ s5 σ3 H5 x u _ I5' r5 (step x H5 y5)) fun _ s6 ⟨σ6, H6, I6, q6⟩ => ?_)
    refine wpAny_passesOwn hp (thn (hb _ s6 σ6 H6 _ I6 q6) fun f s7 q7 => ?_)
    have again : ∀ {σ7 : St} {H7 : Hp}, Inv X (pins ++ pinsAt fp s5.heap) σ7 H7 s7 → N σ7 H7 → ∃ m, m < n ∧ ∃ i σ' H', Inv X pins σ' H' s7 ∧ tn i s7.heap ∧ (∀ b ∈ fp, H' b = none) ∧ W i m σ' H' := fun {σ7 H7} I7 n7 => by
      obtain ⟨m', hm, w7⟩ := hN σ7 H7 n7
      refine ⟨m', hm, i + 1, σ7, H7, I7.unpinned, T.keep _ _ _ st5 fun b hb o e => (I7.pin (b, o) (List.mem_append_right _ (List.mem_append_right _ (mem_pinsAt hb e)))).1, fun b hb => ?_, w7⟩
      obtain ⟨o, e, d⟩ := T.obj _ _ st5 b hb
      exact (I7.pin (b, o) (List.mem_append_right _ (List.mem_append_right _ (mem_pinsAt hb e)))).2.1
    cases f with
    | next => obtain ⟨σ7, H7, I7, n7⟩ := q7; exact again I7 n7
    | cont => obtain ⟨σ7, H7, I7, n7⟩ := q7; exact again I7 n7
    | brk => obtain ⟨σ7, H7, I7, q7⟩ := q7; exact ⟨σ7, H7, I7.unpinned, q7⟩
    | ret v => obtain ⟨x7, σ7, H7, I7, r7, q7⟩ := q7; exact ⟨x7, σ7, H7, I7.unpinned, r7, q7⟩
end

/-! ### the forms one uses -/
/-- over a list that the body leaves as it is -/
theorem for_list {K : PySem.W.Frag} {a : Addr} {xs : List V} {g : TG} {tb : TS} {D : Ends} {σ : St} {H : Hp} (Pv : Nat → St → Hp → Prop) (h0 : Pv 0 σ H) (hl : ∀ i σ H, i ≤ xs.length → Pv i σ H → SqL K H a xs)
    (hs : ∀ i x σ H, xs[i]? = some x → Pv i σ H → g x σ H fun σ2 H2 => tb { D with nx := Pv (i + 1), ct := Pv (i + 1), bk := D.nx } σ2 H2) (hd : ∀ σ H, Pv xs.length σ H → D.nx σ H) :
    ∃ W : Nat → Nat → St → Hp → Prop, (∃ m, W 0 m σ H) ∧ ∀ i m σ H, W i m σ H →
      ((Itl K a).stop i H ∧ D.nx σ H) ∨ ((Itl K a).go i H ∧ ∃ N : St → Hp → Prop, (∀ σ' H', N σ' H' → ∃ m', m' < m ∧ W (i + 1) m' σ' H') ∧ ∀ x H', (Itl K a).yld i H x H' → g x σ H' fun σ2 H2 => tb { D with nx := N, ct := N, bk := D.nx } σ2 H2) := by
  refine ⟨fun i m σ H => m = xs.length - i ∧ i ≤ xs.length ∧ Pv i σ H, ⟨xs.length, by simp, Nat.zero_le _, h0⟩, ?_⟩
  rintro i m σ H ⟨rfl, hi, p⟩
  have q := hl i σ H hi p
  by_cases hlt : i < xs.length
  · refine .inr ⟨⟨xs, xs[i], q, by simp [hlt]⟩, Pv (i + 1), fun σ' H' p' => ⟨xs.length - (i + 1), by omega, rfl, hlt, p'⟩, fun x H' y => ?_⟩
    obtain ⟨e, y⟩ := y
    subst e
    exact hs i x σ _ (y xs q) p
  · have e : i = xs.length := by omega
    subst e
    exact .inl ⟨⟨xs, q, Nat.le_refl _⟩, hd σ H p⟩
theorem for_tup {K : PySem.W.Frag} {a : Addr} {xs : List V} {g : TG} {tb : TS} {D : Ends} {σ : St} {H : Hp} (Pv : Nat → St → Hp → Prop) (h0 : Pv 0 σ H) (hl : ∀ i σ H, i ≤ xs.length → Pv i σ H → SqT K H a xs)
    (hs : ∀ i x σ H, xs[i]? = some x → Pv i σ H → g x σ H fun σ2 H2 => tb { D with nx := Pv (i + 1), ct := Pv (i + 1), bk := D.nx } σ2 H2) (hd : ∀ σ H, Pv xs.length σ H → D.nx σ H) :
    ∃ W : Nat → Nat → St → Hp → Prop, (∃ m, W 0 m σ H) ∧ ∀ i m σ H, W i m σ H →
      ((Itt K a).stop i H ∧ D.nx σ H) ∨ ((Itt K a).go i H ∧ ∃ N : St → Hp → Prop, (∀ σ' H', N σ' H' → ∃ m', m' < m ∧ W (i + 1) m' σ' H') ∧ ∀ x H', (Itt K a).yld i H x H' → g x σ H' fun σ2 H2 => tb { D with nx := N, ct := N, bk := D.nx } σ2 H2) := by
  refine ⟨fun i m σ H => m = xs.length - i ∧ i ≤ xs.length ∧ Pv i σ H, ⟨xs.length, by simp, Nat.zero_le _, h0⟩, ?_⟩
  rintro i m σ H ⟨rfl, hi, p⟩
  have q := hl i σ H hi p
  by_cases hlt : i < xs.length
  · refine .inr ⟨⟨xs, xs[i], q, by simp [hlt]⟩, Pv (i + 1), fun σ' H' p' => ⟨xs.length - (i + 1), by omega, rfl, hlt, p'⟩, fun x H' y => ?_⟩
    obtain ⟨e, y⟩ := y
    subst e
    exact hs i x σ _ (y xs q) p
  · have e : i = xs.length := by omega
    subst e
    exact .inl ⟨⟨xs, q, Nat.le_refl _⟩, hd σ H p⟩
theorem for_range {lo : Int} {n : Nat} {g : TG} {tb : TS} {D : Ends} {σ : St} {H : Hp} (Pv : Nat → St → Hp → Prop) (h0 : Pv 0 σ H)
    (hs : ∀ i σ H, i < n → Pv i σ H → g (.int (lo + i)) σ H fun σ2 H2 => tb { D with nx := Pv (i + 1), ct := Pv (i + 1), bk := D.nx } σ2 H2) (hd : ∀ σ H, Pv n σ H → D.nx σ H) :
    ∃ W : Nat → Nat → St → Hp → Prop, (∃ m, W 0 m σ H) ∧ ∀ i m σ H, W i m σ H →
      ((Itr lo n).stop i H ∧ D.nx σ H) ∨ ((Itr lo n).go i H ∧ ∃ N : St → Hp → Prop, (∀ σ' H', N σ' H' → ∃ m', m' < m ∧ W (i + 1) m' σ' H') ∧ ∀ x H', (Itr lo n).yld i H x H' → g x σ H' fun σ2 H2 => tb { D with nx := N, ct := N, bk := D.nx } σ2 H2) := by
  refine ⟨fun i m σ H => m = n - i ∧ i ≤ n ∧ Pv i σ H, ⟨n, by simp, Nat.zero_le _, h0⟩, ?_⟩
  rintro i m σ H ⟨rfl, hi, p⟩
  by_cases hlt : i < n
  · refine .inr ⟨hlt, Pv (i + 1), fun σ' H' p' => ⟨n - (i + 1), by omega, rfl, hlt, p'⟩, fun x H' y => ?_⟩
    obtain ⟨e, y⟩ := y
    subst e y
    exact hs i σ _ hlt p
  · have e : i = n := by omega
    subst e
    exact .inl ⟨Nat.le_refl _, hd σ H p⟩
/-- while, by a word and a measure of the state -/
theorem while_by {c : TT} {tb : TS} {D : Ends} {σ : St} {H : Hp} (Pv : St → Hp → Prop) (μ : St → Hp → Nat) (h0 : Pv σ H)
    (hs : ∀ σ H, Pv σ H → c σ H fun b H1 => if b = true then tb { D with nx := fun σ' H' => Pv σ' H' ∧ μ σ' H' < μ σ H, ct := fun σ' H' => Pv σ' H' ∧ μ σ' H' < μ σ H, bk := D.nx } σ H1 else D.nx σ H1)
    (mono : ∀ σ H Q Q', (∀ b H1, Q b H1 → Q' b H1) → c σ H Q → c σ H Q') : tWhile c tb D σ H := by
  refine ⟨fun m σ H => m = μ σ H ∧ Pv σ H, ⟨_, rfl, h0⟩, ?_⟩
  rintro m σ H ⟨rfl, p⟩
  refine mono σ H _ _ (fun b H1 q => ?_) (hs σ H p)
  cases b with
  | true => exact ⟨_, fun σ' H' ⟨p', l⟩ => ⟨_, l, rfl, p'⟩, q⟩
  | false => exact q
end L2

namespace L2
open PySem PySem.Spec PyProof.Rows

abbrev R2 := V → V → Hp → VK → Prop
/-- a two-place operation on values: f is binaryOp op, inplaceOp op or compareOp op -/
def OpR (X : Cx) (f : Value → Value → Sem Value) (r : R2) : Prop :=
  ∀ (pins : List (Addr × Obj)) (s : Shared) (σ : St) (H : Hp) (x y : V) (v u : Value) (Q : VK), Inv X pins σ H s → RelV x v → RelV y u → r x y H Q →
    wpAny (model X.prog X.w) X.A (f v u) (EP X pins σ Q) X.xe s
/-- a one-place operation -/
def UnR (X : Cx) (f : Value → Sem Value) (r : V → Hp → VK → Prop) : Prop :=
  ∀ (pins : List (Addr × Obj)) (s : Shared) (σ : St) (H : Hp) (x : V) (v : Value) (Q : VK), Inv X pins σ H s → RelV x v → r x H Q →
    wpAny (model X.prog X.w) X.A (f v) (EP X pins σ Q) X.xe s
/-- a call of a value that is known (a builtin, a type) with values -/
def CallR (X : Cx) (f : Value) (r : List V → Hp → VK → Prop) : Prop :=
  ∀ (pins : List (Addr × Obj)) (s : Shared) (σ : St) (H : Hp) (xs : List V) (us : List Value) (Q : VK), Inv X pins σ H s → Vals xs us → r xs H Q →
    wpAny (model X.prog X.w) X.A (call f us) (EP X pins σ Q) X.xe s
/-- a value's truth -/
def TruR (X : Cx) (r : V → Hp → (Bool → Hp → Prop) → Prop) : Prop :=
  ∀ (pins : List (Addr × Obj)) (s : Shared) (σ : St) (H : Hp) (x : V) (v : Value) (Q : Bool → Hp → Prop), Inv X pins σ H s → RelV x v → r x H Q →
    wpAny (model X.prog X.w) X.A (truthy v) (TP X pins σ Q) X.xe s

def tOp (r : R2) (ta tb : TE) : TE := fun σ H Q => ta σ H fun x H1 => tb σ H1 fun y H2 => r x y H2 Q
def tUn (r : V → Hp → VK → Prop) (ta : TE) : TE := fun σ H Q => ta σ H fun x H1 => r x H1 Q
/-- ints in, under C, and a value out -/
def rI (C : Int → Int → Prop) (g : Int → Int → V) : R2 := fun x y H Q => ∃ i j, x = .int i ∧ y = .int j ∧ C i j ∧ Q (g i j) H
def rI0 (g : Int → Int → V) : R2 := fun x y H Q => ∃ i j, x = .int i ∧ y = .int j ∧ Q (g i j) H
def rU (g : Int → V) : V → Hp → VK → Prop := fun x H Q => ∃ i, x = .int i ∧ Q (g i) H

section
variable {X : Cx} {a b c : Expr} {ta tb tc : TE} {pos : Pos}

theorem binT (ha : PE X a ta) (hb : PE X b tb) {pins : List (Addr × Obj)} {s : Shared} {σ : St} {H : Hp} {R : V → V → Hp → Prop} (I : Inv X pins σ H s)
    (h : ta σ H fun x H1 => tb σ H1 fun y H2 => R x y H2) {Q : Value → Shared → Prop} {f : Value → Value → Sem Value}
    (hf : ∀ v u s2 x y H2, Inv X pins σ H2 s2 → RelV x v → RelV y u → R x y H2 → wpAny (model X.prog X.w) X.A (f v u) Q X.xe s2) :
    wpAny (model X.prog X.w) X.A (eval a X.env) (fun v s₁ => wpAny (model X.prog X.w) X.A (eval b X.env) (fun u s₂ => wpAny (model X.prog X.w) X.A (f v u) Q X.xe s₂) X.xe s₁) X.xe s := by
  refine thn (ha pins s σ H _ I h) fun v s1 ⟨x, H1, I1, r1, q1⟩ => ?_
  refine thn (hb pins s1 σ H1 _ I1 q1) fun u s2 ⟨y, H2, I2, r2, q2⟩ => ?_
  exact hf v u s2 x y H2 I2 r1 r2 q2

theorem pe_op {op : Operator} {r : R2} (ho : OpR X (binaryOp op) r) (ha : PE X a ta) (hb : PE X b tb) : PE X (.BinOp a op b pos) (tOp r ta tb) := by
  intro pins s σ H Q I h
  exact wpAny_BinOp (binT ha hb I h fun v u s2 x y H2 I2 rx ry q => ho pins s2 σ H2 x y v u Q I2 rx ry q)
theorem pe_un {op : UnaryOp} {r : V → Hp → VK → Prop} (ho : UnR X (unaryOp op) r) (ha : PE X a ta) : PE X (.UnaryOp op a pos) (tUn r ta) := by
  intro pins s σ H Q I h
  exact UnaryOp_ (thn (ha pins s σ H _ I h) fun v s1 ⟨x, H1, I1, r1, q1⟩ => ho pins s1 σ H1 x v Q I1 r1 q1)
/-- a op= e at a name: the name's slot i -/
theorem augR {op : Operator} {r : R2} (ho : OpR X (inplaceOp op) r) {pins : List (Addr × Obj)} {s : Shared} {σ : St} {H : Hp} {x y : V} {v u : Value} {Q : VK} (I : Inv X pins σ H s)
    (rx : RelV x v) (ry : RelV y u) (q : r x y H Q) : wpAny (model X.prog X.w) X.A (inplaceOp op v u) (EP X pins σ Q) X.xe s := ho pins s σ H x y v u Q I rx ry q

/-! ### ints -/
theorem opI {f : Value → Value → Sem Value} {C : Int → Int → Prop} {g : Int → Int → Int}
    (rule : ∀ (i j : Int) (t u : Tok) (s : Shared) (Q : Value → Shared → Prop) (E : Value → Shared → Prop), C i j → Q (.int (g i j) s.toks) { s with toks := s.toks + 1 } → wpAny (model X.prog X.w) X.A (f (.int i t) (.int j u)) Q E s) :
    OpR X f (rI C fun i j => .int (g i j)) := by
  intro pins s σ H x y v u Q I rx ry h
  obtain ⟨i, j, rfl, rfl, hc, q⟩ := h
  obtain ⟨t, rfl⟩ := rx
  obtain ⟨t', rfl⟩ := ry
  exact rule i j t t' s _ _ hc ⟨.int (g i j), H, I.tok _, ⟨_, rfl⟩, q⟩
theorem opI0 {f : Value → Value → Sem Value} {g : Int → Int → Int}
    (rule : ∀ (i j : Int) (t u : Tok) (s : Shared) (Q : Value → Shared → Prop) (E : Value → Shared → Prop), Q (.int (g i j) s.toks) { s with toks := s.toks + 1 } → wpAny (model X.prog X.w) X.A (f (.int i t) (.int j u)) Q E s) :
    OpR X f (rI0 fun i j => .int (g i j)) := by
  intro pins s σ H x y v u Q I rx ry h
  obtain ⟨i, j, rfl, rfl, q⟩ := h
  obtain ⟨t, rfl⟩ := rx
  obtain ⟨t', rfl⟩ := ry
  exact rule i j t t' s _ _ ⟨.int (g i j), H, I.tok _, ⟨_, rfl⟩, q⟩
theorem opB0 {f : Value → Value → Sem Value} {g : Int → Int → Bool}
    (rule : ∀ (i j : Int) (t u : Tok) (s : Shared) (Q : Value → Shared → Prop) (E : Value → Shared → Prop), Q (.bool (g i j)) s → wpAny (model X.prog X.w) X.A (f (.int i t) (.int j u)) Q E s) :
    OpR X f (rI0 fun i j => .bl (g i j)) := by
  intro pins s σ H x y v u Q I rx ry h
  obtain ⟨i, j, rfl, rfl, q⟩ := h
  obtain ⟨t, rfl⟩ := rx
  obtain ⟨t', rfl⟩ := ry
  exact rule i j t t' s _ _ ⟨.bl (g i j), H, I, rfl, q⟩

def CDiv (i j : Int) : Prop := 0 < j ∧ j < 1073741824
def CDivN (i j : Int) : Prop := j ≠ 0 ∧ j.natAbs < 1073741824
def CPow (i j : Int) : Prop := 0 ≤ j ∧ j ≤ 1000000 ∧ i.natAbs < 2 ^ 64
def CMul (i j : Int) : Prop := (-(2 ^ 64) < i ∧ i < 2 ^ 64) ∨ (-(2 ^ 64) < j ∧ j < 2 ^ 64)
theorem CMul.ok {i j : Int} (h : CMul i j) : IntMulOk i j := by
  rcases h with ⟨h1, h2⟩ | ⟨h1, h2⟩
  · exact .of_left (intBits_le_64 h1 h2)
  · exact .of_right (intBits_le_64 h1 h2)
theorem two_pow_nn (k : Nat) : (0 : Int) ≤ 2 ^ k := by
  rw [two_pow_cast]
  exact Int.natCast_nonneg _

theorem op_add : OpR X (binaryOp .Add) (rI0 fun i j => .int (i + j)) := opI0 fun _ _ _ _ _ _ _ q => add_int q
theorem op_sub : OpR X (binaryOp .Sub) (rI0 fun i j => .int (i - j)) := opI0 fun _ _ _ _ _ _ _ q => sub_int q
theorem op_mul : OpR X (binaryOp .Mult) (rI CMul fun i j => .int (i * j)) := opI fun _ _ _ _ _ _ _ hc q => mul_int q hc.ok
/-- // by a positive divisor -/
theorem op_fdiv : OpR X (binaryOp .FloorDiv) (rI CDiv fun i j => .int (i / j)) := opI fun i j _ _ _ _ _ hc q => by
  have h1 : (0 : Int) < j := hc.1
  have h2 : j < 1073741824 := hc.2
  exact floordiv_int (by omega) (by rw [Int.fdiv_eq_ediv_of_nonneg i (by omega)]; exact q) (.inl (PyProof.noPylong_small (by omega)))
theorem op_fdivN : OpR X (binaryOp .FloorDiv) (rI CDivN fun i j => .int (i.fdiv j)) := opI fun _ _ _ _ _ _ _ hc q => floordiv_int hc.1 q (.inl (PyProof.noPylong_small hc.2))
/-- % by a positive divisor of any size -/
theorem op_mod : OpR X (binaryOp .Mod) (rI (fun _ j => 0 < j) fun i j => .int (i % j)) := opI fun i j _ _ _ _ _ hc q => by
  have h1 : (0 : Int) < j := hc
  exact mod_int' (by omega) (by rw [Int.fmod_eq_emod_of_nonneg i (by omega)]; exact q)
theorem op_modN : OpR X (binaryOp .Mod) (rI (fun _ j => j ≠ 0) fun i j => .int (i.fmod j)) := opI fun _ _ _ _ _ _ _ hc q => mod_int' hc q
theorem op_pow : OpR X (binaryOp .Pow) (rI CPow fun i j => .int (i ^ j.toNat)) := opI fun _ _ _ _ _ _ _ hc q => pow_int_small hc.1 hc.2.1 hc.2.2 q
theorem op_shl : OpR X (binaryOp .LShift) (rI CPow fun i j => .int (i * 2 ^ j.toNat)) := opI fun _ _ _ _ _ _ _ hc q => lshift_int_small hc.1 hc.2.1 hc.2.2 q
theorem op_shr : OpR X (binaryOp .RShift) (rI (fun _ j => 0 ≤ j) fun i j => .int (i / 2 ^ j.toNat)) := opI fun i j _ _ _ _ _ hc q =>
  rshift_int hc (by rw [Int.fdiv_eq_ediv_of_nonneg i (two_pow_nn _)]; exact q)
theorem op_and : OpR X (binaryOp .BitAnd) (rI0 fun i j => .int (Builtin.bitAnd i j)) := opI0 fun _ _ _ _ _ _ _ q => and_int q
theorem op_or : OpR X (binaryOp .BitOr) (rI0 fun i j => .int (Builtin.bitOr i j)) := opI0 fun _ _ _ _ _ _ _ q => or_int q
theorem op_xor : OpR X (binaryOp .BitXor) (rI0 fun i j => .int (Builtin.bitXor i j)) := opI0 fun _ _ _ _ _ _ _ q => xor_int q

theorem iop_add : OpR X (inplaceOp .Add) (rI0 fun i j => .int (i + j)) := opI0 fun _ _ _ _ _ _ _ q => iadd_int q
theorem iop_sub : OpR X (inplaceOp .Sub) (rI0 fun i j => .int (i - j)) := opI0 fun _ _ _ _ _ _ _ q => isub_int q
theorem iop_mul : OpR X (inplaceOp .Mult) (rI CMul fun i j => .int (i * j)) := opI fun _ _ _ _ _ _ _ hc q => imul_int q hc.ok
theorem iop_fdiv : OpR X (inplaceOp .FloorDiv) (rI CDiv fun i j => .int (i / j)) := opI fun i j _ _ _ _ _ hc q => by
  have h1 : (0 : Int) < j := hc.1
  have h2 : j < 1073741824 := hc.2
  exact ifloordiv_int (by omega) (by rw [Int.fdiv_eq_ediv_of_nonneg i (by omega)]; exact q) (.inl (PyProof.noPylong_small (by omega)))
theorem iop_mod : OpR X (inplaceOp .Mod) (rI (fun _ j => 0 < j) fun i j => .int (i % j)) := opI fun i j _ _ _ _ _ hc q => by
  have h1 : (0 : Int) < j := hc
  exact imod_int (by omega) (by rw [Int.fmod_eq_emod_of_nonneg i (by omega)]; exact q)
theorem iop_shl : OpR X (inplaceOp .LShift) (rI CPow fun i j => .int (i * 2 ^ j.toNat)) := opI fun _ _ _ _ _ _ _ hc q => ilshift_int_small hc.1 hc.2.1 hc.2.2 q
theorem iop_shr : OpR X (inplaceOp .RShift) (rI (fun _ j => 0 ≤ j) fun i j => .int (i / 2 ^ j.toNat)) := opI fun i j _ _ _ _ _ hc q =>
  irshift_int hc (by rw [Int.fdiv_eq_ediv_of_nonneg i (two_pow_nn _)]; exact q)
theorem iop_and : OpR X (inplaceOp .BitAnd) (rI0 fun i j => .int (Builtin.bitAnd i j)) := opI0 fun _ _ _ _ _ _ _ q => iand_int q
theorem iop_or : OpR X (inplaceOp .BitOr) (rI0 fun i j => .int (Builtin.bitOr i j)) := opI0 fun _ _ _ _ _ _ _ q => ior_int q
theorem iop_xor : OpR X (inplaceOp .BitXor) (rI0 fun i j => .int (Builtin.bitXor i j)) := opI0 fun _ _ _ _ _ _ _ q => ixor_int q

theorem unI {f : Value → Sem Value} {g : Int → Int}
    (rule : ∀ (i : Int) (t : Tok) (s : Shared) (Q : Value → Shared → Prop) (E : Value → Shared → Prop), Q (.int (g i) s.toks) { s with toks := s.toks + 1 } → wpAny (model X.prog X.w) X.A (f (.int i t)) Q E s) :
    UnR X f (rU fun i => .int (g i)) := by
  intro pins s σ H x v Q I rx h
  obtain ⟨i, rfl, q⟩ := h
  obtain ⟨t, rfl⟩ := rx
  exact rule i t s _ _ ⟨.int (g i), H, I.tok _, ⟨_, rfl⟩, q⟩
theorem un_neg : UnR X (unaryOp .USub) (rU fun i => .int (-i)) := unI fun _ _ _ _ _ q => neg_int q
theorem un_inv : UnR X (unaryOp .Invert) (rU fun i => .int (Builtin.bitNot i)) := unI fun _ _ _ _ _ q => invert_int q

/-! ### bools among ints: n += (a < b) -/
theorem op_add_ib : OpR X (binaryOp .Add) (fun x y H Q => ∃ i k, x = .int i ∧ y = .bl k ∧ Q (.int (i + b2i k)) H) := by
  intro pins s σ H x y v u Q I rx ry h
  obtain ⟨i, k, rfl, rfl, q⟩ := h
  obtain ⟨t, rfl⟩ := rx
  cases ry
  exact add_int_bool ⟨.int (i + b2i k), H, I.tok _, ⟨_, rfl⟩, q⟩
end

/-! ### comparisons -/
/-- the scalars that == tells apart as data does -/
def scal : V → V → Bool
  | .non, .non => true | .non, .int _ => true | .int _, .non => true | .non, .bl _ => true | .bl _, .non => true | .non, .str _ => true | .str _, .non => true
  | .int _, .int _ => true | .bl _, .bl _ => true | .str _, .str _ => true | .byt _, .byt _ => true
  | .int _, .str _ => true | .str _, .int _ => true | .bl _, .str _ => true | .str _, .bl _ => true
  | _, _ => false
def rEq : R2 := fun x y H Q => scal x y = true ∧ Q (.bl (decide (x = y))) H
def rNe : R2 := fun x y H Q => scal x y = true ∧ Q (.bl (!decide (x = y))) H

theorem dec_int {i j : Int} : decide (V.int i = V.int j) = (i == j) := by
  rw [Bool.eq_iff_iff]
  simp
theorem dec_bl {i j : Bool} : decide (V.bl i = V.bl j) = (i == j) := by
  rw [Bool.eq_iff_iff]
  simp
theorem dec_str {i j : Str} : decide (V.str i = V.str j) = (i == j) := by
  rw [Bool.eq_iff_iff]
  simp
theorem dec_byt {i j : Array UInt8} : decide (V.byt i = V.byt j) = (i.toList == j.toList) := by
  rw [Bool.eq_iff_iff]
  cases i
  cases j
  simp

section
variable {X : Cx} {a b c : Expr} {ta tb tc : TE} {pos : Pos}
theorem fin_bl {pins : List (Addr × Obj)} {σ : St} {H : Hp} {s : Shared} {Q : VK} {k k' : Bool} (I : Inv X pins σ H s) (q : Q (.bl k) H) (e : k = k') : EP X pins σ Q (.bool k') s := by
  subst e
  exact ⟨.bl k, H, I, rfl, q⟩
theorem op_eq : OpR X (compareOp .Eq) rEq := by
  intro pins s σ H x y v u Q I rx ry h
  obtain ⟨hs, q⟩ := h
  cases x with
  | non =>
    cases rx
    cases y with
    | non => cases ry; exact PySem.EqNone.eq_none_none (fin_bl I q (by simp))
    | bl j => cases ry; exact PySem.EqNone.eq_none_bool (fin_bl I q (by simp))
    | int j => obtain ⟨t', rfl⟩ := ry; exact PySem.EqNone.eq_none_int (fin_bl I q (by simp))
    | str j => obtain ⟨t', rfl⟩ := ry; exact PySem.EqNone.eq_none_str (fin_bl I q (by simp))
    | _ => exact absurd (show false = true from hs) Bool.false_ne_true
  | bl i =>
    cases rx
    cases y with
    | non => cases ry; exact PySem.EqNone.eq_bool_none (fin_bl I q (by simp))
    | bl j => cases ry; exact eq_bool (fin_bl I q dec_bl)
    | str j => obtain ⟨t', rfl⟩ := ry; exact PySem.EqMixed.eq_bool_str (fin_bl I q (by simp))
    | _ => exact absurd (show false = true from hs) Bool.false_ne_true
  | int i =>
    obtain ⟨t, rfl⟩ := rx
    cases y with
    | non => cases ry; exact PySem.EqNone.eq_int_none (fin_bl I q (by simp))
    | int j => obtain ⟨t', rfl⟩ := ry; exact eq_int (fin_bl I q dec_int)
    | str j => obtain ⟨t', rfl⟩ := ry; exact PySem.EqMixed.eq_int_str (fin_bl I q (by simp))
    | _ => exact absurd (show false = true from hs) Bool.false_ne_true
  | str i =>
    obtain ⟨t, rfl⟩ := rx
    cases y with
    | non => cases ry; exact PySem.EqNone.eq_str_none (fin_bl I q (by simp))
    | bl j => cases ry; exact PySem.EqMixed.eq_str_bool (fin_bl I q (by simp))
    | int j => obtain ⟨t', rfl⟩ := ry; exact PySem.EqMixed.eq_str_int (fin_bl I q (by simp))
    | str j => obtain ⟨t', rfl⟩ := ry; exact eq_str (fin_bl I q dec_str)
    | _ => exact absurd (show false = true from hs) Bool.false_ne_true
  | byt i =>
    obtain ⟨t, rfl⟩ := rx
    cases y with
    | byt j => obtain ⟨t', rfl⟩ := ry; exact PySem.W.eq_bytes (fin_bl I q dec_byt)
    | _ => exact absurd (show false = true from hs) Bool.false_ne_true
  | _ => cases y <;> exact absurd (show false = true from hs) Bool.false_ne_true
theorem op_ne : OpR X (compareOp .NotEq) rNe := by
  intro pins s σ H x y v u Q I rx ry h
  obtain ⟨hs, q⟩ := h
  cases x with
  | non =>
    cases rx
    cases y with
    | non => cases ry; exact PySem.EqNone.ne_none_none (fin_bl I q (by simp))
    | bl j => cases ry; exact PySem.EqNone.ne_none_bool (fin_bl I q (by simp))
    | int j => obtain ⟨t', rfl⟩ := ry; exact PySem.EqNone.ne_none_int (fin_bl I q (by simp))
    | str j => obtain ⟨t', rfl⟩ := ry; exact PySem.EqNone.ne_none_str (fin_bl I q (by simp))
    | _ => exact absurd (show false = true from hs) Bool.false_ne_true
  | bl i =>
    cases rx
    cases y with
    | non => cases ry; exact PySem.EqNone.ne_bool_none (fin_bl I q (by simp))
    | bl j => cases ry; exact ne_bool (fin_bl I q (congrArg not dec_bl))
    | str j => obtain ⟨t', rfl⟩ := ry; exact PySem.EqMixed.ne_bool_str (fin_bl I q (by simp))
    | _ => exact absurd (show false = true from hs) Bool.false_ne_true
  | int i =>
    obtain ⟨t, rfl⟩ := rx
    cases y with
    | non => cases ry; exact PySem.EqNone.ne_int_none (fin_bl I q (by simp))
    | int j => obtain ⟨t', rfl⟩ := ry; exact ne_int (fin_bl I q (congrArg not dec_int))
    | str j => obtain ⟨t', rfl⟩ := ry; exact PySem.EqMixed.ne_int_str (fin_bl I q (by simp))
    | _ => exact absurd (show false = true from hs) Bool.false_ne_true
  | str i =>
    obtain ⟨t, rfl⟩ := rx
    cases y with
    | non => cases ry; exact PySem.EqNone.ne_str_none (fin_bl I q (by simp))
    | bl j => cases ry; exact PySem.EqMixed.ne_str_bool (fin_bl I q (by simp))
    | int j => obtain ⟨t', rfl⟩ := ry; exact PySem.EqMixed.ne_str_int (fin_bl I q (by simp))
    | str j => obtain ⟨t', rfl⟩ := ry; exact ne_str (fin_bl I q (congrArg not dec_str))
    | _ => exact absurd (show false = true from hs) Bool.false_ne_true
  | byt i =>
    obtain ⟨t, rfl⟩ := rx
    cases y with
    | byt j => obtain ⟨t', rfl⟩ := ry; exact PySem.W.ne_bytes (fin_bl I q (congrArg not dec_byt))
    | _ => exact absurd (show false = true from hs) Bool.false_ne_true
  | _ => cases y <;> exact absurd (show false = true from hs) Bool.false_ne_true

theorem op_lt : OpR X (compareOp .Lt) (rI0 fun i j => .bl (decide (i < j))) := opB0 fun _ _ _ _ _ _ _ q => lt_int q
theorem op_le : OpR X (compareOp .LtE) (rI0 fun i j => .bl (decide (i ≤ j))) := opB0 fun _ _ _ _ _ _ _ q => le_int q
theorem op_gt : OpR X (compareOp .Gt) (rI0 fun i j => .bl (decide (j < i))) := opB0 fun _ _ _ _ _ _ _ q => gt_int q
theorem op_ge : OpR X (compareOp .GtE) (rI0 fun i j => .bl (decide (j ≤ i))) := opB0 fun _ _ _ _ _ _ _ q => ge_int q
theorem op_lt_str : OpR X (compareOp .Lt) (fun x y H Q => ∃ i j, x = .str i ∧ y = .str j ∧ Q (.bl (decide (i.cps.toList < j.cps.toList))) H) := by
  intro pins s σ H x y v u Q I rx ry h
  obtain ⟨i, j, rfl, rfl, q⟩ := h
  obtain ⟨t, rfl⟩ := rx
  obtain ⟨t', rfl⟩ := ry
  exact lt_str (fin_bl I q rfl)
/-- the one string within the other -/
theorem op_in_str : OpR X (compareOp .In) (fun x y H Q => ∃ i j, x = .str i ∧ y = .str j ∧ Q (.bl (!(Builtin.Str.occurrences j i 0 j.length 1).isEmpty)) H) := by
  intro pins s σ H x y v u Q I rx ry h
  obtain ⟨i, j, rfl, rfl, q⟩ := h
  obtain ⟨t, rfl⟩ := rx
  obtain ⟨t', rfl⟩ := ry
  exact in_str (fin_bl I q rfl)

/-- is None, is not None: the right side a value none -/
theorem op_isN : OpR X (compareOp .Is) (fun x y H Q => y = .non ∧ Q (.bl (decide (x = .non))) H) := by
  intro pins s σ H x y v u Q I rx ry h
  obtain ⟨rfl, q⟩ := h
  cases ry
  refine is_none_gen (fin_bl I q ?_)
  cases x <;> first
    | (cases rx; rfl)
    | (obtain ⟨t, rfl⟩ := rx; rfl)
theorem op_notN : OpR X (compareOp .IsNot) (fun x y H Q => y = .non ∧ Q (.bl (!decide (x = .non))) H) := by
  intro pins s σ H x y v u Q I rx ry h
  obtain ⟨rfl, q⟩ := h
  cases ry
  refine isnot_none_gen (fin_bl I q ?_)
  cases x <;> first
    | (cases rx; rfl)
    | (obtain ⟨t, rfl⟩ := rx; rfl)

theorem op_notin_str : OpR X (compareOp .NotIn) (fun x y H Q => ∃ i j, x = .str i ∧ y = .str j ∧ Q (.bl (!(!(Builtin.Str.occurrences j i 0 j.length 1).isEmpty))) H) := by
  intro pins s σ H x y v u Q I rx ry h
  obtain ⟨i, j, rfl, rfl, q⟩ := h
  obtain ⟨t, rfl⟩ := rx
  obtain ⟨t', rfl⟩ := ry
  exact notIn_str (fin_bl I q rfl)
/-- is, is not of two objects that are tracked lists or instances -/
def isObj : HO → Bool
  | .lst _ => true
  | .ins _ _ _ => true
  | _ => false
theorem obj_there {pins : List (Addr × Obj)} {s : Shared} {σ : St} {H : Hp} {a : Addr} {o : HO} (I : Inv X pins σ H s) (h : H a = some o) (p : isObj o = true) : ∃ ob, s.heap.get? a = some ob ∧ ob.cls ≠ .type "tuple" := by
  cases o with
  | lst xs =>
    obtain ⟨_, its, n, _, e⟩ : xs.length ≤ sizeLine ∧ ∃ (its : List Value) (n : Nat), Vals xs its ∧ s.heap.get? a = some { cls := .type "list", data := .seq its.toArray n } := I.hok a _ h
    exact ⟨_, e, (by show Value.type "list" ≠ .type "tuple"; decide +kernel)⟩
  | ins C dx fs =>
    have x := I.hok a _ h
    obtain ⟨_, _, _, e, _⟩ := x
    exact ⟨_, e, (by show Value.ref C ≠ .type "tuple"; exact fun z => by cases z)⟩
  | _ => exact absurd (show false = true from p) Bool.false_ne_true
theorem op_is_ref : OpR X (compareOp .Is) (fun x y H Q => ∃ a b oa ob, x = .ref a ∧ y = .ref b ∧ H a = some oa ∧ isObj oa = true ∧ H b = some ob ∧ isObj ob = true ∧ Q (.bl (decide (a = b))) H) := by
  intro pins s σ H x y v u Q I rx ry h
  obtain ⟨a, b, oa, ob, rfl, rfl, ha, pa, hb, pb, q⟩ := h
  cases rx
  cases ry
  obtain ⟨o1, e1, n1⟩ := obj_there I ha pa
  obtain ⟨o2, e2, _⟩ := obj_there I hb pb
  by_cases z : a = b
  · subst z
    exact wpAny_is_ref_self (fin_bl I q (by simp))
  · exact wpAny_is_ref_other z e1 e2 n1 (fin_bl I q (by simp [z]))
theorem op_isnot_ref : OpR X (compareOp .IsNot) (fun x y H Q => ∃ a b oa ob, x = .ref a ∧ y = .ref b ∧ H a = some oa ∧ isObj oa = true ∧ H b = some ob ∧ isObj ob = true ∧ Q (.bl (!decide (a = b))) H) := by
  intro pins s σ H x y v u Q I rx ry h
  obtain ⟨a, b, oa, ob, rfl, rfl, ha, pa, hb, pb, q⟩ := h
  cases rx
  cases ry
  obtain ⟨o1, e1, n1⟩ := obj_there I ha pa
  obtain ⟨o2, e2, _⟩ := obj_there I hb pb
  by_cases z : a = b
  · subst z
    exact wpAny_isNot_ref_self (fin_bl I q (by simp))
  · exact wpAny_isNot_ref_other z e1 e2 n1 (fin_bl I q (by simp [z]))

/-- two rules for one operation: by cases -/
theorem OpR.or {f : Value → Value → Sem Value} {r r' : R2} (h : OpR X f r) (h' : OpR X f r') : OpR X f (fun x y H Q => r x y H Q ∨ r' x y H Q) := by
  intro pins s σ H x y v u Q I rx ry q
  rcases q with q | q
  · exact h pins s σ H x y v u Q I rx ry q
  · exact h' pins s σ H x y v u Q I rx ry q

theorem nomark (b : Expr) {op : CmpOp} (h : op ≠ .In := by decide) (h2 : op ≠ .NotIn := by decide) : behindInMarks op b = false := by
  have e1 : (op == CmpOp.In) = false := by cases op <;> first | rfl | exact absurd rfl h
  have e2 : (op == CmpOp.NotIn) = false := by cases op <;> first | rfl | exact absurd rfl h2
  cases b <;> simp [behindInMarks, e1, e2]
/-- a comparison as a value; hm: nomark b, or (for in, not in) by with_unfolding_all rfl -/
theorem pe_cmpR {op : CmpOp} {r : R2} (ho : OpR X (compareOp op) r) (ha : PE X a ta) (hb : PE X b tb) (hm : behindInMarks op b = false) : PE X (.Compare a [op] [b] pos) (tOp r ta tb) := by
  intro pins s σ H Q I h
  exact wpAny_Compare1 (binT ha hb I h fun v u s2 x y H2 I2 rx ry q => ho pins s2 σ H2 x y v u Q I2 rx ry q) hm
/-- a reading of a value as a test -/
def tTest (t : TE) : TT := fun σ H Q => t σ H fun x H' => ∃ k, x = .bl k ∧ Q k H'
theorem pt_cmpR {op : CmpOp} {r : R2} (ho : OpR X (compareOp op) r) (ha : PE X a ta) (hb : PE X b tb) (hm : behindInMarks op b = false) : PT X (.Compare a [op] [b] pos) (tTest (tOp r ta tb)) := by
  intro pins s σ H Q I h
  refine wpAny_isTrue_Compare1 (thn (ha pins s σ H _ I h) fun v s1 ⟨x, H1, I1, r1, q1⟩ => thn (hb pins s1 σ H1 _ I1 q1) fun u s2 ⟨y, H2, I2, r2, q2⟩ =>
    thn (ho pins s2 σ H2 x y v u _ I2 r1 r2 q2) fun c s3 ⟨z, H3, I3, r3, k, e, q3⟩ => ?_) hm
  subst e
  cases r3
  exact wpAny_truthy_bool ⟨H3, I3, q3⟩
/-- a op1 b op2 c -/
def tChain (r r' : R2) (ta tb tc : TE) : TE := fun σ H Q => ta σ H fun x H1 => tb σ H1 fun y H2 => r x y H2 fun z H3 => ∃ k, z = .bl k ∧
  (if k = true then tc σ H3 fun w' H4 => r' y w' H4 Q else Q (.bl false) H3)
theorem pe_chain {op op' : CmpOp} {r r' : R2} (ho : OpR X (compareOp op) r) (ho' : OpR X (compareOp op') r') (ha : PE X a ta) (hb : PE X b tb) (hc : PE X c tc)
    (hm : lastMarks [op, op'] [b, c] = false := by with_unfolding_all rfl) : PE X (.Compare a [op, op'] [b, c] pos) (tChain r r' ta tb tc) := by
  intro pins s σ H Q I h
  refine Compare_chain (thn (ha pins s σ H _ I h) fun v s1 ⟨x, H1, I1, r1, q1⟩ => chain_link (thn (hb pins s1 σ H1 _ I1 q1) fun u s2 ⟨y, H2, I2, r2, q2⟩ =>
    thn (ho pins s2 σ H2 x y v u _ I2 r1 r2 q2) fun d s3 ⟨z, H3, I3, r3, k, e, q3⟩ => ?_)) hm
  subst e
  cases r3
  refine wpAny_truthy_bool ?_
  cases k with
  | false => exact ite_ff ⟨.bl false, H3, I3, rfl, q3⟩
  | true => exact ite_tt (chain_last (thn (hc pins s3 σ H3 _ I3 q3) fun w' s4 ⟨z', H4, I4, r4, q4⟩ => ho' pins s4 σ H4 y z' u w' Q I4 r2 r4 q4))
theorem pt_chain {op op' : CmpOp} {r r' : R2} (ho : OpR X (compareOp op) r) (ho' : OpR X (compareOp op') r') (ha : PE X a ta) (hb : PE X b tb) (hc : PE X c tc)
    (hm : lastMarks [op, op'] [b, c] = false := by with_unfolding_all rfl) : PT X (.Compare a [op, op'] [b, c] pos) (tTest (tChain r r' ta tb tc)) := by
  intro pins s σ H Q I h
  refine isTrue_chain (thn (ha pins s σ H _ I h) fun v s1 ⟨x, H1, I1, r1, q1⟩ => test_link (thn (hb pins s1 σ H1 _ I1 q1) fun u s2 ⟨y, H2, I2, r2, q2⟩ =>
    thn (ho pins s2 σ H2 x y v u _ I2 r1 r2 q2) fun d s3 ⟨z, H3, I3, r3, k, e, q3⟩ => ?_)) hm
  subst e
  cases r3
  refine wpAny_truthy_bool ?_
  cases k with
  | false =>
    obtain ⟨k', e', q'⟩ := q3
    cases e'
    exact ite_ff ⟨H3, I3, q'⟩
  | true =>
    refine ite_tt (test_last (thn (hc pins s3 σ H3 _ I3 q3) fun w' s4 ⟨z', H4, I4, r4, q4⟩ => thn (ho' pins s4 σ H4 y z' u w' _ I4 r2 r4 q4) fun d' s5 ⟨z2, H5, I5, r5, k2, e2, q5⟩ => ?_))
    subst e2
    cases r5
    exact wpAny_truthy_bool ⟨H5, I5, q5⟩

/-! ### truth -/
/-- a value's truth by the abstract heap -/
def TruV (K : PySem.W.Frag) (x : V) (H : Hp) (k : Bool) : Prop :=
  match x with
  | .non => k = false
  | .bl b => k = b
  | .int i => k = (i != 0)
  | .str y => y.length ≤ sizeLine ∧ k = ((y.length : Int) != 0)
  | .byt y => y.size ≤ sizeLine ∧ k = ((y.size : Int) != 0)
  | .ref p => (∃ xs, SqL K H p xs ∧ k = !xs.isEmpty) ∨ (∃ xs, SqT K H p xs ∧ k = !xs.isEmpty) ∨ ∃ kvs, H p = some (.dK kvs) ∧ k = !kvs.isEmpty
  | _ => False
theorem isEmpty_kv {κ : Type} {kvs : List (κ × V)} {vs : List (κ × Value)} (r : KV kvs vs) : (!vs.isEmpty) = !kvs.isEmpty := by
  cases r <;> rfl
theorem isEmpty_of {xs : List V} {its : List Value} (r : Vals xs its) : (!its.toArray.isEmpty) = !xs.isEmpty := by
  cases r <;> simp
theorem line63 : (sizeLine : Nat) < 2 ^ 63 := by rw [sizeLine_eq]; decide
theorem tru_ok : TruR X (fun x H Q => ∃ k, TruV X.K x H k ∧ Q k H) := by
  intro pins s σ H x v Q I rx h
  obtain ⟨k, e, q⟩ := h
  have hl := line63
  have hs : sizeLine = 16777216 := sizeLine_eq
  cases x with
  | non =>
    cases rx
    have e' : k = false := e
    subst e'
    exact truthy_none ⟨H, I, q⟩
  | bl b =>
    cases rx
    have e' : k = b := e
    subst e'
    exact wpAny_truthy_bool ⟨H, I, q⟩
  | int i =>
    obtain ⟨t, rfl⟩ := rx
    have e' : k = (i != 0) := e
    subst e'
    exact PySem.P.truthy_int ⟨H, I, q⟩
  | str y =>
    obtain ⟨t, rfl⟩ := rx
    obtain ⟨hy, e'⟩ : y.length ≤ sizeLine ∧ k = ((y.length : Int) != 0) := e
    subst e'
    exact PySem.P.truthy_str (by omega) ⟨H, I.tok _, q⟩
  | byt y =>
    obtain ⟨t, rfl⟩ := rx
    obtain ⟨hy, e'⟩ : y.size ≤ sizeLine ∧ k = ((y.size : Int) != 0) := e
    subst e'
    exact PySem.W.truthy_bytes (by omega) ⟨H, I.tok _, q⟩
  | ref p =>
    cases rx
    have e' : (∃ xs, SqL X.K H p xs ∧ k = !xs.isEmpty) ∨ (∃ xs, SqT X.K H p xs ∧ k = !xs.isEmpty) ∨ ∃ kvs, H p = some (.dK kvs) ∧ k = !kvs.isEmpty := e
    rcases e' with ⟨xs, hx, e'⟩ | ⟨xs, hx, e'⟩ | ⟨kvs, hx, e'⟩
    · subst e'
      obtain ⟨its, r, pl, hz⟩ := I.list hx
      have hlen := r.length
      exact wpAny_truthy_list pl.isList (by simp only [List.size_toArray]; omega) ⟨H, I.tok _, by rw [isEmpty_of r]; exact q⟩
    · subst e'
      obtain ⟨its, r, pl, hz⟩ := I.tuple hx
      have hlen := r.length
      exact truthy_tuple pl (by simp only [List.size_toArray]; omega) ⟨H, I.tok _, by rw [isEmpty_of r]; exact q⟩
    · subst e'
      obtain ⟨hz, hS, vs, r, m⟩ : kvs.length ≤ sizeLine ∧ (p == sysModules) = false ∧ ∃ vs, KV kvs vs ∧ s.heap.DictOf (mixKind X.prog X.w) p vs := I.hok p _ hx
      have hlen : kvs.length = vs.length := Paired.length r
      exact wpAny_truthy_dict hS m (by omega) ⟨H, I.tok _, by rw [isEmpty_kv r]; exact q⟩
  | _ => exact (show False from e).elim
/-- any expression whose test is its value's truth (a name, a call, a subscript, a field ..: he by fun _ => rfl) -/
theorem pt_truth (ha : PE X a ta) (he : ∀ whole, isTrue a X.env whole = (do let v ← whole; standAt a.pos; holding [v] (truthy v))) :
    PT X a (fun σ H Q => ta σ H fun x H' => ∃ k, TruV X.K x H' k ∧ Q k H') := by
  intro pins s σ H Q I h
  exact isTrue_plain (thn (ha pins s σ H _ I h) fun v s1 ⟨x, H1, I1, r1, q1⟩ => tru_ok pins s1 σ H1 x v Q I1 r1 q1) (he _)

/-! ### strs and bytes -/
theorem pe_byt {x : List UInt8} {k : Nat} : PE X (.Constant (.bytes x) k pos) (fun _ H Q => Q (.byt x.toArray) H) := fun _ _ _ H _ I h => PySem.W.Constant_bytes ⟨.byt x.toArray, H, I.tok _, ⟨_, rfl⟩, h⟩
theorem op_add_str : OpR X (binaryOp .Add) (fun x y H Q => ∃ i j, x = .str i ∧ y = .str j ∧ i.length + j.length ≤ sizeLine ∧ Q (.str (i ++ j)) H) := by
  intro pins s σ H x y v u Q I rx ry h
  obtain ⟨i, j, rfl, rfl, hz, q⟩ := h
  obtain ⟨t, rfl⟩ := rx
  obtain ⟨t', rfl⟩ := ry
  exact add_str (fun t' tk => ⟨.str (i ++ j), H, I.tok _, ⟨_, rfl⟩, q⟩) hz
theorem iop_add_str : OpR X (inplaceOp .Add) (fun x y H Q => ∃ i j, x = .str i ∧ y = .str j ∧ i.length + j.length ≤ sizeLine ∧ Q (.str (i ++ j)) H) := by
  intro pins s σ H x y v u Q I rx ry h
  obtain ⟨i, j, rfl, rfl, hz, q⟩ := h
  obtain ⟨t, rfl⟩ := rx
  obtain ⟨t', rfl⟩ := ry
  exact iadd_str (fun t' tk => ⟨.str (i ++ j), H, I.tok _, ⟨_, rfl⟩, q⟩) hz
theorem op_add_byt : OpR X (binaryOp .Add) (fun x y H Q => ∃ i j, x = .byt i ∧ y = .byt j ∧ i.size + j.size ≤ 16777216 ∧ Q (.byt (i ++ j)) H) := by
  intro pins s σ H x y v u Q I rx ry h
  obtain ⟨i, j, rfl, rfl, hz, q⟩ := h
  obtain ⟨t, rfl⟩ := rx
  obtain ⟨t', rfl⟩ := ry
  exact PySem.W.KBy.add_bytes hz (fun t' tk => ⟨.byt (i ++ j), H, I.tok _, ⟨_, rfl⟩, q⟩)

def PlainIxT (b : Expr) : Prop := ∀ o i, subscripted b false o i = operate [o, i] (getItem o i)
/-- s[i], 0 ≤ i < len -/
theorem pe_item_str (ha : PE X a ta) (hb : PE X b tb) (hs : PlainIxT b) :
    PE X (.Subscript a b pos) (tOp (fun x y H Q => ∃ z i c, x = .str z ∧ y = .int i ∧ 0 ≤ i ∧ i < 2 ^ 63 ∧ i < z.length ∧ z.cps[i.toNat]? = some c ∧ Q (.str ⟨#[c]⟩) H) ta tb) := by
  intro pins s σ H Q I h
  refine Subscript_ (binT ha hb I h fun v u s2 x y H2 I2 rx ry q => ?_)
  obtain ⟨z, i, c, rfl, rfl, h0, h63, h1, hc, q⟩ := q
  obtain ⟨t, rfl⟩ := rx
  obtain ⟨t', rfl⟩ := ry
  have e : seqIndex? i z.length = some i.toNat := PySem.StrLaws.seqIndex_nonneg h0 h1
  exact tail_any (typeIs_str s2 z t) slot_str_getitem.lookup (getItem_str (c := c) (by
    have e1 : decide (i < -(2 ^ 63 : Int)) = false := decide_eq_false (by omega)
    have e2 : decide (i ≥ 2 ^ 63) = false := decide_eq_false (by omega)
    rw [e1, e2] <;> rfl) (by rw [e]; exact hc) ⟨.str ⟨#[c]⟩, H2, I2.tok _, ⟨_, rfl⟩, q⟩) (hs _ _)
/-- b[i], 0 ≤ i < len -/
theorem pe_item_byt (ha : PE X a ta) (hb : PE X b tb) (hs : PlainIxT b) :
    PE X (.Subscript a b pos) (tOp (fun x y H Q => ∃ (z : List UInt8) (i : Int), x = .byt z.toArray ∧ y = .int i ∧ z.length ≤ sizeLine ∧ 0 ≤ i ∧ i < z.length ∧ Q (.int ((z.getD i.toNat 0).toNat : Nat)) H) ta tb) := by
  intro pins s σ H Q I h
  refine Subscript_ (binT ha hb I h fun v u s2 x y H2 I2 rx ry q => ?_)
  obtain ⟨z, i, rfl, rfl, hz, h0, h1, q⟩ := q
  obtain ⟨t, rfl⟩ := rx
  obtain ⟨t', rfl⟩ := ry
  have hl : sizeLine = 16777216 := sizeLine_eq
  exact tail_any (PySem.W.typeIs_bytes s2 z.toArray t) PySem.W.FB.slot_bytes_getitem.lookup (PySem.W.getItem_bytes (by omega) h0 h1 ⟨.int ((z.getD i.toNat 0).toNat : Nat), H2, I2.tok _, ⟨_, rfl⟩, q⟩) (hs _ _)

/-! ### scalar builtins, by CallR -/
theorem vals1 {x : V} {us : List Value} (r : Vals [x] us) : ∃ u, us = [u] ∧ RelV x u := by
  cases r with
  | cons r1 r2 => cases r2; exact ⟨_, rfl, r1⟩
theorem vals2 {x y : V} {us : List Value} (r : Vals [x, y] us) : ∃ u w', us = [u, w'] ∧ RelV x u ∧ RelV y w' := by
  cases r with
  | cons r1 r2 =>
    cases r2 with
    | cons r3 r4 => cases r4; exact ⟨_, _, rfl, r1, r3⟩
theorem call_abs : CallR X (.builtin "abs") (fun xs H Q => ∃ i, xs = [.int i] ∧ Q (.int (if i < 0 then -i else i)) H) := by
  intro pins s σ H xs us Q I r h
  obtain ⟨i, rfl, q⟩ := h
  obtain ⟨u, rfl, t, rfl⟩ := vals1 r
  exact call_abs_int fun u tk => ⟨.int (if i < 0 then -i else i), H, I.tok _, ⟨_, rfl⟩, q⟩
theorem call_max2 (hc : X.calm = true) : CallR X (.builtin "max") (fun xs H Q => ∃ i j, xs = [.int i, .int j] ∧ Q (.int (if j > i then j else i)) H) := by
  intro pins s σ H xs us Q I r h
  obtain ⟨i, j, rfl, q⟩ := h
  obtain ⟨u, w', rfl, ⟨t, rfl⟩, ⟨t', rfl⟩⟩ := vals2 r
  refine max_two_ints (I.ok.hd hc) fun h' tk k => ⟨_, H, I.kept k, ?_, q⟩
  by_cases hj : j > i
  · rw [if_pos hj, if_pos hj]; exact ⟨_, rfl⟩
  · rw [if_neg hj, if_neg hj]; exact ⟨_, rfl⟩
theorem call_min2 (hc : X.calm = true) : CallR X (.builtin "min") (fun xs H Q => ∃ i j, xs = [.int i, .int j] ∧ Q (.int (if j < i then j else i)) H) := by
  intro pins s σ H xs us Q I r h
  obtain ⟨i, j, rfl, q⟩ := h
  obtain ⟨u, w', rfl, ⟨t, rfl⟩, ⟨t', rfl⟩⟩ := vals2 r
  refine min_two_ints (I.ok.hd hc) fun h' tk k => ⟨_, H, I.kept k, ?_, q⟩
  by_cases hj : j < i
  · rw [if_pos hj, if_pos hj]; exact ⟨_, rfl⟩
  · rw [if_neg hj, if_neg hj]; exact ⟨_, rfl⟩
theorem call_int1 : CallR X (.type "int") (fun xs H Q => (∃ i, xs = [.int i] ∧ Q (.int i) H) ∨ ∃ k, xs = [.bl k] ∧ Q (.int (if k then 1 else 0)) H) := by
  intro pins s σ H xs us Q I r h
  rcases h with ⟨i, rfl, q⟩ | ⟨k, rfl, q⟩
  · obtain ⟨u, rfl, t, rfl⟩ := vals1 r
    exact call_int_int ⟨.int i, H, I, ⟨_, rfl⟩, q⟩
  · obtain ⟨u, rfl, r1⟩ := vals1 r
    cases r1
    exact call_int_bool ⟨.int (if k then 1 else 0), H, I.tok _, ⟨_, rfl⟩, q⟩
theorem call_bool1 : CallR X (.type "bool") (fun xs H Q => (∃ i, xs = [.int i] ∧ Q (.bl (i != 0)) H) ∨ ∃ k, xs = [.bl k] ∧ Q (.bl k) H) := by
  intro pins s σ H xs us Q I r h
  rcases h with ⟨i, rfl, q⟩ | ⟨k, rfl, q⟩
  · obtain ⟨u, rfl, t, rfl⟩ := vals1 r
    exact call_bool_int ⟨.bl (i != 0), H, I, rfl, q⟩
  · obtain ⟨u, rfl, r1⟩ := vals1 r
    cases r1
    exact call_bool_bool ⟨.bl k, H, I, rfl, q⟩
theorem call_str_int : CallR X (.type "str") (fun xs H Q => ∃ i, xs = [.int i] ∧ i.natAbs.log2 < 1920 ∧ Q (.str (toString i)) H) := by
  intro pins s σ H xs us Q I r h
  obtain ⟨i, rfl, hz, q⟩ := h
  obtain ⟨u, rfl, t, rfl⟩ := vals1 r
  exact PySem.P.str_of_int hz ⟨.str _, H, I.tok _, ⟨_, rfl⟩, q⟩
theorem call_ord : CallR X (.builtin "ord") (fun xs H Q => ∃ x, xs = [.str x] ∧ x.length = 1 ∧ Q (.int (x.cps.getD 0 0 : Nat)) H) := by
  intro pins s σ H xs us Q I r h
  obtain ⟨x, rfl, hz, q⟩ := h
  obtain ⟨u, rfl, t, rfl⟩ := vals1 r
  exact ord_of_one hz ⟨.int _, H, I.tok _, ⟨_, rfl⟩, q⟩
theorem call_chr : CallR X (.builtin "chr") (fun xs H Q => ∃ i, xs = [.int i] ∧ 0 ≤ i ∧ i ≤ 1114111 ∧ Q (.str ⟨#[i.toNat]⟩) H) := by
  intro pins s σ H xs us Q I r h
  obtain ⟨i, rfl, h0, h1, q⟩ := h
  obtain ⟨u, rfl, t, rfl⟩ := vals1 r
  exact chr_of_range h0 h1 ⟨.str _, H, I.tok _, ⟨_, rfl⟩, q⟩
/-- len of a str, a bytes, a list, a tuple -/
def LenV (K : PySem.W.Frag) (x : V) (H : Hp) (n : Nat) : Prop :=
  match x with
  | .str y => y.length ≤ sizeLine ∧ n = y.length
  | .byt y => y.size ≤ sizeLine ∧ n = y.size
  | .ref p => (∃ xs, SqL K H p xs ∧ n = xs.length) ∨ ∃ xs, SqT K H p xs ∧ n = xs.length
  | _ => False
theorem call_len : CallR X (.builtin "len") (fun xs H Q => ∃ x n, xs = [x] ∧ LenV X.K x H n ∧ Q (.int n) H) := by
  intro pins s σ H xs us Q I r h
  obtain ⟨x, n, rfl, e, q⟩ := h
  obtain ⟨u, rfl, rx⟩ := vals1 r
  have hl := line63
  have hs : sizeLine = 16777216 := sizeLine_eq
  cases x with
  | str y =>
    obtain ⟨t, rfl⟩ := rx
    obtain ⟨hy, e'⟩ : y.length ≤ sizeLine ∧ n = y.length := e
    subst e'
    exact len_str (by omega) ⟨.int _, H, I.tok _, ⟨_, rfl⟩, q⟩
  | byt y =>
    obtain ⟨t, rfl⟩ := rx
    obtain ⟨hy, e'⟩ : y.size ≤ sizeLine ∧ n = y.size := e
    subst e'
    exact PySem.W.len_bytes (by omega) ⟨.int _, H, I.tok _, ⟨_, rfl⟩, q⟩
  | ref p =>
    cases rx
    have e' : (∃ xs, SqL X.K H p xs ∧ n = xs.length) ∨ ∃ xs, SqT X.K H p xs ∧ n = xs.length := e
    rcases e' with ⟨xs, hx, e'⟩ | ⟨xs, hx, e'⟩
    · subst e'
      obtain ⟨its, r', pl, hz⟩ := I.list hx
      have hlen := r'.length
      exact Calls.call_len_list pl.isList (by simp only [List.size_toArray]; omega) ⟨.int xs.length, H, I.tok _, ⟨_, by simp only [List.size_toArray]; rw [hlen]⟩, q⟩
    · subst e'
      obtain ⟨its, r', pl, hz⟩ := I.tuple hx
      have hlen := r'.length
      exact len_tuple pl (by simp only [List.size_toArray]; omega) ⟨.int xs.length, H, I.tok _, ⟨_, by simp only [List.size_toArray]; rw [hlen]⟩, q⟩
  | _ => exact (show False from e).elim
/-- divmod: a new tuple -/
theorem call_divmod : CallR X (.builtin "divmod") (fun xs H Q => ∃ i j, xs = [.int i, .int j] ∧ CDiv i j ∧ ∀ p, H p = none → Q (.ref p) (upd H p (.tup [.int (i / j), .int (i % j)]))) := by
  intro pins s σ H xs us Q I r h
  obtain ⟨i, j, rfl, ⟨h1, h2⟩, q⟩ := h
  obtain ⟨u, w', rfl, ⟨t, rfl⟩, ⟨t', rfl⟩⟩ := vals2 r
  refine divmod_int (by omega) ?_ (.inl (PyProof.noPylong_small (by omega)))
  rw [Int.fdiv_eq_ediv_of_nonneg i (by omega), Int.fmod_eq_emod_of_nonneg i (by omega)]
  have hn : H s.heap.objs.size = none := I.hok.fresh (Nat.le_refl _)
  refine ⟨.ref s.heap.objs.size, _, ?_, rfl, q _ hn⟩
  refine I.laid (fun b o e => Heap.get?_push_of_some _ e) (Nat.le_refl _) ⟨by simp only [List.length_cons, List.length_nil]; rw [sizeLine_eq]; decide, [.int (i / j) s.toks, .int (i % j) (s.toks + 1)], .cons ⟨_, rfl⟩ (.cons ⟨_, rfl⟩ .nil), ?_⟩
  exact ⟨_, Heap.get?_push_size s.heap rfl, rfl, 0, rfl⟩
end
end L2

namespace L2
open PySem PySem.Spec PyProof.Rows

/-! ### an instance, its attributes a map -/
structure ObjM (h : Heap) (x dx C : Addr) (mA : Str → Option Value) : Prop where
  obj : h.get? x = some (PySem.W.instObj C dx)
  ns : h.Ns1 dx mA
  ne : dx ≠ x

theorem lookIn_ns {h : Heap} {dx : Addr} {mA : Str → Option Value} (n : h.Ns1 dx mA) : ∃ od, h.get? dx = some od ∧ ∀ name, PySem.W.lookIn name od = some (mA name) := by
  obtain ⟨o, es, ep, ho, hd, hk, _, hm⟩ := n
  refine ⟨o, ho, fun name => ?_⟩
  have e := hm name
  unfold nsFind findBy at e
  rw [← Array.find?_toList] at e
  unfold PySem.W.lookIn
  rw [hd]
  dsimp only
  split
  · rename_i y q
    rw [q] at e
    exact congrArg some e
  · rename_i q
    rw [q] at e
    have a : es.toList.any (·.refKey) = false := by
      rw [List.any_eq_false]
      intro y hy
      obtain ⟨z, t, hkey⟩ := hk y (Array.mem_toList_iff.mp hy)
      simp [DictEntry.refKey, hkey]
    have a' : ¬ es.toList.any (·.refKey) = true := by rw [a]; exact Bool.false_ne_true
    rw [if_neg a']
    exact congrArg some e

theorem ObjM.look {h : Heap} {x dx C : Addr} {mA : Str → Option Value} (I : ObjM h x dx C mA) : ∃ od, PySem.W.InstAt h x (PySem.W.instObj C dx) C (some od) ∧ ∀ name, PySem.W.lookIn name od = some (mA name) :=
  let ⟨od, ho, hl⟩ := lookIn_ns I.ns
  ⟨od, ⟨I.obj, rfl, rfl, ho⟩, hl⟩

section
variable {prog : Program} {w : World} {A : Around} {E : Value → Shared → Prop} {s : Shared} {K : PySem.W.Frag} {x dx C f : Addr} {mA : Str → Option Value} {name : Str} {v : Value}

theorem get_map {expr : Bool} {Q : Value → Shared → Prop} (X : K.In s.heap) (I : ObjM s.heap x dx C mA) (hg : PySem.W.plainGet K C name = true) (hh : PySem.W.hasDictIn K C = true)
    (ha : PySem.W.findIn K (.ref C) name = some none) (hv : mA name = some v) (hv' : PySem.W.handedIn v = true) (h : Q v { s with toks := s.toks + 1 }) :
    wpAny (model prog w) A (getAttr (.ref x) name expr) Q E s := by
  obtain ⟨od, J, hl⟩ := I.look
  exact PySem.W.get_value X J (PySem.W.plainGet_of hg).1 (PySem.W.findObj_own hh ha rfl (by rw [hl, hv])) hv' h

theorem get_const {expr : Bool} {a : Value} {Q : Value → Shared → Prop} (X : K.In s.heap) (I : ObjM s.heap x dx C mA) (hg : PySem.W.plainGet K C name = true) (hh : PySem.W.hasDictIn K C = true)
    (ha : PySem.W.findIn K (.ref C) name = some (some a)) (hn : PySem.W.specialIn K a "__get__" = some none) (hc : PySem.W.copiedNames.contains name = false) (hv : mA name = none) (hv' : PySem.W.handedIn a = true)
    (h : Q a { s with toks := s.toks + 1 }) : wpAny (model prog w) A (getAttr (.ref x) name expr) Q E s := by
  obtain ⟨od, J, hl⟩ := I.look
  exact PySem.W.get_value X J (PySem.W.plainGet_of hg).1 (PySem.W.findObj_cls hh ha hn hv' hc (by rw [hl, hv])) hv' h

theorem get_meth {pl : Sem Bool} {Q : Value × List Value → Shared → Prop} (X : K.In s.heap) (I : ObjM s.heap x dx C mA) (hg : PySem.W.plainGet K C name = true)
    (hf : PySem.W.findIn K (.ref C) name = some (some (.ref f))) (ht : PySem.W.isFn K (.ref f) = true) (hv : mA name = none) (h : Q (.ref f, [.ref x]) s) :
    wpAny (model prog w) A (getMethod (.ref x) name pl) Q E s := by
  obtain ⟨od, J, hl⟩ := I.look
  exact PySem.W.method_fn X J (PySem.W.plainGet_of hg).1 (PySem.W.plainGet_of hg).2 hf (beq_iff_eq.mp ht) (by show (PySem.W.lookIn name od).map (·.isSome) = some false; rw [hl, hv]; rfl) h

theorem set_map {ns : List Str} {Q : Unit → Shared → Prop} (X : K.In s.heap) (I : ObjM s.heap x dx C mA)
    (hs : PySem.W.findIn K (.ref C) "__setattr__" = some (some (.builtin "object.__setattr__"))) (hp : PySem.W.plainOver K C = true) (ht : PySem.W.takerIn K C name = some none) (hh : PySem.W.hasDictIn K C = true)
    (hw : PySem.Within mA ns) (hsz : ns.length ≤ sizeLine)
    (h : ∀ h', ObjM h' x dx C (fun y => if y = name then some v else mA y) → Heap.SameBut dx s.heap h' → Q () { s with heap := h', toks := s.toks + 2 }) :
    wpAny (model prog w) A (setAttr (.ref x) name v) Q E s := by
  obtain ⟨od, J, hl⟩ := I.look
  refine PySem.W.set_plain X J hs (PySem.W.osa_open (s := { s with toks := s.toks + 1 }) (r := none) X J hp ht fun b => ?_)
  obtain ⟨cd, hc, hd'⟩ := PySem.W.any_some hh
  have hx : s.heap.get? x = some ⟨.ref C, some dx, .plain, #[]⟩ := I.obj
  refine wpAny_bind (wpAny_pure (wpAny_bind (wpAny_bind (wpAny_loadPart hx (wpAny_bind (PySem.W.Looks.here (s := { s with toks := s.toks + 1 }) (PySem.W.looks_clsIn X hc) ?_))))))
  rw [hd']
  refine wpAny_pure (a := some dx) (wpAny_bind (wpAny_pure (wpAny_bind ?_)))
  refine wpAny_nsSet1 (s := { s with toks := s.toks + 1 }) I.ns fun h' hn2 hs2 => ?_
  obtain ⟨oD, esD, epD, hoD, hdD, hcD⟩ := hn2.count (PySem.Within.cons name v hw)
  refine wpAny_bind (wpAny_lookBehind hoD (by rw [hdD]; exact pastItsLine_dict (Nat.le_trans hcD (by rw [List.length_cons]; omega))) ?_)
  exact wpAny_pure (h _ ⟨(hs2.2 _ (Ne.symm I.ne)).trans I.obj, hn2, I.ne⟩ hs2)

/-- C(..): the dict at the heap's end, the instance behind it; then its __init__ -/
theorem make_map {R : Result → Shared → Prop} {vs : List Value} {kw : List (Str × Value)} (X : K.In s.heap) (hm : PySem.W.makesIn K C = true)
    (hi : PySem.W.findIn K (.ref C) "__init__" = some (some (.ref f))) (hf : PySem.W.typeIn K (.ref f) = some (.type "function"))
    (h : codeAny (model prog w) (A.under (.builtin "type.__call__" ⟨.ref C :: vs, kw⟩)) (.call (.ref f) ⟨.ref (s.heap.objs.size + 1) :: vs, kw⟩) (PySem.W.InitBack (s.heap.objs.size + 1) R)
      { s with heap := (s.heap.push PySem.W.emptyDict).push (PySem.W.instObj C s.heap.objs.size) }) :
    codeAny (model prog w) A (.call (.ref C) ⟨vs, kw⟩) R s := by
  obtain ⟨hh, g, d, t, os⟩ := s
  exact PySem.W.make_core (PySem.W.makes_of X hm) (PySem.W.looks_findIn X hi) (fun self => PySem.W.bind_fn X self hf) (.inl rfl) h
/-- C() where there is no __init__ but object's -/
theorem make_map0 {R : Result → Shared → Prop} (X : K.In s.heap) (hm : PySem.W.makesIn K C = true)
    (hi : PySem.W.findIn K (.ref C) "__init__" = some (some (.builtin "object.__init__")))
    (hb : ∀ self, PySem.W.Looks (model prog w) s.heap (bindSpecial (.builtin "object.__init__") self) (.builtin "object.__init__", [self]))
    (h : codeAny (model prog w) (A.under (.builtin "type.__call__" ⟨[.ref C], []⟩)) (.call (.builtin "object.__init__") ⟨[.ref (s.heap.objs.size + 1)], []⟩) (PySem.W.InitBack (s.heap.objs.size + 1) R)
      { s with heap := (s.heap.push PySem.W.emptyDict).push (PySem.W.instObj C s.heap.objs.size) }) :
    codeAny (model prog w) A (.call (.ref C) ⟨[], []⟩) R s := by
  obtain ⟨hh, g, d, t, os⟩ := s
  exact PySem.W.make_core (PySem.W.makes_of X hm) (PySem.W.looks_findIn X hi) hb (.inr ⟨rfl, rfl⟩) h
end

/-! ### the attributes as a list of pairs -/
def putF (f : Str) (v : V) : List (Str × V) → List (Str × V)
  | [] => [(f, v)]
  | (g, x) :: r => if g = f then (g, v) :: r else (g, x) :: putF f v r
theorem lookup_putF (f g : Str) (v : V) : ∀ fs : List (Str × V), (putF f v fs).lookup g = if g = f then some v else fs.lookup g
  | [] => by
    show List.lookup g [(f, v)] = _
    by_cases h : g = f
    · have hb : (g == f) = true := beq_iff_eq.mpr h
      simp only [List.lookup, hb, if_pos h]
    · have hb : (g == f) = false := beq_eq_false_iff_ne.mpr h
      simp only [List.lookup, hb, if_neg h]
  | (k, x) :: r => by
    have ih := lookup_putF f g v r
    rw [show putF f v ((k, x) :: r) = (if k = f then (k, v) :: r else (k, x) :: putF f v r) from rfl]
    by_cases hk : k = f
    · rw [if_pos hk]
      by_cases h : g = k
      · have hb : (g == k) = true := beq_iff_eq.mpr h
        simp only [List.lookup, hb, if_pos (h.trans hk)]
      · have hb : (g == k) = false := beq_eq_false_iff_ne.mpr h
        simp only [List.lookup, hb, if_neg (fun e : g = f => h (e.trans hk.symm))]
    · rw [if_neg hk]
      by_cases h : g = k
      · have hb : (g == k) = true := beq_iff_eq.mpr h
        simp only [List.lookup, hb, if_neg (fun e : g = f => hk (h.symm.trans e))]
      · have hb : (g == k) = false := beq_eq_false_iff_ne.mpr h
        simp only [List.lookup, hb]
        exact ih
theorem keys_putF (f : Str) (v : V) : ∀ fs : List (Str × V), f ∈ (putF f v fs).map (·.1) ∧ ∀ g, g ∈ fs.map (·.1) → g ∈ (putF f v fs).map (·.1)
  | [] => ⟨by simp [putF], fun g h => by simp at h⟩
  | (k, x) :: r => by
    obtain ⟨i1, i2⟩ := keys_putF f v r
    rw [show putF f v ((k, x) :: r) = (if k = f then (k, v) :: r else (k, x) :: putF f v r) from rfl]
    by_cases hk : k = f
    · rw [if_pos hk]
      subst hk
      exact ⟨by simp, fun g h => by simpa using h⟩
    · rw [if_neg hk]
      refine ⟨?_, fun g h => ?_⟩
      · rw [List.map_cons]
        exact List.mem_cons_of_mem _ i1
      · rw [List.map_cons] at h ⊢
        rcases List.mem_cons.mp h with e | e
        · exact List.mem_cons.mpr (.inl e)
        · exact List.mem_cons_of_mem _ (i2 g e)
theorem length_putF (f : Str) (v : V) : ∀ fs : List (Str × V), (putF f v fs).length ≤ fs.length + 1
  | [] => by simp [putF]
  | (k, x) :: r => by
    have ih := length_putF f v r
    rw [show putF f v ((k, x) :: r) = (if k = f then (k, v) :: r else (k, x) :: putF f v r) from rfl]
    by_cases hk : k = f
    · rw [if_pos hk, List.length_cons, List.length_cons]; omega
    · rw [if_neg hk, List.length_cons, List.length_cons]; omega

theorem RelO.some_of {v : V} {o : Option Value} (r : RelO (some v) o) : ∃ u, o = some u ∧ RelV v u := by
  cases o with
  | none => exact (show False from r).elim
  | some u => exact ⟨u, rfl, r⟩
theorem RelO.none_of {o : Option Value} (r : RelO none o) : o = none := by
  cases o with
  | none => rfl
  | some u => exact (show False from r).elim
theorem handed_of {v : V} {u : Value} (r : RelV v u) : PySem.W.handedIn u = true := by
  cases v with
  | non => cases (show u = Value.none from r); rfl
  | bl b => cases (show u = Value.bool b from r); rfl
  | int i => obtain ⟨t, e⟩ := (show ∃ t, u = Value.int i t from r); cases e; rfl
  | str x => obtain ⟨t, e⟩ := (show ∃ t, u = Value.str x t from r); cases e; rfl
  | byt b => obtain ⟨t, e⟩ := (show ∃ t, u = Value.bytes b t from r); cases e; rfl
  | flt b => obtain ⟨t, e⟩ := (show ∃ t, u = Value.float b t from r); cases e; rfl
  | ref a => cases (show u = Value.ref a from r); rfl
  | ty n => cases (show u = Value.type n from r); rfl

section
variable {P : Program} {w : World} {H H' : Hp} {h h' : Heap} {a C dx : Addr} {fs fs' : List (Str × V)}
theorem ins_get (hok : HOk P w H h) (e : H a = some (.ins C dx fs)) : ∃ mA, ObjM h a dx C mA ∧ (∀ f, RelO (fs.lookup f) (mA f)) ∧ PySem.Within mA (fs.map (·.1)) ∧ fs.length ≤ 1000 ∧ H dx = some (.own a) := by
  obtain ⟨d, z, ne, ob, mA, n, r, q⟩ := (show ObjOk P w H h a (.ins C dx fs) from hok a _ e)
  exact ⟨mA, ⟨ob, n, ne⟩, r, q, z, d⟩
end

/-! ### what of the text a class must have -/
structure Cls (K : PySem.W.Frag) (C : Addr) : Prop where
  pg : PySem.W.plainGet K C Str.empty = true
  hd : PySem.W.hasDictIn K C = true
  po : PySem.W.plainOver K C = true
  sa : PySem.W.findIn K (.ref C) "__setattr__" = some (some (.builtin "object.__setattr__"))
theorem Cls.get {K : PySem.W.Frag} {C : Addr} (c : Cls K C) (f : Str) : PySem.W.plainGet K C f = true := c.pg
/-- no class of it has the name -/
def NoAttr (K : PySem.W.Frag) (C : Addr) (f : Str) : Prop := PySem.W.findIn K (.ref C) f = some none
theorem NoAttr.taker {K : PySem.W.Frag} {C : Addr} {f : Str} (n : NoAttr K C f) : PySem.W.takerIn K C f = some none := by
  unfold PySem.W.takerIn
  rw [show PySem.W.findIn K (.ref C) f = some none from n]
  rfl
/-- a constant of the class -/
structure Con (K : PySem.W.Frag) (C : Addr) (f : Str) (v : V) (u : Value) : Prop where
  at_ : PySem.W.findIn K (.ref C) f = some (some u)
  rel : RelV v u
  get : PySem.W.specialIn K u "__get__" = some none
  cp : PySem.W.copiedNames.contains f = false
/-- a method: a plain def of the class or of one above it -/
structure Meth (K : PySem.W.Frag) (C : Addr) (m : Str) (f : Addr) : Prop where
  at_ : PySem.W.findIn K (.ref C) m = some (some (.ref f))
  fn : PySem.W.isFn K (.ref f) = true
  kp : PySem.W.keepIn K (.ref f) = true

section
variable {X : Cx} {pins : List (Addr × Obj)} {σ : St} {H : Hp} {s : Shared} {a C dx : Addr} {fs : List (Str × V)} {f : Str} {v : V} {A : Around} {E : Value → Shared → Prop}

theorem getattr_ok {b : Bool} {Q : Value → Shared → Prop} (I : Inv X pins σ H s) (e : H a = some (.ins C dx fs)) (c : Cls X.K C) (n : NoAttr X.K C f) (l : fs.lookup f = some v)
    (h : ∀ u s', Inv X pins σ H s' → RelV v u → Q u s') : wpAny (model X.prog X.w) A (getAttr (.ref a) f b) Q E s := by
  obtain ⟨mA, O, r, _, _, _⟩ := ins_get I.hok e
  obtain ⟨u, hu, ru⟩ := RelO.some_of (v := v) (o := mA f) (by rw [← l]; exact r f)
  exact get_map I.kIn O (c.get f) c.hd n hu (handed_of ru) (h u _ (I.tok _) ru)

theorem getcon_ok {b : Bool} {u : Value} {Q : Value → Shared → Prop} (I : Inv X pins σ H s) (e : H a = some (.ins C dx fs)) (c : Cls X.K C) (k : Con X.K C f v u) (l : fs.lookup f = none)
    (h : ∀ s', Inv X pins σ H s' → Q u s') : wpAny (model X.prog X.w) A (getAttr (.ref a) f b) Q E s := by
  obtain ⟨mA, O, r, _, _, _⟩ := ins_get I.hok e
  have hn : mA f = none := RelO.none_of (by rw [← l]; exact r f)
  exact get_const I.kIn O (c.get f) c.hd k.at_ k.get k.cp hn (handed_of k.rel) (h _ (I.tok _))

theorem getmeth_ok {m : Str} {g : Addr} {pl : Sem Bool} {Q : Value × List Value → Shared → Prop} (I : Inv X pins σ H s) (e : H a = some (.ins C dx fs)) (c : Cls X.K C) (k : Meth X.K C m g) (l : fs.lookup m = none)
    (h : Q (.ref g, [.ref a]) s) : wpAny (model X.prog X.w) A (getMethod (.ref a) m pl) Q E s := by
  obtain ⟨mA, O, r, _, _, _⟩ := ins_get I.hok e
  have hn : mA m = none := RelO.none_of (by rw [← l]; exact r m)
  exact get_meth I.kIn O (c.get m) k.at_ k.fn hn h

theorem setattr_ok {y : V} {u : Value} {Q : Unit → Shared → Prop} (I : Inv X pins σ H s) (e : H a = some (.ins C dx fs)) (c : Cls X.K C) (n : NoAttr X.K C f) (hl : fs.length < 1000) (ry : RelV y u)
    (h : ∀ s', Inv X pins σ (upd H a (.ins C dx (putF f y fs))) s' → Q () s') : wpAny (model X.prog X.w) A (setAttr (.ref a) f u) Q E s := by
  obtain ⟨mA, O, r, wi, _, ho⟩ := ins_get I.hok e
  have hz : (fs.map (·.1)).length ≤ sizeLine := by rw [List.length_map, sizeLine_eq]; omega
  refine set_map I.kIn O c.sa c.po n.taker c.hd wi hz fun h' O' sb => h _ ?_
  have hd : ∃ o, h'.get? dx = some o := let ⟨o, _, _, e', _⟩ := O'.ns; ⟨o, e'⟩
  refine I.write (x := a) (e := dx) (by rw [e]; exact True.intro) (.inr ho) (fun b q hb z => (sb.2 b hb).trans z) hd ?_
  refine ⟨by rw [upd_ne O.ne]; exact ho, ?_, O.ne, O'.obj, _, O'.ns, fun g => ?_, fun g hg => ?_⟩
  · have := length_putF f y fs; omega
  · show RelO ((putF f y fs).lookup g) (if g = f then some u else mA g)
    rw [lookup_putF]
    by_cases q : g = f
    · rw [if_pos q, if_pos q]; exact ry
    · rw [if_neg q, if_neg q]; exact r g
  · by_cases q : g = f
    · rw [q]; exact (keys_putF f y fs).1
    · refine (keys_putF f y fs).2 g (wi g fun z => hg ?_)
      show (if g = f then some u else mA g) = none
      rw [if_neg q]; exact z

/-- a new instance, tracked, without attributes -/
theorem Inv.made (I : Inv X pins σ H s) : Inv X pins σ (upd (upd H s.heap.objs.size (.own (s.heap.objs.size + 1))) (s.heap.objs.size + 1) (.ins C s.heap.objs.size []))
    { s with heap := (s.heap.push PySem.W.emptyDict).push (PySem.W.instObj C s.heap.objs.size) } := by
  have e1 : (s.heap.push PySem.W.emptyDict).get? s.heap.objs.size = some PySem.W.emptyDict := Heap.get?_push_size s.heap rfl
  have e2 : ((s.heap.push PySem.W.emptyDict).push (PySem.W.instObj C s.heap.objs.size)).get? (s.heap.objs.size + 1) = some (PySem.W.instObj C s.heap.objs.size) := by
    have := Heap.get?_push_size (s.heap.push PySem.W.emptyDict) (o := PySem.W.instObj C s.heap.objs.size) rfl
    rwa [Heap.size_push] at this
  have e3 : (s.heap.push PySem.W.emptyDict).Ns s.heap.objs.size (fun _ => none) := ⟨PySem.W.emptyDict, #[], _, e1, rfl, (fun e he => absurd he (by simp)), fun _ => rfl⟩
  have I1 := I.laid (a := s.heap.objs.size) (o := .own (s.heap.objs.size + 1)) (h' := s.heap.push PySem.W.emptyDict) (t' := s.toks) (fun b u q => Heap.get?_push_of_some _ q) (Nat.le_refl _) ⟨_, e1⟩
  refine I1.laid (a := s.heap.objs.size + 1) (o := .ins C s.heap.objs.size []) (t' := s.toks) (fun b u q => Heap.get?_push_of_some _ q) (Nat.le_of_eq (Heap.size_push _ _)) ?_
  have ne : s.heap.objs.size ≠ s.heap.objs.size + 1 := Nat.ne_of_lt (Nat.lt_succ_self _)
  refine ⟨by rw [upd_ne ne, upd_same], Nat.zero_le _, ne, e2, fun _ => none, (Heap.Ns1.of_empty e3).at fun o q => Heap.get?_push_of_some _ q, fun _ => True.intro, fun y hy => absurd rfl hy⟩

/-- e.f where nothing but the object is asked: through attributeBase (super) and the last hold -/
theorem attr_of {prog : Program} {w : World} {env : Env} {e : Expr} {f : Str} {pos : Pos} {s : Shared} {Q : Value → Shared → Prop} (hb : attributeBase e f env (eval e env) = eval e env)
    (h : wpAny (model prog w) A (eval e env) (fun o s₁ => wpAny (model prog w) A (getAttr o f true) Q E s₁) E s) : wpAny (model prog w) A (eval (.Attribute e f pos) env) Q E s :=
  Attribute_any_ h (by rw [arm_eval_Attribute, hb])
end

/-! ### readings and rules -/
/-- e.f, an attribute of the instance -/
def tFld (K : PySem.W.Frag) (ta : TE) (f : Str) : TE := fun σ H Q => ta σ H fun x H1 => ∃ a C dx fs v, x = .ref a ∧ H1 a = some (.ins C dx fs) ∧ Cls K C ∧ NoAttr K C f ∧ fs.lookup f = some v ∧ Q v H1
/-- e.f, a constant of the class -/
def tCon (K : PySem.W.Frag) (ta : TE) (f : Str) : TE := fun σ H Q => ta σ H fun x H1 => ∃ a C dx fs v u, x = .ref a ∧ H1 a = some (.ins C dx fs) ∧ Cls K C ∧ Con K C f v u ∧ fs.lookup f = none ∧ Q v H1
/-- e.f = value -/
def sFld (K : PySem.W.Frag) (ta tv : TE) (f : Str) : TS := fun D σ H => tv σ H fun y H1 => ta σ H1 fun x H2 => ∃ a C dx fs, x = .ref a ∧ H2 a = some (.ins C dx fs) ∧ Cls K C ∧ NoAttr K C f ∧ fs.length < 1000 ∧
  D.nx σ (upd H2 a (.ins C dx (putF f y fs)))
/-- an augmented operator on two values -/
def InOp (X : Cx) (op : Operator) (rd : V → V → Hp → VK → Prop) : Prop :=
  ∀ (pins : List (Addr × Obj)) (s : Shared) (σ : St) (H : Hp) (x y : V) (u v : Value) (Q : VK), Inv X pins σ H s → RelV x u → RelV y v → rd x y H Q → wpAny (model X.prog X.w) X.A (inplaceOp op u v) (EP X pins σ Q) X.xe s
/-- e.f op= value -/
def sFldAug (K : PySem.W.Frag) (ta tv : TE) (rd : V → V → Hp → VK → Prop) (f : Str) : TS := fun D σ H => ta σ H fun x H1 => ∃ a C dx fs v, x = .ref a ∧ H1 a = some (.ins C dx fs) ∧ Cls K C ∧ NoAttr K C f ∧ fs.lookup f = some v ∧
  tv σ H1 fun y H2 => rd v y H2 fun z H3 => ∃ dx' fs', H3 a = some (.ins C dx' fs') ∧ fs'.length < 1000 ∧ D.nx σ (upd H3 a (.ins C dx' (putF f z fs')))

section
variable {X : Cx} {o e value : Expr} {f : Str} {pos pos' tpos : Pos} {ta tv : TE}
theorem pe_fld (he : PE X e ta) (hb : attributeBase e f X.env (eval e X.env) = eval e X.env) : PE X (.Attribute e f pos) (tFld X.K ta f) := by
  intro pins s σ H Q I h
  refine attr_of hb (thn (he pins s σ H _ I h) fun u s1 ⟨x, H1, I1, rx, a, C, dx, fs, v, ex, ea, c, n, l, q⟩ => ?_)
  subst ex
  obtain rfl : u = Value.ref a := rx
  exact getattr_ok I1 ea c n l fun u' s2 I2 ru => ⟨v, H1, I2, ru, q⟩
theorem pe_con (he : PE X e ta) (hb : attributeBase e f X.env (eval e X.env) = eval e X.env) : PE X (.Attribute e f pos) (tCon X.K ta f) := by
  intro pins s σ H Q I h
  refine attr_of hb (thn (he pins s σ H _ I h) fun u s1 ⟨x, H1, I1, rx, a, C, dx, fs, v, u0, ex, ea, c, k, l, q⟩ => ?_)
  subst ex
  obtain rfl : u = Value.ref a := rx
  exact getcon_ok I1 ea c k l fun s2 I2 => ⟨v, H1, I2, k.rel, q⟩
theorem ps_fld (ha : PE X o ta) (hv : PE X value tv) (hs : swapsWith value (some (.Attribute o f pos')) pos.line X.env = pure false) : PS X (.Assign [.Attribute o f pos'] value pos) (sFld X.K ta tv f) := by
  intro pins s σ H D I h
  refine plainObj_wpAny_Assign_Attribute (thn (hv pins s σ H _ I h) fun u s1 ⟨y, H1, I1, ry, q⟩ => thn (ha pins s1 σ H1 _ I1 q) fun ov s2 ⟨x, H2, I2, rx, a, C, dx, fs, ex, ea, c, n, l, q2⟩ => ?_) hs
  subst ex
  obtain rfl : ov = Value.ref a := rx
  exact setattr_ok I2 ea c n l ry fun s3 I3 => ⟨σ, _, I3, q2⟩
theorem ps_fldaug {op : Operator} {rd : V → V → Hp → VK → Prop} (ha : PE X o ta) (hv : PE X value tv) (hop : InOp X op rd) : PS X (.AugAssign (.Attribute o f tpos) op value pos) (sFldAug X.K ta tv rd f) := by
  intro pins s σ H D I h
  refine wpAny_AugAssign_AttributeAny (thn (ha pins s σ H _ I h) fun ov s1 ⟨x, H1, I1, rx, a, C, dx, fs, v, ex, ea, c, n, l, q⟩ => ?_)
  subst ex
  obtain rfl : ov = Value.ref a := rx
  refine getattr_ok I1 ea c n l fun u s2 I2 ru => thn (hv pins s2 σ H1 _ I2 q) fun w3 s3 ⟨y, H2, I3, ry, q3⟩ => thn (hop pins s3 σ H2 v y u w3 _ I3 ru ry q3) fun w4 s4 ⟨z, H3, I4, rz, dx', fs', ea', l', q4⟩ => ?_
  exact setattr_ok I4 ea' c n l' rz fun s5 I5 => ⟨σ, _, I5, q4⟩
def rAdd : V → V → Hp → VK → Prop := fun x y H Q => ∃ i j, x = .int i ∧ y = .int j ∧ Q (.int (i + j)) H
def rSub : V → V → Hp → VK → Prop := fun x y H Q => ∃ i j, x = .int i ∧ y = .int j ∧ Q (.int (i - j)) H
theorem in_add : InOp X .Add rAdd := by
  rintro pins s σ H x y u v Q I rx ry ⟨i, j, rfl, rfl, q⟩
  obtain ⟨t, rfl⟩ := (show ∃ t, u = Value.int i t from rx)
  obtain ⟨t', rfl⟩ := (show ∃ t', v = Value.int j t' from ry)
  exact PyProof.Rows.iadd_int ⟨.int (i + j), H, I.tok _, ⟨_, rfl⟩, q⟩
theorem in_sub : InOp X .Sub rSub := by
  rintro pins s σ H x y u v Q I rx ry ⟨i, j, rfl, rfl, q⟩
  obtain ⟨t, rfl⟩ := (show ∃ t, u = Value.int i t from rx)
  obtain ⟨t', rfl⟩ := (show ∃ t', v = Value.int j t' from ry)
  exact PyProof.Rows.isub_int ⟨.int (i - j), H, I.tok _, ⟨_, rfl⟩, q⟩

/-- what is between an instance and its method: the tree of a method call -/
theorem methcall_of {pl : Sem Bool} {m : Str} {apos : Pos} {args : List Expr} {pins : List (Addr × Obj)} {s : Shared} {σ : St} {H : Hp} {Q : Value → Shared → Prop} {te : TE} (he : PE X e te) (I : Inv X pins σ H s)
    (h : te σ H fun x H1 => ∃ a C dx fs g, x = .ref a ∧ H1 a = some (.ins C dx fs) ∧ Cls X.K C ∧ Meth X.K C m g ∧ fs.lookup m = none ∧
      ∀ s1, Inv X pins σ H1 s1 → wpAny (model X.prog X.w) X.A (callWith pos (.ref g) [.ref a] (backTo pos (starEach args X.env)) (backToKw pos (keywordEach [] X.env))) Q X.xe s1)
    (ht : eval (.Call (.Attribute e m apos) args [] pos) X.env = (do
      let ov ← eval e X.env
      standAt apos.atName
      let (f, first) ← holding [ov] (getMethod ov m pl)
      callWith pos f first (backTo pos (starEach args X.env)) (backToKw pos (keywordEach [] X.env)))) :
    wpAny (model X.prog X.w) X.A (eval (.Call (.Attribute e m apos) args [] pos) X.env) Q X.xe s := by
  refine PySem.W.methodCall_KW (pl := pl) (thn (he pins s σ H _ I h) fun u s1 ⟨x, H1, I1, rx, a, C, dx, fs, g, ex, ea, c, k, l, q⟩ => ?_) ht
  subst ex
  obtain rfl : u = Value.ref a := rx
  exact getmeth_ok I1 ea c k l (q s1 I1)
end

/-! ### isinstance -/
section
variable {X : Cx} {pins : List (Addr × Obj)} {σ : St} {H : Hp} {s : Shared} {A : Around} {E : Value → Shared → Prop} {Q : Value → Shared → Prop} {c : Value} {b : Bool}
/-- the type of a value, as the fragment's deciders take it; for an instance its class -/
inductive TyOf (K : PySem.W.Frag) (H : Hp) : V → Value → Prop where
  | non : TyOf K H .non (.type "NoneType")
  | bl (x : Bool) : TyOf K H (.bl x) (.type "bool")
  | int (i : Int) : TyOf K H (.int i) (.type "int")
  | str (x : Str) : TyOf K H (.str x) (.type "str")
  | flt (x : UInt64) : TyOf K H (.flt x) (.type "float")
  | lst {a : Addr} {xs : List V} (e : H a = some (.lst xs)) : TyOf K H (.ref a) (.type "list")
  | frz {a : Addr} {o : Obj} {xs : List V} (e : H a = some (.frz o (.lst xs))) : TyOf K H (.ref a) (.type "list")
  | tup {a : Addr} {xs : List V} (e : H a = some (.tup xs)) : TyOf K H (.ref a) (.type "tuple")
  | dK {a : Addr} {kvs : List (Key × V)} (e : H a = some (.dK kvs)) : TyOf K H (.ref a) (.type "dict")
  | dT {a : Addr} {kvs : List (List Key × V)} (e : H a = some (.dT kvs)) : TyOf K H (.ref a) (.type "dict")
  | ins {a C dx : Addr} {fs : List (Str × V)} (e : H a = some (.ins C dx fs)) (cl : Cls K C) (ha : PySem.W.findIn K (.ref C) "__class__" = some (some (.builtin "object.__class__")))
      (hn : PySem.W.specialIn K (.builtin "object.__class__") "__get__" = some (some (.builtin "getset_descriptor.__get__"))) (htk : PySem.W.takesIn K (.builtin "object.__class__") = some true)
      (hm : PySem.W.mroIn K C (.type "object") = some true) : TyOf K H (.ref a) (.ref C)
/-- isinstance(x, c) for one class c, a built-in or an own one: kitOne's answer -/
theorem isinst_ok {x : V} {u t : Value} (I : Inv X pins σ H s) (rx : RelV x u) (ty : TyOf X.K H x t) (e : PySem.W.kitOne X.K t c = some b) (h : ∀ tk, Q (.bool b) { s with toks := tk }) :
    wpAny (model X.prog X.w) A (call (.builtin "isinstance") [u, c]) Q E s := by
  cases ty with
  | non => cases (show u = Value.none from rx); exact PySem.W.kia_one PySem.W.kitx_none I.kIn True.intro e (fun z => nomatch z) h
  | bl y => cases (show u = Value.bool y from rx); exact PySem.W.kia_one PySem.W.kitx_bool I.kIn True.intro e (fun z => nomatch z) h
  | int i => obtain ⟨t, q⟩ := (show ∃ t, u = Value.int i t from rx); cases q; exact PySem.W.kia_one PySem.W.kitx_int I.kIn True.intro e (fun z => nomatch z) h
  | str y => obtain ⟨t, q⟩ := (show ∃ t, u = Value.str y t from rx); cases q; exact PySem.W.kia_one PySem.W.kitx_str I.kIn True.intro e (fun z => nomatch z) h
  | flt y => obtain ⟨t, q⟩ := (show ∃ t, u = Value.float y t from rx); cases q; exact PySem.W.kia_one PySem.W.kitx_float I.kIn True.intro e (fun z => nomatch z) h
  | @lst a xs ea =>
    cases (show u = Value.ref a from rx)
    obtain ⟨_, _, n, _, h1⟩ := (show ObjOk X.prog X.w H s.heap a (.lst xs) from I.hok a _ ea)
    exact PySem.W.kia_one PySem.W.kitx_list I.kIn ⟨_, h1, rfl⟩ e (fun z => nomatch z) h
  | @frz a ob xs ea =>
    cases (show u = Value.ref a from rx)
    obtain ⟨_, _, _, n, _, h1⟩ := (show ObjOk X.prog X.w H s.heap a (.frz ob (.lst xs)) from I.hok a _ ea)
    exact PySem.W.kia_one PySem.W.kitx_list I.kIn ⟨_, h1, rfl⟩ e (fun z => nomatch z) h
  | @tup a xs ea =>
    cases (show u = Value.ref a from rx)
    obtain ⟨_, _, _, p⟩ := (show ObjOk X.prog X.w H s.heap a (.tup xs) from I.hok a _ ea)
    obtain ⟨o, h1, h2, _⟩ := p
    exact PySem.W.kia_one PySem.W.kitx_tuple I.kIn ⟨o, h1, h2⟩ e (fun z => nomatch z) h
  | @dK a kvs ea =>
    cases (show u = Value.ref a from rx)
    obtain ⟨_, _, vs, _, p⟩ := (show ObjOk X.prog X.w H s.heap a (.dK kvs) from I.hok a _ ea)
    obtain ⟨o, es, ep, h1, h2, _⟩ := p
    exact PySem.W.kia_one PySem.W.kitx_dict I.kIn ⟨o, h1, h2.1⟩ e (fun z => nomatch z) h
  | @dT a kvs ea =>
    cases (show u = Value.ref a from rx)
    obtain ⟨_, _, xs, _, o, es, ep, h1, h2, _⟩ := (show ObjOk X.prog X.w H s.heap a (.dT kvs) from I.hok a _ ea)
    exact PySem.W.kia_one PySem.W.kitx_dict I.kIn ⟨o, h1, h2.1⟩ e (fun z => nomatch z) h
  | @ins a C dx fs ea cl ha hn htk hm =>
    cases (show u = Value.ref a from rx)
    obtain ⟨mA, O, _⟩ := ins_get I.hok ea
    obtain ⟨od, J, _⟩ := O.look
    exact PySem.W.kia_one (PySem.W.kitx_own (cl.get _) cl.hd ha hn htk hm) I.kIn J e (fun z => nomatch z) h
end
end L2

namespace L2
open PySem PySem.Spec PyProof.Rows

/-! ### room -/
structure Room (k : Nat) (A : Around) : Prop where
  hd : A.handled = none
  dp : A.depth + 3 * k + 5 < recursionLimit
  un : A.units + 16 * k + 200 < cLine
theorem Room.mono {j k : Nat} {A : Around} (r : Room k A) (h : j ≤ k) : Room j A := ⟨r.hd, by have := r.dp; omega, by have := r.un; omega⟩
theorem Room.deeper {k : Nat} {A : Around} (r : Room (k + 1) A) (env : Env) : Room k (A.deeper env) :=
  ⟨r.hd, by have := r.dp; show A.depth + 1 + 3 * k + 5 < _; omega, by have := r.un; show A.units + 3 + 16 * k + 200 < _; omega⟩
theorem Room.in1 {k : Nat} {A : Around} (r : Room (k + 1) A) : Room k A.in1 :=
  ⟨r.hd, by have := r.dp; show A.depth + 3 * k + 5 < _; omega, by have := r.un; show A.units + 1 + 16 * k + 200 < _; omega⟩
theorem make_depth {A : Around} {C : Addr} {us : List Value} {kw : List (Str × Value)} : (A.under (.builtin "type.__call__" ⟨.ref C :: us, kw⟩)).depth = A.depth + 1 := by
  first | rfl | simp [Around.under, Code.weight, Code.isCreation, Code.isGuard, Code.isCaller, Code.frames, Code.isFrame, guardIds]
theorem make_units {A : Around} {C : Addr} {us : List Value} {kw : List (Str × Value)} : (A.under (.builtin "type.__call__" ⟨.ref C :: us, kw⟩)).units = A.units + 1 := by
  first | rfl | simp [Around.under, Code.cUnits, Code.frames, Code.isFrame]
theorem Room.make {k : Nat} {A : Around} (r : Room (k + 1) A) (C : Addr) (us : List Value) (kw : List (Str × Value)) : Room k (A.under (.builtin "type.__call__" ⟨.ref C :: us, kw⟩)) :=
  ⟨r.hd, by have := r.dp; rw [make_depth]; omega, by have := r.un; rw [make_units]; omega⟩
theorem Room.depth {k : Nat} {A : Around} (r : Room k A) : A.depth < recursionLimit := by have := r.dp; omega
theorem Room.units {k : Nat} {A : Around} (r : Room k A) : A.units + 64 < cLine := by have := r.un; omega
theorem Room.units0 {k : Nat} {A : Around} (r : Room k A) : A.units < cLine := by have := r.un; omega

/-! ### argument lists and displays -/
def tNil : TA := fun _ H Q => Q [] H
def tCons (ta : TE) (tr : TA) : TA := fun σ H Q => ta σ H fun x H1 => tr σ H1 fun xs H2 => Q (x :: xs) H2
section
variable {X : Cx} {e : Expr} {es : List Expr} {te : TE} {t : TA} {pos : Pos}
theorem pa_nil : PA X [] tNil := fun _ _ _ _ H Q I h => Calls.spliced_nil ⟨[], H, I, .nil, h⟩
theorem pa_cons (ha : PE X e te) (hr : PA X es t) (hs : starEach (e :: es) X.env = (false, eval e X.env) :: starEach es X.env := by rfl) : PA X (e :: es) (tCons te t) := by
  intro pos pins s σ H Q I h
  rw [hs]
  show wpAny _ _ (spliced ((false, eval e X.env) :: backTo pos (starEach es X.env))) _ _ s
  refine Calls.spliced_cons (thn (ha pins s σ H _ I h) fun u s1 ⟨x, H1, I1, r1, q1⟩ => ?_)
  exact thn (hr pos pins s1 σ H1 _ I1 q1) fun us s2 ⟨xs, H2, I2, r2, q2⟩ => ⟨x :: xs, H2, I2, .cons r1 r2, q2⟩

/-- a tuple, a list of written items -/
def tTup (t : TA) : TE := fun σ H Q => t σ H fun xs H1 => xs.length ≤ sizeLine ∧ ∀ p, H1 p = none → Q (.ref p) (upd H1 p (.tup xs))
def tLst (t : TA) : TE := fun σ H Q => t σ H fun xs H1 => xs.length ≤ sizeLine ∧ ∀ p, H1 p = none → Q (.ref p) (upd H1 p (.lst xs))
theorem pe_tup {x1} (h : PA X es t) : PE X (.Tuple es x1 pos) (tTup t) := by
  intro pins s σ H Q I hq
  refine wpAny_Tuple_spliced (thn (h pos pins s σ H _ I hq) fun us s1 ⟨xs, H1, I1, r, z, q⟩ => ⟨by rw [← r.length]; exact z, ?_⟩)
  have hf : H1 s1.heap.objs.size = none := I1.hok.fresh (Nat.le_refl _)
  refine ⟨.ref s1.heap.objs.size, upd H1 s1.heap.objs.size (.tup xs), I1.laid (t' := s1.toks) (fun b u e => Heap.get?_push_of_some _ e) (Nat.le_refl _) ?_, rfl, q _ hf⟩
  exact ⟨z, us, r, ⟨_, Heap.get?_push_size _ rfl, rfl, _, rfl⟩⟩
theorem pe_lst (h : PA X es t) : PE X (.List es pos) (tLst t) := by
  intro pins s σ H Q I hq
  refine wpAny_List_spliced (thn (h pos pins s σ H _ I hq) fun us s1 ⟨xs, H1, I1, r, z, q⟩ => ⟨by rw [← r.length]; exact z, ?_⟩)
  have hf : H1 s1.heap.objs.size = none := I1.hok.fresh (Nat.le_refl _)
  refine ⟨.ref s1.heap.objs.size, upd H1 s1.heap.objs.size (.lst xs), I1.laid (t' := s1.toks) (fun b u e => Heap.get?_push_of_some _ e) (Nat.le_refl _) ?_, rfl, q _ hf⟩
  exact ⟨z, us, 0, r, Heap.get?_push_size _ rfl⟩
end

/-! ### what a def promises -/
/-- a def's promise: the bound arguments in the parameters' order, the heap, the wanted end, the wanted exception -/
abbrev Sp := List V → Hp → VK → XK → Prop
/-- how an exception lies behind a call (file 08 gives it): the callers' frames, abstract heap and state ahead of the call, the wish, the exception, the state -/
abbrev CXT := List Env → Hp → Shared → XK → Value → Shared → Prop

/-- the state at a call -/
structure Env0 (P : Program) (w : World) (K : PySem.W.Frag) (mg : Str → Option Value) (base : Heap) (A : Around) (outer : List Env) (s : Shared) (H : Hp) : Prop where
  frames : A.frames = some outer
  mod : Mod K mg base
  bs : ∀ b o, base.get? b = some o → s.heap.get? b = some o ∧ H b = none
  bsz : base.objs.size ≤ s.heap.objs.size
  funs : s.heap.FunFrames base outer
  frf : ∀ b ∈ frs outer, H b = none
  hok : HOk P w H s.heap
  bare : AllBare s.gens
/-- a call's end -/
def CE (outer : List Env) (P : Program) (w : World) (H : Hp) (s : Shared) (Q : VK) (u : Value) (s' : Shared) : Prop :=
  ∃ v H', s'.os = s.os ∧ AllBare s'.gens ∧ Un (frs outer) [] H H' s.heap s'.heap ∧ HOk P w H' s'.heap ∧ RelV v u ∧ Q v H'
def CR (CX : CXT) (outer : List Env) (P : Program) (w : World) (H : Hp) (s : Shared) (Q : VK) (E : XK) (r : Result) (s' : Shared) : Prop :=
  match r with
  | .ok (.ret u) => CE outer P w H s Q u s'
  | .ok _ => False
  | .error e => CX outer H s E e s'
structure FnOk (P : Program) (w : World) (K : PySem.W.Frag) (mg : Str → Option Value) (base : Heap) (CX : CXT) (k : Nat) (f : Addr) (fd : FuncData) (ps : List Str) (sp : Sp) : Prop where
  len : ∀ vs H Q E, sp vs H Q E → vs.length = ps.length
  run : ∀ (A : Around) (outer : List Env) (s : Shared) (H : Hp) (args : Args) (us : List Value) (vs : List V) (Q : VK) (E : XK), Room k A → Env0 P w K mg base A outer s H → BindsTo s fd args (ps.zip us) → Vals vs us → sp vs H Q E →
    codeAny (model P w) A (.call (.ref f) args) (CR CX outer P w H s Q E) s
theorem FnOk.mono {P : Program} {w : World} {K : PySem.W.Frag} {mg : Str → Option Value} {base : Heap} {CX : CXT} {j k : Nat} {f : Addr} {fd : FuncData} {ps : List Str} {sp : Sp} (F : FnOk P w K mg base CX j f fd ps sp) (h : j ≤ k) :
    FnOk P w K mg base CX k f fd ps sp := ⟨F.len, fun A outer s H args us vs Q E hr => F.run A outer s H args us vs Q E (hr.mono h)⟩
/-- a weaker promise -/
theorem FnOk.imp {P : Program} {w : World} {K : PySem.W.Frag} {mg : Str → Option Value} {base : Heap} {CX : CXT} {k : Nat} {f : Addr} {fd : FuncData} {ps : List Str} {sp sp' : Sp} (F : FnOk P w K mg base CX k f fd ps sp)
    (h : ∀ vs H Q E, sp' vs H Q E → sp vs H Q E) : FnOk P w K mg base CX k f fd ps sp' :=
  ⟨fun vs H Q E q => F.len vs H Q E (h _ _ _ _ q), fun A outer s H args us vs Q E hr he hb hv hs => F.run A outer s H args us vs Q E hr he hb hv (h _ _ _ _ hs)⟩

theorem Env0.make {P : Program} {w : World} {K : PySem.W.Frag} {mg : Str → Option Value} {base : Heap} {A : Around} {outer : List Env} {s : Shared} {H : Hp} (e : Env0 P w K mg base A outer s H) (C : Addr) (us : List Value) (kw : List (Str × Value)) :
    Env0 P w K mg base (A.under (.builtin "type.__call__" ⟨.ref C :: us, kw⟩)) outer s H := ⟨by first | exact e.frames | (simpa [Around.under, Code.envs, Code.isFrame, pushEnvs] using e.frames), e.mod, e.bs, e.bsz, e.funs, e.frf, e.hok, e.bare⟩
theorem Env0.in1 {P : Program} {w : World} {K : PySem.W.Frag} {mg : Str → Option Value} {base : Heap} {A : Around} {outer : List Env} {s : Shared} {H : Hp} (e : Env0 P w K mg base A outer s H) :
    Env0 P w K mg base A.in1 outer s H := ⟨e.frames, e.mod, e.bs, e.bsz, e.funs, e.frf, e.hok, e.bare⟩

section
variable {X : Cx} {pins : List (Addr × Obj)} {σ : St} {H : Hp} {s s' : Shared}
/-- from a body: what a callee wants -/
theorem Inv.env0 (I : Inv X pins σ H s) : Env0 X.prog X.w X.K X.mg X.base X.A X.stack s H :=
  ⟨I.ok.frames, I.ok.mod, I.bs, Nat.le_trans I.ok.bsz I.sz, I.stack, I.stkFree, I.hok, I.bare⟩
/-- behind a call -/
theorem Inv.after {Q : VK} {u : Value} (I : Inv X pins σ H s) (h : CE X.stack X.prog X.w H s Q u s') : EP X pins σ Q u s' := by
  obtain ⟨v, H', os, bare, un, hok, r, q⟩ := h
  obtain ⟨hh, g, d, t, os'⟩ := s'
  obtain rfl : os' = s.os := os
  exact ⟨v, H', I.call (h' := hh) (g' := g) (d' := d) (t' := t) (ch := []) un hok bare (fun b z => absurd z (by simp)), r, q⟩
end

/-! ### calls -/
/-- f(..): the written arguments, then the defaults dvs; E: what is wanted of an exception -/
def tCall (sp : Sp) (dvs : List V) (E : XK) (t : TA) : TE := fun σ H Q => t σ H fun vs H1 => sp (vs ++ dvs) H1 Q E
/-- o.m(..) of an instance of the class at C -/
def tMeth (C : Addr) (m : Str) (sp : Sp) (dvs : List V) (E : XK) (ta : TE) (t : TA) : TE := fun σ H Q => ta σ H fun x H1 => ∃ a dx fs, x = .ref a ∧ H1 a = some (.ins C dx fs) ∧ fs.lookup m = none ∧
  t σ H1 fun vs H2 => sp (x :: (vs ++ dvs)) H2 Q E
/-- C(..): a new instance and its dict, then __init__ -/
def tMake (C : Addr) (sp : Sp) (dvs : List V) (E : XK) (t : TA) : TE := fun σ H Q => t σ H fun vs H1 => ∀ x dx, H1 x = none → H1 dx = none → dx ≠ x →
  sp (.ref x :: (vs ++ dvs)) (upd (upd H1 dx (.own x)) x (.ins C dx [])) (fun v H2 => v = .non ∧ Q (.ref x) H2) E

/-- how the parameters are bound: us the positional arguments, kw the keywords' values by name, ds the defaults that fill up -/
def Binds (K : PySem.W.Frag) (fd : FuncData) (ps : List Str) (ds : List Value) : Prop :=
  ∀ (s : Shared) (us : List Value), K.In s.heap → (us ++ ds).length = ps.length → BindsTo s fd ⟨us, []⟩ (ps.zip (us ++ ds))
/-- every parameter is given -/
theorem Binds.all {K : PySem.W.Frag} {fd : FuncData} {ps : List Str} (h : ∀ us : List Value, us.length = ps.length → bindArgs fd ⟨us, []⟩ = pure (ps.zip us)) : Binds K fd ps [] := fun s us _ hl => by
  rw [List.append_nil] at hl ⊢
  exact .of_eq (h us hl)

/-- an exception of a callee reaches what this body wants of exceptions -/
def Passes (CX : CXT) (X : Cx) (E : XK) : Prop := ∀ (pins : List (Addr × Obj)) (σ : St) (H : Hp) (s : Shared) (e : Value) (s' : Shared), Inv X pins σ H s → CX X.stack H s E e s' → X.xe e s'

section
variable {X : Cx} {CX : CXT} {k : Nat} {f C : Addr} {fd : FuncData} {ps : List Str} {sp : Sp} {dvs : List V} {ds : List Value} {E : XK} {x m : Str} {p pos apos : Pos} {e o : Expr} {es : List Expr} {ta : TE} {t : TA}

/-- the callee runs -/
theorem run_fn {pins : List (Addr × Obj)} {σ : St} {H : Hp} {s : Shared} {Q : VK} {us : List Value} {vs : List V} (F : FnOk X.prog X.w X.K X.mg X.base CX k f fd ps sp) (hr : Room k X.A) (hb : Binds X.K fd ps ds) (hd : Vals dvs ds) (hx : Passes CX X E)
    (I : Inv X pins σ H s) (r : Vals vs us) (h : sp (vs ++ dvs) H Q E) : wpAny (model X.prog X.w) X.A (call (.ref f) us) (EP X pins σ Q) X.xe s := by
  have r2 : Vals (vs ++ dvs) (us ++ ds) := r.append hd
  have hl : (us ++ ds).length = ps.length := by rw [← r2.length]; exact F.len _ _ _ _ h
  refine wpAny_call (codeAny_mono (F.run X.A X.stack s H ⟨us, []⟩ (us ++ ds) (vs ++ dvs) Q E hr I.env0 (hb s us I.kIn hl) r2 h) fun r s' hq => ?_)
  cases r with
  | error e => exact hx pins σ H s e s' I hq
  | ok fl =>
    cases fl with
    | ret u => exact I.after hq
    | next => exact False.elim hq
    | brk => exact False.elim hq
    | cont => exact False.elim hq

theorem pe_call (F : FnOk X.prog X.w X.K X.mg X.base CX k f fd ps sp) (hr : Room k X.A) (hg : Gl X x) (hm : X.mg x = some (.ref f)) (hk : PySem.W.keepIn X.K (.ref f) = true) (hb : Binds X.K fd ps ds) (hd : Vals dvs ds) (hx : Passes CX X E)
    (ha : PA X (e :: es) t) (hdb : (x == ("__debug__" : Str)) = false := by decide) (he : starEach (e :: es) X.env = (false, eval e X.env) :: starEach es X.env := by rfl) (hpl : (backTo pos (starEach es X.env)).any (·.1) = false := by rfl) :
    PE X (.Call (.Name x p) (e :: es) [] pos) (tCall sp dvs E t) := by
  intro pins s σ H Q I h
  refine wpAny_Call_Name_kw (ld_glob I hg hm ?_ hdb)
  refine PySem.W.callWith_K (h₀ := X.base) I.ok.mod.kin hk (thn (ha pos pins s σ H _ I h) fun us s1 ⟨vs, H1, I1, r, q⟩ => ⟨I1.kIn, ?_⟩) he hpl
  exact run_fn F hr hb hd hx I1 r q
theorem pe_call0 (F : FnOk X.prog X.w X.K X.mg X.base CX k f fd ps sp) (hr : Room k X.A) (hg : Gl X x) (hm : X.mg x = some (.ref f)) (hk : PySem.W.keepIn X.K (.ref f) = true) (hb : Binds X.K fd ps ds) (hd : Vals dvs ds) (hx : Passes CX X E)
    (hdb : (x == ("__debug__" : Str)) = false := by decide) : PE X (.Call (.Name x p) [] [] pos) (tCall sp dvs E tNil) := by
  intro pins s σ H Q I h
  refine wpAny_Call_Name_kw (ld_glob I hg hm ?_ hdb)
  exact PySem.W.callWith_K0 I.kIn hk (run_fn (us := []) F hr hb hd hx I .nil h)

/-- o.m(e, ..) -/
theorem pe_meth {pl : Sem Bool} (he : PE X o ta) (c : Cls X.K C) (hm : Meth X.K C m f) (F : FnOk X.prog X.w X.K X.mg X.base CX k f fd ps sp) (hr : Room k X.A) (hb : Binds X.K fd ps ds) (hd : Vals dvs ds) (hx : Passes CX X E) (ha : PA X (e :: es) t)
    (hst : starEach (e :: es) X.env = (false, eval e X.env) :: starEach es X.env := by rfl) (hpl : (backTo pos (starEach es X.env)).any (·.1) = false := by rfl)
    (ht : eval (.Call (.Attribute o m apos) (e :: es) [] pos) X.env = (do
      let ov ← eval o X.env
      standAt apos.atName
      let (f, first) ← holding [ov] (getMethod ov m pl)
      callWith pos f first (backTo pos (starEach (e :: es) X.env)) (backToKw pos (keywordEach [] X.env))) := by rfl) :
    PE X (.Call (.Attribute o m apos) (e :: es) [] pos) (tMeth C m sp dvs E ta t) := by
  intro pins s σ H Q I h
  refine PySem.W.methodCall_KW (pl := pl) (thn (he pins s σ H _ I h) fun u s1 ⟨x, H1, I1, rx, a, dx, fs, ex, ea, l, q⟩ => ?_) ht
  subst ex
  obtain rfl : u = Value.ref a := rx
  refine getmeth_ok I1 ea c hm l ?_
  refine PySem.W.callWith_K (first := [.ref a]) (h₀ := X.base) I.ok.mod.kin hm.kp (thn (ha pos pins s1 σ H1 _ I1 q) fun us s2 ⟨vs, H2, I2, r, q2⟩ => ⟨I2.kIn, ?_⟩) hst hpl
  exact run_fn (us := .ref a :: us) (vs := .ref a :: vs) F hr hb hd hx I2 (.cons rfl r) q2
/-- o.m() -/
theorem pe_meth0 {pl : Sem Bool} (he : PE X o ta) (c : Cls X.K C) (hm : Meth X.K C m f) (F : FnOk X.prog X.w X.K X.mg X.base CX k f fd ps sp) (hr : Room k X.A) (hb : Binds X.K fd ps ds) (hd : Vals dvs ds) (hx : Passes CX X E)
    (ht : eval (.Call (.Attribute o m apos) [] [] pos) X.env = (do
      let ov ← eval o X.env
      standAt apos.atName
      let (f, first) ← holding [ov] (getMethod ov m pl)
      callWith pos f first (backTo pos (starEach [] X.env)) (backToKw pos (keywordEach [] X.env))) := by rfl) :
    PE X (.Call (.Attribute o m apos) [] [] pos) (tMeth C m sp dvs E ta tNil) := by
  intro pins s σ H Q I h
  refine PySem.W.methodCall_KW (pl := pl) (thn (he pins s σ H _ I h) fun u s1 ⟨x, H1, I1, rx, a, dx, fs, ex, ea, l, q⟩ => ?_) ht
  subst ex
  obtain rfl : u = Value.ref a := rx
  refine getmeth_ok I1 ea c hm l ?_
  exact PySem.W.callWith_K0 (first := [.ref a]) I1.kIn hm.kp (run_fn (us := [.ref a]) (vs := [.ref a]) F hr hb hd hx I1 (.cons rfl .nil) q)

/-- what a class must have to be made -/
structure Mk (K : PySem.W.Frag) (C f : Addr) : Prop where
  makes : PySem.W.makesIn K C = true
  init : PySem.W.findIn K (.ref C) "__init__" = some (some (.ref f))
  fn : PySem.W.isFn K (.ref f) = true
  kp : PySem.W.keepIn K (.ref C) = true

theorem run_make {pins : List (Addr × Obj)} {σ : St} {H : Hp} {s : Shared} {Q : VK} {us : List Value} {vs : List V} (M : Mk X.K C f) (F : FnOk X.prog X.w X.K X.mg X.base CX k f fd ps sp) (hr : Room (k + 1) X.A) (hb : Binds X.K fd ps ds) (hd : Vals dvs ds)
    (hx : Passes CX X E) (I : Inv X pins σ H s) (r : Vals vs us)
    (h : ∀ x dx, H x = none → H dx = none → dx ≠ x → sp (.ref x :: (vs ++ dvs)) (upd (upd H dx (.own x)) x (.ins C dx [])) (fun v H2 => v = .non ∧ Q (.ref x) H2) E) :
    wpAny (model X.prog X.w) X.A (call (.ref C) us) (EP X pins σ Q) X.xe s := by
  have hq := h (s.heap.objs.size + 1) s.heap.objs.size (I.hok.fresh (Nat.le_succ _)) (I.hok.fresh (Nat.le_refl _)) (Nat.ne_of_lt (Nat.lt_succ_self _))
  have I2 := Inv.made (C := C) I
  have r2 : Vals (V.ref (s.heap.objs.size + 1) :: (vs ++ dvs)) (Value.ref (s.heap.objs.size + 1) :: (us ++ ds)) := .cons rfl (r.append hd)
  have hl : (Value.ref (s.heap.objs.size + 1) :: us ++ ds).length = ps.length := by
    have e := r2.length
    rw [F.len _ _ _ _ hq] at e
    exact e.symm
  refine wpAny_call (make_map (f := f) I.kIn M.makes M.init (beq_iff_eq.mp M.fn) (codeAny_mono (F.run _ X.stack _ _ ⟨Value.ref (s.heap.objs.size + 1) :: us, []⟩ (Value.ref (s.heap.objs.size + 1) :: (us ++ ds)) _ _ E (hr.make C us [])
    (I2.env0.make C us []) (hb _ (Value.ref (s.heap.objs.size + 1) :: us) I2.kIn hl) r2 hq) fun r s' hq' => ?_))
  cases r with
  | error e => exact hx pins σ _ _ e s' I2 hq'
  | ok fl =>
    cases fl with
    | ret u =>
      obtain ⟨v, H', I3, rv, ev, q3⟩ := I2.after hq'
      subst ev
      exact ⟨rv, ⟨V.ref (s.heap.objs.size + 1), H', I3, rfl, q3⟩⟩
    | next => exact False.elim hq'
    | brk => exact False.elim hq'
    | cont => exact False.elim hq'
theorem pe_make (M : Mk X.K C f) (F : FnOk X.prog X.w X.K X.mg X.base CX k f fd ps sp) (hr : Room (k + 1) X.A) (hg : Gl X x) (hm : X.mg x = some (.ref C)) (hb : Binds X.K fd ps ds) (hd : Vals dvs ds) (hx : Passes CX X E)
    (ha : PA X (e :: es) t) (hdb : (x == ("__debug__" : Str)) = false := by decide) (he : starEach (e :: es) X.env = (false, eval e X.env) :: starEach es X.env := by rfl) (hpl : (backTo pos (starEach es X.env)).any (·.1) = false := by rfl) :
    PE X (.Call (.Name x p) (e :: es) [] pos) (tMake C sp dvs E t) := by
  intro pins s σ H Q I h
  refine wpAny_Call_Name_kw (ld_glob I hg hm ?_ hdb)
  refine PySem.W.callWith_K (h₀ := X.base) I.ok.mod.kin M.kp (thn (ha pos pins s σ H _ I h) fun us s1 ⟨vs, H1, I1, r, q⟩ => ⟨I1.kIn, ?_⟩) he hpl
  exact run_make M F hr hb hd hx I1 r q
theorem pe_make0 (M : Mk X.K C f) (F : FnOk X.prog X.w X.K X.mg X.base CX k f fd ps sp) (hr : Room (k + 1) X.A) (hg : Gl X x) (hm : X.mg x = some (.ref C)) (hb : Binds X.K fd ps ds) (hd : Vals dvs ds) (hx : Passes CX X E)
    (hdb : (x == ("__debug__" : Str)) = false := by decide) : PE X (.Call (.Name x p) [] [] pos) (tMake C sp dvs E tNil) := by
  intro pins s σ H Q I h
  refine wpAny_Call_Name_kw (ld_glob I hg hm ?_ hdb)
  exact PySem.W.callWith_K0 I.kIn M.kp (run_make (us := []) M F hr hb hd hx I .nil h)
end

/-! ### keywords -/
/-- the values of the keywords, from the left -/
def PK (X : Cx) (kws : List Keyword) (t : TA) : Prop :=
  ∀ (pos : Pos) (pins : List (Addr × Obj)) (s : Shared) (σ : St) (H : Hp) (Q : List V → Hp → Prop), Inv X pins σ H s → t σ H Q → wpAny (model X.prog X.w) X.A (evalAll ((backToKw pos (keywordEach kws X.env)).map (·.2))) (AP X pins σ Q) X.xe s
section
variable {X : Cx} {CX : CXT} {k : Nat} {f C : Addr} {fd : FuncData} {ps ks : List Str} {sp : Sp} {E : XK} {x m : Str} {p pos apos kpos : Pos} {e o : Expr} {es : List Expr} {kws : List Keyword} {te ta : TE} {t tk : TA} {nm : Option Str}
theorem pk_nil : PK X [] tNil := fun _ _ _ _ H Q I h => wpAny_evalAll_nil ⟨[], H, I, .nil, h⟩
theorem pk_cons (ha : PE X e te) (hr : PK X kws t) : PK X (⟨nm, e, kpos⟩ :: kws) (tCons te t) := by
  intro pos pins s σ H Q I h
  show wpAny _ _ (evalAll ((do let v ← eval e X.env; standAt pos; pure v) :: (backToKw pos (keywordEach kws X.env)).map (·.2))) _ _ s
  refine wpAny_evalAll_cons (wpAny_bind (thn (ha pins s σ H _ I h) fun u s1 ⟨x, H1, I1, r1, q1⟩ => wpAny_bind (wpAny_standAt (wpAny_pure ?_))))
  exact thn (hr pos pins s1 σ H1 _ I1 q1) fun us s2 ⟨xs, H2, I2, r2, q2⟩ => ⟨x :: xs, H2, I2, .cons r1 r2, q2⟩

/-- how a call with keywords binds: g puts the positional values us and the keywords' values ws (names ks) in the parameters' order, defaults among them -/
structure KBinds (K : PySem.W.Frag) (fd : FuncData) (ps ks : List Str) (g : List Value → List Value → List Value) (gV : List V → List V → List V) : Prop where
  to : ∀ (s : Shared) (us ws : List Value), K.In s.heap → (g us ws).length = ps.length → BindsTo s fd ⟨us, ks.zip ws⟩ (ps.zip (g us ws))
  rel : ∀ {vs : List V} {us : List Value} {zs : List V} {ws : List Value}, Vals vs us → Vals zs ws → Vals (gV vs zs) (g us ws)
def tCallK (sp : Sp) (gV : List V → List V → List V) (E : XK) (t tk : TA) : TE := fun σ H Q => t σ H fun vs H1 => tk σ H1 fun zs H2 => sp (gV vs zs) H2 Q E
variable {g : List Value → List Value → List Value} {gV : List V → List V → List V}
theorem run_fnk {pins : List (Addr × Obj)} {σ : St} {H : Hp} {s : Shared} {Q : VK} {us ws : List Value} {vs zs : List V} (F : FnOk X.prog X.w X.K X.mg X.base CX k f fd ps sp) (hr : Room k X.A) (hb : KBinds X.K fd ps ks g gV) (hx : Passes CX X E)
    (I : Inv X pins σ H s) (r : Vals vs us) (rz : Vals zs ws) (h : sp (gV vs zs) H Q E) : wpAny (model X.prog X.w) X.A (call (.ref f) us (ks.zip ws)) (EP X pins σ Q) X.xe s := by
  have r2 := hb.rel r rz
  have hl : (g us ws).length = ps.length := by rw [← r2.length]; exact F.len _ _ _ _ h
  refine wpAny_call (codeAny_mono (F.run X.A X.stack s H ⟨us, ks.zip ws⟩ (g us ws) (gV vs zs) Q E hr I.env0 (hb.to s us ws I.kIn hl) r2 h) fun r s' hq => ?_)
  cases r with
  | error e => exact hx pins σ H s e s' I hq
  | ok fl =>
    cases fl with
    | ret u => exact I.after hq
    | next => exact False.elim hq
    | brk => exact False.elim hq
    | cont => exact False.elim hq
/-- f(e, .., k = v, ..) -/
theorem pe_callK (F : FnOk X.prog X.w X.K X.mg X.base CX k f fd ps sp) (hr : Room k X.A) (hg : Gl X x) (hm : X.mg x = some (.ref f)) (hk : PySem.W.keepIn X.K (.ref f) = true) (hb : KBinds X.K fd ps ks g gV) (hx : Passes CX X E)
    (ha : PA X (e :: es) t) (hkw : PK X kws tk) (hall : (backToKw pos (keywordEach kws X.env)).all (·.1.isSome) = true := by rfl) (hks : (backToKw pos (keywordEach kws X.env)).filterMap (·.1) = ks := by rfl)
    (hdb : (x == ("__debug__" : Str)) = false := by decide) (he : starEach (e :: es) X.env = (false, eval e X.env) :: starEach es X.env := by rfl)
    (hpl : ((backTo pos (starEach (e :: es) X.env)).any (·.1) || (backToKw pos (keywordEach kws X.env)).any (·.1.isNone)) = false := by rfl) :
    PE X (.Call (.Name x p) (e :: es) kws pos) (tCallK sp gV E t tk) := by
  intro pins s σ H Q I h
  refine wpAny_Call_Name_kw (ld_glob I hg hm ?_ hdb)
  refine PySem.W.callWith_KW (h₀ := X.base) I.ok.mod.kin hk hall (thn (ha pos pins s σ H _ I h) fun us s1 ⟨vs, H1, I1, r, q⟩ => ?_) hpl he
  refine thn (hkw pos pins s1 σ H1 _ I1 q) fun ws s2 ⟨zs, H2, I2, rz, q2⟩ => ⟨I2.kIn, ?_⟩
  rw [hks]
  exact run_fnk F hr hb hx I2 r rz q2
end

/-! ### a def's body keeps its promise -/
/-- names: the parameters first -/
structure FnScope (N P : List Str) (sc : Scope) : Prop where
  kind : sc.kind = .function
  co : sc.isCoroutine = false
  gen : sc.isGenerator = false
  nd : N.Nodup
  pre : N.take P.length = P
  par : ∀ x ∈ P, sc.names.lookup x = some .local ∨ sc.names.lookup x = some .cell
  nofree : ∀ y ∈ sc.names, y.2 ≠ .free

theorem bindL_out {kindOf : Str → Option NameKind} {x : Str} : ∀ {binds : List (Str × Value)} {m : Str → Option Value}, (∀ v, (x, v) ∉ binds) → bindL kindOf binds m x = m x
  | [], _, _ => rfl
  | (n, v) :: r, m, h => by
    unfold bindL
    rw [bindL_out fun w hw => h w (List.mem_cons_of_mem _ hw)]
    split
    · have : x ≠ n := by rintro rfl; exact h v List.mem_cons_self
      simp [this]
    · rfl
theorem bindC_out {kindOf : Str → Option NameKind} {x : Str} : ∀ {binds : List (Str × Value)} {m : Str → Option Value}, (∀ v, (x, v) ∉ binds) → bindC kindOf binds m x = m x
  | [], _, _ => rfl
  | (n, v) :: r, m, h => by
    unfold bindC
    rw [bindC_out fun w hw => h w (List.mem_cons_of_mem _ hw)]
    split
    · rfl
    · have : x ≠ n := by rintro rfl; exact h v List.mem_cons_self
      simp [this]
theorem bindL_get {kindOf : Str → Option NameKind} {x : Str} {v : Value} : ∀ {P : List Str} {vs : List Value} {i : Nat} {m : Str → Option Value}, P.Nodup → P[i]? = some x → vs[i]? = some v → kindOf x = some .local →
    bindL kindOf (P.zip vs) m x = some v
  | [], _, _, _, _, h, _, _ => by simp at h
  | _ :: _, [], _, _, _, _, h, _ => by simp at h
  | p :: P, w :: vs, 0, m, nd, h1, h2, hk => by
    simp at h1 h2; subst h1; subst h2
    show bindL kindOf ((p, w) :: P.zip vs) m p = _
    unfold bindL
    rw [bindL_out fun v hv => (List.nodup_cons.mp nd).1 (List.of_mem_zip hv).1, if_pos hk]
    simp
  | p :: P, w :: vs, i + 1, m, nd, h1, h2, hk => by
    show bindL kindOf ((p, w) :: P.zip vs) m x = _
    unfold bindL
    exact bindL_get (i := i) (List.nodup_cons.mp nd).2 (by simpa using h1) (by simpa using h2) hk
theorem bindC_get {kindOf : Str → Option NameKind} {x : Str} {v : Value} : ∀ {P : List Str} {vs : List Value} {i : Nat} {m : Str → Option Value}, P.Nodup → P[i]? = some x → vs[i]? = some v → kindOf x ≠ some .local →
    bindC kindOf (P.zip vs) m x = some v
  | [], _, _, _, _, h, _, _ => by simp at h
  | _ :: _, [], _, _, _, _, h, _ => by simp at h
  | p :: P, w :: vs, 0, m, nd, h1, h2, hk => by
    simp at h1 h2; subst h1; subst h2
    show bindC kindOf ((p, w) :: P.zip vs) m p = _
    unfold bindC
    rw [bindC_out fun v hv => (List.nodup_cons.mp nd).1 (List.of_mem_zip hv).1, if_neg hk]
    simp
  | p :: P, w :: vs, i + 1, m, nd, h1, h2, hk => by
    show bindC kindOf ((p, w) :: P.zip vs) m x = _
    unfold bindC
    exact bindC_get (i := i) (List.nodup_cons.mp nd).2 (by simpa using h1) (by simpa using h2) hk

/-- the names' values at the entry -/
def start (N : List Str) (vs : List V) : St := vs.map some ++ List.replicate (N.length - vs.length) none

/-- the context of a def's body, at its entry; an exception leaves the frame, then lies as CX says -/
def cxOf (CX : CXT) (P : Program) (w : World) (K : PySem.W.Frag) (mg : Str → Option Value) (base : Heap) (N : List Str) (qual : Str) (scope : Scope) (f : Addr) (cd : Value) (A : Around) (outer : List Env) (s : Shared) (H : Hp) (E : XK) : Cx where
  prog := P
  w := w
  K := K
  mg := mg
  base := base
  A := A.deeper (envOfC qual scope s.heap.objs.size f cd)
  N := N
  s₀ := s
  H₀ := H
  env := envOfC qual scope s.heap.objs.size f cd
  outer := outer
  stack := envOfC qual scope s.heap.objs.size f cd :: outer
  ex := []
  calm := true
  fn := fun _ => true
  pn := []
  xe := fun e s' => wpAny (model P w) (A.deeper (envOfC qual scope s.heap.objs.size f cd)) (leaving (envOfC qual scope s.heap.objs.size f cd) e) (fun _ s'' => CX outer H s E e s'') (fun e' s'' => CX outer H s E e' s'') s'

theorem cell_has {sc : Scope} {n : Nat} {x : Str} (h : sc.names.lookup x = some .cell) : ∃ c, (cellsFrom n sc.names []).lookup x = some c := by
  have q := PySem.W.cellsFrom_some sc.names n [] (.inl h)
  exact Option.isSome_iff_exists.mp q

theorem inv_start {CX : CXT} {P : Program} {w : World} {K : PySem.W.Frag} {mg : Str → Option Value} {base : Heap} {N ps : List Str} {qual : Str} {scope : Scope} {f : Addr} {cd : Value} {A : Around} {outer : List Env} {s s1 : Shared} {H : Hp} {E : XK} {us : List Value} {vs : List V}
    (S : FnScope N ps scope) (hd : A.handled = none) (e0 : Env0 P w K mg base A outer s H) (hl : vs.length = ps.length) (r : Vals vs us)
    (x : InCallC s s.heap.objs.size (bindL (envOfC qual scope s.heap.objs.size f cd).kindOf (ps.zip us) fun _ => none) (cellsFrom (s.heap.objs.size + 1) scope.names []) (bindC (envOfC qual scope s.heap.objs.size f cd).kindOf (ps.zip us) fun _ => none) s1) :
    Inv (cxOf CX P w K mg base N qual scope f cd A outer s H E) [] (start N vs) H s1 := by
  have hpl : ps.length ≤ N.length := by have := congrArg List.length S.pre; rw [List.length_take] at this; omega
  obtain ⟨h1, tk, rfl, hk⟩ := x.done
  have noA : ∀ b : Addr, b ∉ (cxOf CX P w K mg base N qual scope f cd A outer s H E).ex := fun b z => absurd (show b ∈ ([] : List Addr) from z) (by simp)
  refine ⟨⟨e0.mod, S.kind, rfl, rfl, Nat.le_refl _, fun y z c h1 h2 => ?_, fun y hy => ?_, fun y c _ h => ?_, fun _ => hd, Around.frames_deeper e0.frames, .inr ⟨rfl, rfl⟩, fun b z => absurd z (noA b), e0.bs, e0.bsz, fun b _ _ => noA b, fun b z => absurd z (noA b), e0.funs, e0.frf⟩,
    rfl, e0.bare, Un.kept hk, ⟨_, x.toInCall.ns, fun i y v h1 h2 h3 => ?_⟩, fun y c h => ⟨_, x.cell y c h⟩, e0.hok.fresh (Nat.le_refl _), fun y c h => ?_, fun p hp => absurd (show p ∈ ([] : List (Addr × Obj)) from hp) (by simp), e0.hok.kept hk, ?_⟩
  · exact name_of_addr x.apart (PySem.mem_of_lookup h1) (PySem.mem_of_lookup h2)
  · have hy : scope.names.lookup y = some .cell ∨ scope.names.lookup y = some .free := hy
    rcases hy with hy | hy
    · exact cell_has hy
    · exact absurd rfl (S.nofree _ (PySem.mem_of_lookup hy))
  · exact Nat.le_of_lt (x.above y c (PySem.mem_of_lookup h))
  · have hi : i < vs.length := by
      unfold start at h2
      by_cases hi : i < vs.length
      · exact hi
      · rw [List.getElem?_append_right (by simpa using hi)] at h2
        rw [List.getElem?_replicate] at h2
        split at h2 <;> cases h2
    have ha : vs[i]? = some v := by
      unfold start at h2
      rw [List.getElem?_append_left (by simpa using hi), List.getElem?_map] at h2
      cases e : vs[i]? with
      | none => rw [e] at h2; cases h2
      | some a => rw [e] at h2; cases h2; rfl
    obtain ⟨u, hu, rv⟩ := r.get ha
    have hp : ps[i]? = some y := by
      rw [← S.pre, List.getElem?_take_of_lt (by omega)]; exact h1
    have ndP : ps.Nodup := by rw [← S.pre]; exact S.nd.sublist (List.take_sublist _ _)
    refine ⟨u, rv, ?_⟩
    rcases S.par y (List.mem_of_getElem? hp) with k | k
    · exact .inl ⟨k, bindL_get ndP hp hu k⟩
    · obtain ⟨c, e⟩ := cell_has (n := s.heap.objs.size + 1) k
      refine .inr ⟨.inl k, c, e, ?_⟩
      have q := x.cell y c e
      rw [bindC_get ndP hp hu (by show scope.names.lookup y ≠ _; rw [k]; decide)] at q
      exact q
  · exact e0.hok.fresh (Nat.le_of_lt (x.above y c (PySem.mem_of_lookup h)))
  · unfold start
    show _ = N.length
    rw [List.length_append, List.length_map, List.length_replicate]
    omega

/-- THE RULE: a def (or a method) of the text, by its body. The body's reading t is chosen for each entry; it is run at the parameters' values -/
theorem fn_of {CX : CXT} {P : Program} {w : World} {K : PySem.W.Frag} {mg : Str → Option Value} {base : Heap} {k : Nat} {f : Addr} {name qual : Str} {params : Arguments} {body : List Stmt} {scope : Scope} {dV kV doc pm cdv ct oc : Value} {an od : Option Addr}
    {osl : Array (Option Value)} {N ps : List Str} {sp : Sp} (lk : K.lookup f = some ⟨oc, od, .func (PySem.W.fnOf name qual params body scope dV kV doc pm an cdv ct), osl⟩) (hcd : PySem.W.codeIn K cdv qual = true) (S : FnScope N ps scope)
    (len : ∀ vs H Q E, sp vs H Q E → vs.length = ps.length)
    (hbody : ∀ (A : Around) (outer : List Env) (s : Shared) (H : Hp) (vs : List V) (Q : VK) (E : XK), Room k (A.deeper (envOfC qual scope s.heap.objs.size f cdv)) → sp vs H Q E →
      ∃ t, PSs (cxOf CX P w K mg base N qual scope f cdv A outer s H E) body t ∧ t { nx := fun _ H' => Q .non H', rt := Q } (start N vs) H) :
    FnOk P w K mg base CX (k + 1) f (PySem.W.fnOf name qual params body scope dV kV doc pm an cdv ct) ps sp := by
  refine ⟨len, fun A outer s H args us vs Q E hr e0 hb r hsp => ?_⟩
  have hl := len _ _ _ _ hsp
  have KX : K.In s.heap := e0.mod.kin.keeps fun b o e => (e0.bs b o e).1
  have lim : s.heap.NoLimit := e0.mod.nolimit.keeps fun b o e => (e0.bs b o e).1
  have hkind : ∀ y ∈ ps.zip us, scope.names.lookup y.1 = some .local ∨ (scope.names.lookup y.1 = some .cell ∧ ((cellsFrom (s.heap.objs.size + 1) scope.names []).lookup y.1).isSome = true) := fun ⟨n, v⟩ hy => by
    rcases S.par n (List.of_mem_zip hy).1 with q | q
    · exact .inl q
    · exact .inr ⟨q, PySem.W.cellsFrom_some _ _ _ (.inl q)⟩
  refine codeAny_call_function hr.depth (KX _ _ lk) rfl S.co S.gen rfl (PySem.W.codeRec_of KX hcd) (hb _ _ _ _ ?_)
  refine wpAny_newFunctionEnv_cells S.kind hkind fun env he s1 x => ?_
  subst he
  refine ⟨lim.keeps x.toInCall.keep, codeAny_func ?_⟩
  obtain ⟨t, ht, hq⟩ := hbody A outer s H vs Q E (hr.deeper _) hsp
  have I : Inv (cxOf CX P w K mg base N qual scope f cdv A outer s H E) [] (start N vs) H s1 := inv_start S hr.hd e0 hl r x
  refine wpAny_mono (ht [] s1 (start N vs) H _ I hq) (fun fl s' hs => ?_) fun e s' hs => hs
  have fin : ∀ {σ' : St} {H' : Hp} {v : V} {u : Value}, Inv (cxOf CX P w K mg base N qual scope f cdv A outer s H E) [] σ' H' s' → RelV v u → Q v H' → CE outer P w H s Q u s' :=
    fun {σ' H' v u} J rv q => ⟨v, H', J.os, J.bare, J.base, J.hok, rv, q⟩
  cases fl with
  | ret u =>
    obtain ⟨v, σ', H', J, rv, q⟩ := hs
    exact fin J rv q
  | next =>
    obtain ⟨σ', H', J, q⟩ := hs
    exact fin (v := V.non) (u := Value.none) J rfl q
  | brk =>
    obtain ⟨_, _, _, q⟩ := hs
    exact False.elim q
  | cont =>
    obtain ⟨_, _, _, q⟩ := hs
    exact False.elim q
end L2

namespace L2
open PySem PySem.Spec PyProof.Rows
section
variable {X : Cx} {x : Str} {p pos : Pos} {e : Expr} {es : List Expr} {t : TA} {id T : String} {r : List V → Hp → VK → Prop}

def tCB (r : List V → Hp → VK → Prop) (t : TA) : TE := fun σ H Q => t σ H fun vs H1 => r vs H1 Q
/-- f(e, ..), f a built-in function -/
theorem pe_callB (hc : CallR X (.builtin id) r) (hg : Gl X x) (hm : X.mg x = none) (hv : bootBuiltins x = some (.builtin id)) (ha : PA X (e :: es) t) (hn : x ≠ "__name__" := by decide) (hdb : (x == ("__debug__" : Str)) = false := by decide)
    (he : starEach (e :: es) X.env = (false, eval e X.env) :: starEach es X.env := by rfl) (hpl : (backTo pos (starEach es X.env)).any (·.1) = false := by rfl) : PE X (.Call (.Name x p) (e :: es) [] pos) (tCB r t) := by
  intro pins s σ H Q I h
  refine wpAny_Call_Name_kw (ld_blt I hg hm hv ?_ hn hdb)
  exact PyProof.Rows.callWith_builtin1 (thn (ha pos pins s σ H _ I h) fun us s1 ⟨vs, H1, I1, r1, q1⟩ => hc pins s1 σ H1 vs us Q I1 r1 q1) he hpl
/-- T(e, ..), T a built-in type -/
theorem pe_callTy (hc : CallR X (.type T) r) (hg : Gl X x) (hm : X.mg x = none) (hv : bootBuiltins x = some (.type T)) (ha : PA X (e :: es) t) (hn : x ≠ "__name__" := by decide) (hdb : (x == ("__debug__" : Str)) = false := by decide)
    (he : starEach (e :: es) X.env = (false, eval e X.env) :: starEach es X.env := by rfl) (hpl : (backTo pos (starEach es X.env)).any (·.1) = false := by rfl) : PE X (.Call (.Name x p) (e :: es) [] pos) (tCB r t) := by
  intro pins s σ H Q I h
  refine wpAny_Call_Name_kw (ld_blt I hg hm hv ?_ hn hdb)
  exact PyProof.Rows.callWith_type1 (thn (ha pos pins s σ H _ I h) fun us s1 ⟨vs, H1, I1, r1, q1⟩ => hc pins s1 σ H1 vs us Q I1 r1 q1) he hpl
/-- T() -/
theorem pe_callTy0 (hc : CallR X (.type T) r) (hg : Gl X x) (hm : X.mg x = none) (hv : bootBuiltins x = some (.type T)) (hn : x ≠ "__name__" := by decide) (hdb : (x == ("__debug__" : Str)) = false := by decide) :
    PE X (.Call (.Name x p) [] [] pos) (tCB r tNil) := by
  intro pins s σ H Q I h
  refine wpAny_Call_Name_kw (ld_blt I hg hm hv ?_ hn hdb)
  exact PyProof.Rows.callWith_type0 (hc pins s σ H [] [] Q I .nil h)
end
end L2

namespace HT
open PySem PyProof.Rows

/-- t < u of tuples of ints -/
def lexLt : List Int → List Int → Bool
  | [], [] => false
  | [], _ :: _ => true
  | _ :: _, [] => false
  | x :: xs, y :: ys => if x = y then lexLt xs ys else decide (x < y)
theorem lexLt_cons (x y : Int) (xs ys : List Int) : lexLt (x :: xs) (y :: ys) = if x = y then lexLt xs ys else decide (x < y) := rfl
theorem lexLt_nil_nil : lexLt [] [] = false := rfl
theorem lexLt_nil_cons (y : Int) (ys : List Int) : lexLt [] (y :: ys) = true := rfl
theorem lexLt_cons_nil (x : Int) (xs : List Int) : lexLt (x :: xs) [] = false := rfl

theorem eqAt_int (A : Around) (s : Shared) (a : Int) (t : Tok) (c : Int) (u : Tok) : ∃ e, SeqAt.EqAt A s (.int a t) (.int c u) e ∧ (e = true ↔ a = c) :=
  ⟨(a == c), SeqAt.EqAt.int_int a t c u, by simp⟩
theorem rcLt_int (A : Around) (s : Shared) (a : Int) (t : Tok) (c : Int) (u : Tok) (prog : Program) (w : World) (E : Value → Shared → Prop) (Q : Value → Shared → Prop) (h : Q (.bool (decide (a < c))) s) :
    wpAny (model prog w) A (richCompare .Lt (.int a t) (.int c u)) Q E s :=
  (PyProof.Rows.lt_int h : wpAny (model prog w) A (compareOp .Lt (.int a t) (.int c u)) Q E s)

section
open PySem.SeqAt
open PySem.AutoSeq1 (wpAny_loadPart')
open PySem.MeetsSeq PySem.MeetsSeq2 PySem.MeetsSeq3

theorem tuple_lt_ints (l b : Addr) (items items2 : Array Value) (n n2 : Nat) (dd dd2 : Option Addr) (sl sl2 : Array (Option Value)) (ns ms : List Int) (hi : IntsAre items.toList ns) (hj : IntsAre items2.toList ms) :
    Meets (Builtin.«tuple.__lt__» ⟨[.ref l, .ref b], []⟩)
      (fun _ R s => s.heap.get? l = some { cls := .type "tuple", dict := dd, data := .seq items n, slots := sl } ∧ s.heap.get? b = some { cls := .type "tuple", dict := dd2, data := .seq items2 n2, slots := sl2 } ∧
        R (.ok (.ret (.bool (lexLt ns ms)))) s) :=
  .of_wp fun prog w A R s h => by
    obtain ⟨hp, g, d, tk, os⟩ := s; obtain ⟨hl, hb, h⟩ := h
    have f2 := AutoSeq1.sub_tuple_tuple
    have z1 : items.size = ns.length := by rw [← hi.length]; simp
    have z2 : items2.size = ms.length := by rw [← hj.length]; simp
    wp_walk using wpAny_loadPart' hl, wpAny_loadPart' hb, wpAny_forIn_list _ (fun rest b s' => b.1 = none ∧ s' = ⟨hp, g, d, tk, os⟩ ∧ ∃ (vs ws : List Value) (ns' ms' : List Int), rest = vs.zip ws ∧
      IntsAre vs ns' ∧ IntsAre ws ms' ∧ ns'.length + items2.size = ms'.length + items.size ∧ R (.ok (.ret (.bool (lexLt ns' ms')))) ⟨hp, g, d, tk, os⟩) _
    case turn =>
      rintro ⟨y, x⟩ rest b s' ⟨hb', rfl, vs, ws, ns', ms', hz, hvi, hwi, hlen, hR⟩
      cases hvi with
      | nil => rw [List.zip_nil_left] at hz; cases hz
      | cons a t hvi' =>
        cases hwi with
        | nil => rw [List.zip_nil_right] at hz; cases hz
        | cons c u hwi' =>
          rw [List.zip_cons_cons] at hz
          injection hz with hyx hrest
          injection hyx with hy hx
          subst hy hx
          rw [lexLt_cons] at hR
          simp only [List.length_cons] at hlen
          obtain ⟨e, he, hiff⟩ := eqAt_int A.in1 ⟨hp, g, d, tk, os⟩ a t c u
          refine wpAny_bind (he prog w _ _ ?_)
          cases e with
          | true =>
            rw [if_pos (hiff.mp rfl)] at hR
            wp_walk
            exact ⟨rfl, rfl, _, _, _, _, hrest, hvi', hwi', by omega, hR⟩
          | false =>
            rw [if_neg (fun q => absurd (hiff.mpr q) Bool.false_ne_true)] at hR
            have hri := rcLt_int A.in1 ⟨hp, g, d, tk, os⟩ a t c u prog w
            wp_walk using hri
            exact ⟨_, rfl, by simpa using hR⟩
    case fin =>
      rintro ⟨b1, b2⟩ s' ⟨hb', rfl, vs, ws, ns', ms', hz, hvi, hwi, hlen, hR⟩
      simp only at hb'
      subst hb'
      have hv : lexLt ns' ms' = decide (items.size < items2.size) := by
        cases hvi with
        | nil =>
          cases hwi with
          | nil =>
            simp only [List.length_nil] at hlen
            rw [lexLt_nil_nil]
            exact (decide_eq_false (by omega)).symm
          | cons c u hw =>
            simp only [List.length_nil, List.length_cons] at hlen
            rw [lexLt_nil_cons]
            exact (decide_eq_true (by omega)).symm
        | cons a t hv =>
          cases hwi with
          | nil =>
            simp only [List.length_nil, List.length_cons] at hlen
            rw [lexLt_cons_nil]
            exact (decide_eq_false (by omega)).symm
          | cons c u hw =>
            rw [List.zip_cons_cons] at hz
            cases hz
      rw [hv] at hR
      wp_walk
      exact ⟨_, rfl, by simpa [Builtin.Tuple.tupleCompareSizes] using hR⟩
    case h =>
      exact ⟨rfl, rfl, items.toList, items2.toList, ns, ms, rfl, hi, hj, by omega, h⟩
end

section
variable {prog : Program} {w : World} {A : Around} {E : Value → Shared → Prop} {s : Shared}

theorem lt_tupInts {l b : Addr} {items items2 : Array Value} {ns ms : List Int} {Q : Value → Shared → Prop} (hl : IsTup s.heap l items) (hb : IsTup s.heap b items2) (hi : IntsAre items.toList ns) (hj : IntsAre items2.toList ms)
    (hu : A.units < cLine) (h : Q (.bool (lexLt ns ms)) s) : wpAny (model prog w) A (compareOp .Lt (.ref l) (.ref b)) Q E s := by
  obtain ⟨⟨cls, dd, data, sl⟩, ho, hc, n, hd⟩ := id hl
  obtain ⟨⟨cls2, dd2, data2, sl2⟩, ho2, hc2, n2, hd2⟩ := id hb
  simp only at hc hd hc2 hd2
  subst hc hd hc2 hd2
  exact richCompare_meets_room (op := .Lt) ⟨_, ho, rfl⟩ ⟨_, ho2, rfl⟩ PySem.F.slot_tuple_lt PySem.F.entry_tuple_lt (PySem.F.args_tuple_lt_2 _ _) (tuple_lt_ints l b items items2 n n2 dd dd2 sl sl2 ns ms hi hj)
    ⟨ho, ho2, show Value.bool (lexLt ns ms) ≠ Value.notImplemented ∧ Q (.bool (lexLt ns ms)) s from ⟨(fun x => nomatch x), h⟩⟩ hu

/-- t + u, t not empty -/
theorem cat_tup {t b : Addr} {vs ws : List Value} {Q : Value → Shared → Prop} (ht : IsTup s.heap t vs.toArray) (hb : IsTup s.heap b ws.toArray) (hv : vs ≠ [])
    (h1 : ws = [] → Q (.ref t) s) (h2 : ws ≠ [] → Q (.ref s.heap.objs.size) { s with heap := s.heap.push { cls := .type "tuple", data := .seq (vs ++ ws).toArray } })
    (hsz : vs.length + ws.length ≤ sizeLine) : wpAny (model prog w) A (binaryOp .Add (.ref t) (.ref b)) Q E s := by
  obtain ⟨⟨cls, dd, data, sl⟩, ho, hc, n, hd⟩ := id ht
  obtain ⟨⟨cls2, dd2, data2, sl2⟩, ho2, hc2, n2, hd2⟩ := id hb
  simp only at hc hd hc2 hd2
  subst hc hd hc2 hd2
  have e : vs.toArray ++ ws.toArray = (vs ++ ws).toArray := by simp
  by_cases hw : ws = []
  · exact concat_meets ⟨_, ho, rfl⟩ ⟨_, ho2, rfl⟩ noFill_tuple_add seq_tuple_add PySem.F.slot_tuple_add PySem.F.entry_tuple_add (PySem.F.args_tuple_add_2 _ _)
      (tuple_addW1 t b vs.toArray ws.toArray n n2 dd dd2 sl sl2 (by simpa using hv) (by simp [hw])) ⟨ho, ho2, h1 hw⟩
  · refine concat_meets ⟨_, ho, rfl⟩ ⟨_, ho2, rfl⟩ noFill_tuple_add seq_tuple_add PySem.F.slot_tuple_add PySem.F.entry_tuple_add (PySem.F.args_tuple_add_2 _ _)
      (tuple_addW2 t b vs.toArray ws.toArray n n2 dd dd2 sl sl2 (by simpa using hv) (by simpa using hw) (by rw [List.size_toArray, List.size_toArray]; exact hsz)) ⟨ho, ho2, ?_⟩
    rw [e]
    exact h2 hw

/-! ### t[a:b], not the whole -/
/-- a slice's bound as a place among n (d where it is left out) -/
def sIx (n d : Nat) : Option Int → Nat
  | none => d
  | some v => if v < 0 then (v + (n : Int)).toNat else min v.toNat n
theorem sIx_none (n d : Nat) : sIx n d none = d := rfl
theorem sIx_nat (n d k : Nat) : sIx n d (some (k : Int)) = min k n := by
  show (if (k : Int) < 0 then ((k : Int) + (n : Int)).toNat else min (k : Int).toNat n) = min k n
  rw [if_neg (by omega), Int.toNat_natCast]
theorem sIx_le (n d : Nat) (hd : d ≤ n) (o : Option Int) : sIx n d o ≤ n := by
  cases o with
  | none => exact hd
  | some v =>
    show (if v < 0 then (v + (n : Int)).toNat else min v.toNat n) ≤ n
    by_cases hv : v < 0
    · rw [if_pos hv]; omega
    · rw [if_neg hv]; exact Nat.min_le_right _ _
theorem clip_eq (v : Int) (n d : Nat) : (if v < 0 then max (v + (n : Int)) 0 else min v (n : Int)) = ((sIx n d (some v) : Nat) : Int) := by
  show (if v < 0 then max (v + (n : Int)) 0 else min v (n : Int)) = (((if v < 0 then (v + (n : Int)).toNat else min v.toNat n) : Nat) : Int)
  by_cases hv : v < 0
  · simp only [if_pos hv]; omega
  · simp only [if_neg hv]; omega
theorem adjust_gen (lo hi : Option Int) (n : Nat) : Builtin.Slice.sliceAdjust lo hi 1 (n : Int) = (((sIx n 0 lo : Nat) : Int), ((sIx n n hi : Nat) : Int)) := by
  have h1 : ¬ ((1 : Int) < 0) := by omega
  unfold Builtin.Slice.sliceAdjust
  simp only [h1, if_false]
  refine Prod.ext ?_ ?_
  · cases lo with
    | none => rfl
    | some v => exact clip_eq v n 0
  · cases hi with
    | none => rfl
    | some v => exact clip_eq v n n
theorem places_gen (i j : Nat) : Builtin.Slice.slicePlaces (i : Int) (j : Int) 1 = j - i := by
  unfold Builtin.Slice.slicePlaces
  have h1 : (1 : Int) > 0 := by omega
  simp only [h1, if_true, Int.ediv_one]
  split <;> omega
theorem slicePart_ {v : Value} {o : Option Int} {Q : Option Int → Shared → Prop} (p : IsPart v o) (h : Q o s) : wpAny (model prog w) A (Builtin.Slice.slicePartIndex v) Q E s := by
  cases p with
  | none => exact slicePart_none h
  | int i t => exact slicePart_int h
theorem sliceApplied_gen {sl : Addr} {vl vu : Value} {lo hi : Option Int} {n : Nat} {Q : Int × Int × Nat → Shared → Prop} (hs : s.heap.IsSliceOf sl vl vu .none) (pl : IsPart vl lo) (pu : IsPart vu hi)
    (h : Q (((sIx n 0 lo : Nat) : Int), 1, sIx n n hi - sIx n 0 lo) s) : wpAny (model prog w) A (Builtin.Slice.sliceApplied (.ref sl) (pure (n : Int))) Q E s := by
  obtain ⟨os, hos, hcs, hds⟩ := id hs
  unfold Builtin.Slice.sliceApplied Builtin.Slice.sliceFields
  refine wpAny_bind (wpAny_bind (wpAny_field hos hds (x := vl) rfl (wpAny_bind (wpAny_field hos hds (x := vu) rfl (wpAny_bind (wpAny_field hos hds (x := .none) rfl (wpAny_pure ?_)))))))
  refine wpAny_bind (slicePart_none ?_)
  show wpAny _ _ (if ((1 : Int) == 0) = true then _ else _) _ _ s
  rw [if_neg (by decide)]
  refine wpAny_bind (slicePart_ pl (wpAny_bind (slicePart_ pu (wpAny_bind (wpAny_pure ?_)))))
  show wpAny _ _ (match Builtin.Slice.sliceAdjust lo hi 1 (n : Int) with | (lo, hi) => pure (lo, (1 : Int), Builtin.Slice.slicePlaces lo hi 1)) _ _ s
  rw [adjust_gen lo hi n]
  show wpAny _ _ (pure (((sIx n 0 lo : Nat) : Int), (1 : Int), Builtin.Slice.slicePlaces ((sIx n 0 lo : Nat) : Int) ((sIx n n hi : Nat) : Int) 1)) _ _ s
  rw [places_gen]
  exact wpAny_pure h
theorem pick_gen (xs : Array Value) (i k : Nat) : ((List.range k).filterMap fun (m : Nat) => xs[((i : Int) + (m : Int) * 1).toNat]?).toArray = ((xs.toList.drop i).take k).toArray := by
  have e : (fun (m : Nat) => xs[((i : Int) + (m : Int) * 1).toNat]?) = fun m => xs[i + m]? := by
    funext m
    have : ((i : Int) + (m : Int) * 1).toNat = i + m := by omega
    rw [this]
  rw [e]
  have := pick_run xs i k
  rw [List.filterMap_map] at this
  have e2 : ((fun x => xs[x]?) ∘ fun x => i + x) = fun m => xs[i + m]? := rfl
  rw [e2] at this
  rw [this]

theorem getItem_tuple_cut {t sl : Addr} {items : Array Value} {vl vu : Value} {lo hi : Option Int} {Q : Value → Shared → Prop} (ht : IsTup s.heap t items) (hs : s.heap.IsSliceOf sl vl vu .none) (pl : IsPart vl lo) (pu : IsPart vu hi)
    (hw : ¬ (sIx items.size 0 lo = 0 ∧ sIx items.size items.size hi = items.size))
    (h : Q (.ref s.heap.objs.size) { s with heap := s.heap.push { cls := .type "tuple", data := .seq ((items.toList.drop (sIx items.size 0 lo)).take (sIx items.size items.size hi - sIx items.size 0 lo)).toArray } })
    (hsz : items.size ≤ sizeLine) : wpAny (model prog w) A (getItem (.ref t) (.ref sl)) Q E s := by
  have htake : sizeOk (.seq ((items.toList.drop (sIx items.size 0 lo)).take (sIx items.size items.size hi - sIx items.size 0 lo)).toArray) := by
    show ((items.toList.drop (sIx items.size 0 lo)).take (sIx items.size items.size hi - sIx items.size 0 lo)).toArray.size ≤ sizeLine
    rw [List.size_toArray, List.length_take, List.length_drop, Array.length_toList]
    omega
  have hj : sIx items.size items.size hi ≤ items.size := sIx_le _ _ (Nat.le_refl _) hi
  obtain ⟨os, hos, hcs, hds⟩ := id hs
  have hTs : s.TypeIs (.ref sl) "slice" := ⟨os, hos, hcs⟩
  unfold getItem
  try with_reducible refine wpAny_holding ?_
  first | refine wpAny_bind (wpAny_pure ?_) | skip
  refine wpAny_bind (wpAny_sequenceKey ht.typeIs (by decide) ?_)
  refine wpAny_bind (wpAny_callSpecial?_slot (name := Str.ofString "__getitem__") ht.typeIs PyProof.Rows.slot_tuple_getitem
    (wpAny_call_entry PyProof.Rows.slot_tuple_getitem ht.typeIs entry_tuple_getitem ?_ (args_tuple_getitem _ _)))
  show wpAny _ _ (Builtin.Tuple.tupleItemsOf (.ref t) >>= _) _ _ s
  refine wpAny_bind (tupleItemsOf_ ht ?_)
  refine wpAny_bind (wpAny_typeOf hTs ?_)
  rw [if_pos (by decide)]
  refine wpAny_bind (sliceApplied_gen hs pl pu ?_)
  have hno : ¬ ((((sIx items.size 0 lo : Nat) : Int) == 0 && (1 : Int) == 1 && (sIx items.size items.size hi - sIx items.size 0 lo) == items.size) = true) := by
    intro q
    rw [Bool.and_eq_true, Bool.and_eq_true] at q
    have q1 : ((sIx items.size 0 lo : Nat) : Int) = 0 := eq_of_beq q.1.1
    have q2 : sIx items.size items.size hi - sIx items.size 0 lo = items.size := eq_of_beq q.2
    exact hw ⟨by omega, by omega⟩
  show wpAny _ _ (if (((sIx items.size 0 lo : Nat) : Int) == 0 && (1 : Int) == 1 && (sIx items.size items.size hi - sIx items.size 0 lo) == items.size) = true then _ else _) _ _ s
  rw [if_neg hno, pick_gen]
  first
    | exact wpAny_bind (m := Builtin.Tuple.tupleExact _) (wpAny_newObj_type (wpAny_pure ⟨_, rfl, wpAny_pure h⟩) htake)
    | exact wpAny_bind (m := Builtin.Tuple.tupleExact _) (wpAny_newObj_type (wpAny_bind (wpAny_pure (wpAny_pure ⟨_, rfl, wpAny_pure h⟩))) htake)
    | exact wpAny_bind (wpAny_bind (m := Builtin.Tuple.tupleExact _) (wpAny_newObj_type (wpAny_pure (wpAny_pure ⟨_, rfl, wpAny_pure h⟩)) htake))
    | exact wpAny_bind (wpAny_bind (m := Builtin.Tuple.tupleExact _) (wpAny_newObj_type (wpAny_pure ⟨_, rfl, wpAny_pure h⟩) htake))
end
end HT

namespace L2
open PySem PySem.Spec PyProof.Rows

/-! ### the parts of a slice -/
abbrev TO := St → Hp → (Option Int → Hp → Prop) → Prop
/-- a slice's part (left out, or an int) -/
def PO (X : Cx) (e : Option Expr) (t : TO) : Prop :=
  ∀ (pins : List (Addr × Obj)) (s : Shared) (σ : St) (H : Hp) (Q : Option Int → Hp → Prop), Inv X pins σ H s → t σ H Q →
    wpAny (model X.prog X.w) X.A (evalPart e X.env) (fun u s' => ∃ o H', Inv X pins σ H' s' ∧ IsPart u o ∧ Q o H') X.xe s
def tNoPart : TO := fun _ H Q => Q none H
def tPart (t : TE) : TO := fun σ H Q => t σ H fun x H1 => ∃ i, x = .int i ∧ Q (some i) H1

theorem intsAre_of {ns : List Int} : ∀ {us : List Value}, Vals (ns.map V.int) us → IntsAre us ns := by
  induction ns with
  | nil => intro us r; rw [List.map_nil] at r; cases r; exact .nil
  | cons n ns ih =>
    intro us r
    rw [List.map_cons] at r
    cases r with
    | cons r1 r2 =>
      obtain ⟨t, e⟩ := r1
      subst e
      exact .cons n t (ih r2)

section
variable {X : Cx} {e : Expr} {te : TE} {lo hi : Option Expr} {tl th : TO} {pos p2 : Pos}

theorem po_none : PO X none tNoPart := by
  intro pins s σ H Q I h
  rw [evalPart_none]
  exact wpAny_pure ⟨none, H, I, .none, h⟩
theorem po_some (h : PE X e te) : PO X (some e) (tPart te) := by
  intro pins s σ H Q I hw
  rw [evalPart_some]
  refine thn (h pins s σ H _ I hw) fun u s1 ⟨x, H1, I1, r1, q1⟩ => ?_
  obtain ⟨i, rfl, q⟩ := q1
  obtain ⟨t, rfl⟩ := r1
  exact ⟨some i, H1, I1, .int i t, q⟩

/-- what a slice of a value is, by values: the slice object stands at sl -/
def SlR (X : Cx) (r : V → Option Int → Option Int → Hp → VK → Prop) : Prop :=
  ∀ (pins : List (Addr × Obj)) (s : Shared) (σ : St) (H : Hp) (x : V) (v vl vu : Value) (lo hi : Option Int) (sl : Addr) (Q : VK), Inv X pins σ H s → RelV x v → s.heap.IsSliceOf sl vl vu .none → IsPart vl lo → IsPart vu hi → r x lo hi H Q →
    ∃ T id, typeLookup (.type T) "__getitem__" = pure (some (.builtin id)) ∧ s.TypeIs v T ∧ wpAny (model X.prog X.w) X.A (getItem v (.ref sl)) (EP X pins σ Q) X.xe s
theorem SlR.or {r r' : V → Option Int → Option Int → Hp → VK → Prop} (h : SlR X r) (h' : SlR X r') : SlR X (fun x lo hi H Q => r x lo hi H Q ∨ r' x lo hi H Q) := by
  intro pins s σ H x v vl vu lo hi sl Q I rx hs pl pu q
  rcases q with q | q
  · exact h pins s σ H x v vl vu lo hi sl Q I rx hs pl pu q
  · exact h' pins s σ H x v vl vu lo hi sl Q I rx hs pl pu q
def tSl (r : V → Option Int → Option Int → Hp → VK → Prop) (te : TE) (tl th : TO) : TE := fun σ H Q => te σ H fun x H1 => tl σ H1 fun l H2 => th σ H2 fun u H3 => r x l u H3 Q
/-- a[lo:hi], any a -/
theorem pe_slice {r : V → Option Int → Option Int → Hp → VK → Prop} (hr : SlR X r) (he : PE X e te) (hl : PO X lo tl) (hu : PO X hi th) : PE X (.Subscript e (.Slice lo hi none p2) pos) (tSl r te tl th) := by
  intro pins s σ H Q I h
  refine Subscript_ (thn (he pins s σ H _ I h) fun v s1 ⟨x, H1, I1, r1, q1⟩ => ?_)
  refine wpAny_Slice (thn (hl pins s1 σ H1 _ I1 q1) fun vl s2 ⟨l, H2, I2, pl, q2⟩ => thn (hu pins s2 σ H2 _ I2 q2) fun vu s3 ⟨u, H3, I3, pu, q3⟩ => ?_)
  rw [evalPart_none]
  refine wpAny_pure ?_
  have I4 : Inv X pins σ H3 { s3 with heap := s3.heap.push { cls := .type "slice", data := .fields #[vl, vu, .none] } } := I3.kept (t' := s3.toks) fun b ob q => Heap.get?_push_of_some _ q
  obtain ⟨T, id, hT, ht, hg⟩ := hr pins { s3 with heap := s3.heap.push { cls := .type "slice", data := .fields #[vl, vu, .none] } } σ H3 x v vl vu l u s3.heap.objs.size Q I4 r1 (Heap.IsSliceOf.new ..) pl pu q3
  show wpAny (model X.prog X.w) X.A (subscriptTail e (.Slice lo hi none p2) v (.ref s3.heap.objs.size)) (EP X pins σ Q) X.xe { s3 with heap := s3.heap.push { cls := .type "slice", data := .fields #[vl, vu, .none] } }
  exact tail_any (ops := [.ref s3.heap.objs.size, v]) ht hT hg (by with_unfolding_all rfl)

/-- the items of xs[lo:hi] -/
def cutV (xs : List V) (lo hi : Option Int) : List V := (xs.drop (HT.sIx xs.length 0 lo)).take (HT.sIx xs.length xs.length hi - HT.sIx xs.length 0 lo)
theorem cutV_length (xs : List V) (lo hi : Option Int) : (cutV xs lo hi).length ≤ xs.length := by
  unfold cutV
  rw [List.length_take, List.length_drop]
  omega
/-- t[lo:hi], not the whole of it (the whole would be t itself) -/
def rSlT (K : PySem.W.Frag) : V → Option Int → Option Int → Hp → VK → Prop := fun x lo hi H Q => ∃ a xs, x = .ref a ∧ SqT K H a xs ∧
  ¬ (HT.sIx xs.length 0 lo = 0 ∧ HT.sIx xs.length xs.length hi = xs.length) ∧ ∀ p, H p = none → Q (.ref p) (upd H p (.tup (cutV xs lo hi)))
theorem sl_tup : SlR X (rSlT X.K) := by
  intro pins s σ H x v vl vu lo hi sl Q I rx hs pl pu h
  obtain ⟨a, xs, rfl, hx, hw, q⟩ := h
  cases rx
  obtain ⟨its, r, ht, hz⟩ := I.tuple hx
  have hlen : its.toArray.size = xs.length := by rw [List.size_toArray]; exact r.length.symm
  refine ⟨"tuple", _, PyProof.Rows.slot_tuple_getitem.lookup, ht.typeIs, ?_⟩
  refine HT.getItem_tuple_cut ht hs pl pu (by rw [hlen]; exact hw) ?_ (by rw [hlen]; exact hz)
  rw [hlen]
  refine ⟨.ref s.heap.objs.size, _, I.laid (t' := s.toks) (o := .tup (cutV xs lo hi)) (fun b ob q => Heap.get?_push_of_some _ q) (Nat.le_refl _) ?_, rfl, q _ (I.hok.fresh (Nat.le_refl _))⟩
  exact ⟨Nat.le_trans (cutV_length xs lo hi) hz, _, (r.drop (HT.sIx xs.length 0 lo)).take (HT.sIx xs.length xs.length hi - HT.sIx xs.length 0 lo), IsTup.new _ _⟩

/-! ### t < u, t + u -/
def rLtT (K : PySem.W.Frag) : R2 := fun x y H Q => ∃ a b ns ms, x = .ref a ∧ y = .ref b ∧ SqT K H a (ns.map V.int) ∧ SqT K H b (ms.map V.int) ∧ Q (.bl (HT.lexLt ns ms)) H
theorem op_ltT (hu : X.A.units < cLine) : OpR X (compareOp .Lt) (rLtT X.K) := by
  intro pins s σ H x y v u Q I rx ry h
  obtain ⟨a, b, ns, ms, rfl, rfl, ha, hb, q⟩ := h
  cases rx
  cases ry
  obtain ⟨its, r1, p1, _⟩ := I.tuple ha
  obtain ⟨its2, r2, p2, _⟩ := I.tuple hb
  have i1 : IntsAre its.toArray.toList ns := intsAre_of r1
  have i2 : IntsAre its2.toArray.toList ms := intsAre_of r2
  exact HT.lt_tupInts p1 p2 i1 i2 hu ⟨.bl (HT.lexLt ns ms), H, I, rfl, q⟩
/-- t + u, t not empty: u empty gives t itself -/
def rCatT (K : PySem.W.Frag) : R2 := fun x y H Q => ∃ a b xs ys, x = .ref a ∧ y = .ref b ∧ SqT K H a xs ∧ SqT K H b ys ∧ xs ≠ [] ∧ xs.length + ys.length ≤ sizeLine ∧
  (ys = [] → Q (.ref a) H) ∧ (ys ≠ [] → ∀ p, H p = none → Q (.ref p) (upd H p (.tup (xs ++ ys))))
theorem Vals.nil_iff {xs : List V} {us : List Value} (r : Vals xs us) : us = [] ↔ xs = [] := by
  cases r with
  | nil => simp
  | cons _ _ => simp
theorem op_catT : OpR X (binaryOp .Add) (rCatT X.K) := by
  intro pins s σ H x y v u Q I rx ry h
  obtain ⟨a, b, xs, ys, rfl, rfl, ha, hb, hx, hz, q1, q2⟩ := h
  cases rx
  cases ry
  obtain ⟨its, r1, p1, _⟩ := I.tuple ha
  obtain ⟨its2, r2, p2, _⟩ := I.tuple hb
  refine HT.cat_tup p1 p2 (fun z => hx (r1.nil_iff.mp z)) (fun z => ⟨.ref a, H, I, rfl, q1 (r2.nil_iff.mp z)⟩) (fun z => ?_) (by rw [← r1.length, ← r2.length]; exact hz)
  refine ⟨.ref s.heap.objs.size, _, I.laid (t' := s.toks) (o := .tup (xs ++ ys)) (fun b ob q => Heap.get?_push_of_some _ q) (Nat.le_refl _) ?_, rfl, q2 (fun w => z (r2.nil_iff.mpr w)) _ (I.hok.fresh (Nat.le_refl _))⟩
  exact ⟨by rw [List.length_append]; exact hz, _, r1.append r2, IsTup.new _ _⟩
/-- tuple(t) -/
theorem call_tupleT : CallR X (.type "tuple") (fun xs H Q => ∃ a ys, xs = [.ref a] ∧ SqT X.K H a ys ∧ Q (.ref a) H) := by
  intro pins s σ H xs us Q I r h
  obtain ⟨a, ys, rfl, ha, q⟩ := h
  obtain ⟨u, rfl, ru⟩ := vals1 r
  cases ru
  obtain ⟨its, _, p1, _⟩ := I.tuple ha
  exact call_tuple_same (items := its.toArray) p1 ⟨.ref a, H, I, rfl, q⟩
end
end L2

namespace L2
open PySem PySem.Spec PyProof.Rows

/-! ### places -/
/-- the place that an index of any sign means -/
def ixN (n : Nat) (i : Int) : Option Nat := if 0 ≤ i then (if i < n then some i.toNat else none) else if -(n : Int) ≤ i then some (i + n).toNat else none
def atI {α : Type} (xs : List α) (i : Int) : Option α := (ixN xs.length i).bind fun j => xs[j]?
theorem ixN_seq {n : Nat} {i : Int} {j : Nat} (h : ixN n i = some j) : seqIndex? i n = some j ∧ j < n ∧ -(n : Int) ≤ i ∧ i < n := by
  unfold ixN at h
  by_cases h0 : 0 ≤ i
  · rw [if_pos h0] at h
    by_cases h1 : i < n
    · rw [if_pos h1] at h
      have e : i.toNat = j := Option.some.inj h
      exact ⟨by rw [seqIndex_of h0 h1, e], by omega, by omega, h1⟩
    · rw [if_neg h1] at h; cases h
  · rw [if_neg h0] at h
    by_cases h1 : -(n : Int) ≤ i
    · rw [if_pos h1] at h
      have e : (i + n).toNat = j := Option.some.inj h
      exact ⟨by rw [seqIndex_neg (by omega) h1, e], by omega, h1, by omega⟩
    · rw [if_neg h1] at h; cases h
theorem atI_get {α : Type} {xs : List α} {i : Int} {v : α} (h : atI xs i = some v) : ∃ j, seqIndex? i xs.length = some j ∧ xs[j]? = some v ∧ j < xs.length ∧ -(xs.length : Int) ≤ i ∧ i < xs.length := by
  unfold atI at h
  cases e : ixN xs.length i with
  | none => rw [e] at h; cases h
  | some j =>
    rw [e] at h
    obtain ⟨h1, h2, h3, h4⟩ := ixN_seq e
    exact ⟨j, h1, h, h2, h3, h4⟩
theorem atI_nat {α : Type} {xs : List α} {j : Nat} {v : α} (h : xs[j]? = some v) : atI xs (j : Int) = some v := by
  have hj : j < xs.length := (List.getElem?_eq_some_iff.mp h).1
  have e : ixN xs.length (j : Int) = some j := by
    unfold ixN
    rw [if_pos (by omega), if_pos (by omega)]; simp
  unfold atI; rw [e]; exact h
theorem atI_last {α : Type} (xs : List α) (v : α) : atI (xs ++ [v]) (-1) = some v := by
  have hl : (xs ++ [v]).length = xs.length + 1 := by simp
  have e : ixN (xs ++ [v]).length (-1) = some xs.length := by
    unfold ixN
    rw [hl, if_neg (by decide), if_pos (by omega)]
    congr 1
    omega
  unfold atI
  rw [e]
  show (xs ++ [v])[xs.length]? = some v
  simp

/-! ### what may be subscripted -/
/-- what stands as an index of a plain subscript -/
def PlainIx (b : Expr) : Prop := ∀ o i, subscripted b false o i = operate [o, i] (getItem o i)
/-- a subscript by values -/
def IxR (X : Cx) (r : R2) : Prop :=
  ∀ (value slice : Expr) (pins : List (Addr × Obj)) (s : Shared) (σ : St) (H : Hp) (x y : V) (v u : Value) (Q : VK), Inv X pins σ H s → RelV x v → RelV y u → r x y H Q →
    subscripted slice false v u = operate [v, u] (getItem v u) → wpAny (model X.prog X.w) X.A (subscriptTail value slice v u) (EP X pins σ Q) X.xe s
/-- a call of a builtin's method by values: the receiver, the arguments -/
def MtR (X : Cx) (id : String) (r : V → List V → Hp → VK → Prop) : Prop :=
  ∀ (pins : List (Addr × Obj)) (s : Shared) (σ : St) (H : Hp) (x : V) (xs : List V) (v : Value) (us : List Value) (Q : VK), Inv X pins σ H s → RelV x v → Vals xs us → r x xs H Q →
    wpAny (model X.prog X.w) X.A (call (.builtin id) (v :: us)) (EP X pins σ Q) X.xe s
section
variable {X : Cx} {a b : Expr} {ta tb : TE} {pos : Pos}
theorem IxR.or {r r' : R2} (h : IxR X r) (h' : IxR X r') : IxR X (fun x y H Q => r x y H Q ∨ r' x y H Q) := by
  intro value slice pins s σ H x y v u Q I rx ry q hs
  rcases q with q | q
  · exact h value slice pins s σ H x y v u Q I rx ry q hs
  · exact h' value slice pins s σ H x y v u Q I rx ry q hs
theorem MtR.or {id : String} {r r' : V → List V → Hp → VK → Prop} (h : MtR X id r) (h' : MtR X id r') : MtR X id (fun x xs H Q => r x xs H Q ∨ r' x xs H Q) := by
  intro pins s σ H x xs v us Q I rx rs q
  rcases q with q | q
  · exact h pins s σ H x xs v us Q I rx rs q
  · exact h' pins s σ H x xs v us Q I rx rs q
/-- a[b] -/
theorem pe_ix {r : R2} (hr : IxR X r) (ha : PE X a ta) (hb : PE X b tb) (hs : PlainIx b) : PE X (.Subscript a b pos) (tOp r ta tb) := by
  intro pins s σ H Q I h
  exact Subscript_ (binT ha hb I h fun v u s2 x y H2 I2 rx ry q => hr a b pins s2 σ H2 x y v u Q I2 rx ry q (hs _ _))

def rIxL (K : PySem.W.Frag) : R2 := fun x y H Q => ∃ p xs i v, x = .ref p ∧ y = .int i ∧ SqL K H p xs ∧ atI xs i = some v ∧ Q v H
def rIxT (K : PySem.W.Frag) : R2 := fun x y H Q => ∃ p xs i v, x = .ref p ∧ y = .int i ∧ SqT K H p xs ∧ atI xs i = some v ∧ Q v H
def rIxS : R2 := fun x y H Q => ∃ z i c, x = .str z ∧ y = .int i ∧ z.length ≤ sizeLine ∧ atI z.cps.toList i = some c ∧ Q (.str ⟨#[c]⟩) H
theorem ix_list : IxR X (rIxL X.K) := by
  intro value slice pins s σ H x y v u Q I rx ry h hs
  obtain ⟨p, xs, i, z, rfl, rfl, hq, he, q⟩ := h
  cases rx
  obtain ⟨t, rfl⟩ := ry
  obtain ⟨its, r, pl, hz⟩ := I.list hq
  obtain ⟨j, h1, h2, h3, h4, h5⟩ := atI_get he
  obtain ⟨w, ew, rw'⟩ := r.get h2
  have hl := r.length
  have hn := line63
  have fin : EP X pins σ Q w s := ⟨z, H, I, rw', q⟩
  by_cases h0 : 0 ≤ i
  · have hj : i.toNat = j := by
      rw [seqIndex_of h0 h5] at h1
      exact Option.some.inj h1
    exact item_listR pl.isList h0 (by omega) (by rw [hj]; simpa using ew) fin hs
  · have hj : (i + (its.toArray.size : Int)).toNat = j := by
      rw [seqIndex_neg (by omega) h4] at h1
      rw [List.size_toArray, ← hl]
      exact Option.some.inj h1
    exact subscriptTail_builtinR (x := w) pl.isList.typeIs slot_list_getitem.lookup
      (wpAny_getItem_list_neg (Q := fun r s' => r = w ∧ EP X pins σ Q r s') pl.isList (by omega) (by rw [List.size_toArray] <;> omega) (by omega) (by rw [hj]; simpa using ew) ⟨rfl, fin⟩) hs
theorem ix_tup : IxR X (rIxT X.K) := by
  intro value slice pins s σ H x y v u Q I rx ry h hs
  obtain ⟨p, xs, i, z, rfl, rfl, hq, he, q⟩ := h
  cases rx
  obtain ⟨t, rfl⟩ := ry
  obtain ⟨its, r, pl, hz⟩ := I.tuple hq
  obtain ⟨j, h1, h2, h3, h4, h5⟩ := atI_get he
  obtain ⟨w, ew, rw'⟩ := r.get h2
  have hl := r.length
  have hn := line63
  have fin : EP X pins σ Q w s := ⟨z, H, I, rw', q⟩
  exact subscriptTail_builtinR (x := w) pl.typeIs slot_tuple_getitem.lookup
    (getItem_tuple (j := j) (Q := fun r s' => r = w ∧ EP X pins σ Q r s') pl (by omega) (by omega) (by rw [List.size_toArray, ← hl]; exact h1) (by simpa using ew) ⟨rfl, fin⟩) hs
theorem ix_str : IxR X rIxS := by
  intro value slice pins s σ H x y v u Q I rx ry h hs
  obtain ⟨z, i, c, rfl, rfl, hz, he, q⟩ := h
  obtain ⟨t, rfl⟩ := rx
  obtain ⟨t', rfl⟩ := ry
  obtain ⟨j, h1, h2, h3, h4, h5⟩ := atI_get he
  have hl : z.cps.toList.length = z.length := by simp [Str.length]
  rw [hl] at h1 h4 h5
  have hn := line63
  exact tail_any (typeIs_str s z t) slot_str_getitem.lookup (getItem_str (c := c) (by
    have e1 : decide (i < -(2 ^ 63 : Int)) = false := decide_eq_false (by omega)
    have e2 : decide (i ≥ 2 ^ 63) = false := decide_eq_false (by omega)
    rw [e1, e2, Bool.or_false]) (by rw [h1]; simpa using h2) ⟨.str ⟨#[c]⟩, H, I.tok _, ⟨_, rfl⟩, q⟩) hs
/-- list, tuple or str -/
def rIx (K : PySem.W.Frag) : R2 := fun x y H Q => rIxL K x y H Q ∨ rIxT K x y H Q ∨ rIxS x y H Q
theorem ix_seq : IxR X (rIx X.K) := ix_list.or (ix_tup.or ix_str)

/-! ### xs[i] = v, any sign -/
/-- the list's object behind a store -/
theorem mapSeq_set (its : List Value) (n j : Nat) (u : Value) : Obj.mapSeq (·.setIfInBounds j u) { cls := .type "list", data := .seq its.toArray n } = { cls := .type "list", data := .seq (its.set j u).toArray n } := by
  simp [Obj.mapSeq]
theorem Inv.lst {pins : List (Addr × Obj)} {σ : St} {H : Hp} {s : Shared} {p : Addr} {xs : List V} (I : Inv X pins σ H s) (h : H p = some (.lst xs)) :
    ∃ (its : List Value) (n : Nat), Vals xs its ∧ s.heap.get? p = some { cls := .type "list", data := .seq its.toArray n } ∧ xs.length ≤ sizeLine := by
  obtain ⟨z, its, n, r, e⟩ := I.hok p _ h
  exact ⟨its, n, r, e, z⟩
/-- the list at p is written by an update of its object -/
theorem Inv.lstUpd {pins : List (Addr × Obj)} {σ : St} {H : Hp} {s : Shared} {p : Addr} {xs ys : List V} {its its' : List Value} {n n' : Nat} {f : Obj → Obj} (I : Inv X pins σ H s) (h : H p = some (.lst xs))
    (ho : s.heap.get? p = some { cls := .type "list", data := .seq its.toArray n }) (hf : f { cls := .type "list", data := .seq its.toArray n } = { cls := .type "list", data := .seq its'.toArray n' }) (r : Vals ys its') (hz : ys.length ≤ sizeLine) (t : Nat) :
    Inv X pins σ (upd H p (.lst ys)) { s with heap := s.heap.update p f, toks := t } := by
  have e : (s.heap.update p f).get? p = some { cls := .type "list", data := .seq its'.toArray n' } := by
    rw [Heap.get?_update_self f ho (by rw [hf] <;> rfl), hf]
  refine I.write (x := p) (e := p) (by rw [h]; trivial) (.inl rfl) (fun b u hb q => (Heap.get?_update_other _ _ (Ne.symm hb)).trans q) ⟨_, e⟩ ?_
  exact ⟨hz, its', n', r, e⟩
def rSetL : V → V → V → Hp → (Hp → Prop) → Prop := fun o i v H Q => ∃ p xs k j, o = .ref p ∧ i = .int k ∧ H p = some (.lst xs) ∧ ixN xs.length k = some j ∧ Q (upd H p (.lst (xs.set j v)))
theorem set_list : PSet X rSetL := by
  intro pins s σ H o i v ov iv u Q I ro ri rv h
  obtain ⟨p, xs, k, j, rfl, rfl, hp, hj, q⟩ := h
  cases ro
  obtain ⟨t, rfl⟩ := ri
  obtain ⟨its, n, r, ho, hz⟩ := I.lst hp
  obtain ⟨h1, h2, h3, h4⟩ := ixN_seq hj
  have hl := r.length
  have hn := line63
  have I' : Inv X pins σ (upd H p (.lst (xs.set j v))) { s with heap := s.heap.update p (Obj.mapSeq (·.setIfInBounds j u)) } :=
    I.lstUpd hp ho (mapSeq_set its n j u) (r.set rv j) (by rw [List.length_set]; exact hz) s.toks
  by_cases h0 : 0 ≤ k
  · have hk : k.toNat = j := by
      rw [seqIndex_of h0 h4] at h1
      exact Option.some.inj h1
    exact PySem.W.ki_setAt ho h0 (by omega) (by rw [List.size_toArray, ← hl]; exact h4) (by rw [hk]; exact ⟨_, I', q⟩)
  · have hk : (k + (its.toArray.size : Int)).toNat = j := by
      rw [seqIndex_neg (by omega) h3] at h1
      rw [List.size_toArray, ← hl]
      exact Option.some.inj h1
    exact PySem.W.ki_setBack ho (by omega) (by rw [List.size_toArray, ← hl]; exact h3) (by omega) (by rw [hk]; exact ⟨_, I', q⟩)

/-! ### slices -/
theorem slice_bounds (lo hi : Option Int) (n : Nat) : (sliceBounds lo hi none n).1 = ((HT.sIx n 0 lo : Nat) : Int) ∧ (sliceBounds lo hi none n).2.1 = ((HT.sIx n n hi : Nat) : Int) ∧ (sliceBounds lo hi none n).2.2 = 1 := by
  refine ⟨?_, ?_, rfl⟩
  · cases lo with
    | none => simp [sliceBounds, HT.sIx]
    | some i =>
      simp only [sliceBounds, HT.sIx, Option.getD_none, show (1 : Int) > 0 by decide, if_true]
      by_cases h : i < 0
      · simp only [h, if_true] <;> omega
      · simp only [h, if_false] <;> omega
  · cases hi with
    | none => simp [sliceBounds, HT.sIx]
    | some i =>
      simp only [sliceBounds, HT.sIx, Option.getD_none, show (1 : Int) > 0 by decide, if_true]
      by_cases h : i < 0
      · simp only [h, if_true] <;> omega
      · simp only [h, if_false] <;> omega
theorem slicePick_cut (its : List Value) (lo hi : Option Int) : slicePick its.toArray lo hi none = ((its.drop (HT.sIx its.length 0 lo)).take (HT.sIx its.length its.length hi - HT.sIx its.length 0 lo)).toArray := by
  obtain ⟨h1, h2, h3⟩ := slice_bounds lo hi its.toArray.size
  unfold slicePick
  rw [h1, h2, h3]
  simp only [sliceRange_one, pick_run, List.size_toArray] <;> rfl
/-- xs[lo:hi] of a list: a new list -/
def rSlL (K : PySem.W.Frag) : V → Option Int → Option Int → Hp → VK → Prop := fun x lo hi H Q => ∃ a xs, x = .ref a ∧ SqL K H a xs ∧ ∀ p, H p = none → Q (.ref p) (upd H p (.lst (cutV xs lo hi)))
theorem sl_list : SlR X (rSlL X.K) := by
  intro pins s σ H x v vl vu lo hi sl Q I rx hs pl pu h
  obtain ⟨a, xs, rfl, hx, q⟩ := h
  cases rx
  obtain ⟨its, r, ht, hz⟩ := I.list hx
  have hlen := r.length
  refine ⟨"list", _, slot_list_getitem.lookup, ht.isList.typeIs, ?_⟩
  refine wpAny_getItem_list_slice ht.isList hs pl pu .none (by simp) ?_ (by rw [List.size_toArray] <;> omega)
  rw [slicePick_cut, ← hlen]
  refine ⟨.ref s.heap.objs.size, _, I.laid (t' := s.toks) (o := .lst (cutV xs lo hi)) (fun b ob q => Heap.get?_push_of_some _ q) (Nat.le_refl _) ?_, rfl, q _ (I.hok.fresh (Nat.le_refl _))⟩
  exact ⟨Nat.le_trans (cutV_length xs lo hi) hz, _, 0, (r.drop (HT.sIx xs.length 0 lo)).take (HT.sIx xs.length xs.length hi - HT.sIx xs.length 0 lo), Heap.get?_push_size _ rfl⟩

/-! ### in, not in: flat items -/
def flatV : V → Bool
  | .non => true
  | .bl _ => true
  | .int _ => true
  | .str _ => true
  | _ => false
/-- == of flat values -/
def eqV : V → V → Bool
  | .non, .non => true
  | .bl a, .bl b => a == b
  | .bl a, .int b => (if a then 1 else 0) == b
  | .int a, .bl b => a == (if b then 1 else 0)
  | .int a, .int b => a == b
  | .str a, .str b => a == b
  | _, _ => false
theorem eqAt_V {A : Around} {s : Shared} {y x : V} {u v : Value} (ry : RelV y u) (rx : RelV x v) (fy : flatV y = true) (fx : flatV x = true) : SeqAt.EqAt A s u v (eqV y x) := by
  cases y with
  | non =>
    cases ry
    cases x with
    | non => cases rx; exact SeqAt.EqAt.same _
    | bl b => cases rx; exact SeqAt.EqAt.none_bool b
    | int b => obtain ⟨t, rfl⟩ := rx; exact SeqAt.EqAt.none_int b t
    | str b => obtain ⟨t, rfl⟩ := rx; exact SeqAt.EqAt.none_str b t
    | _ => exact absurd (show false = true from fx) Bool.false_ne_true
  | bl a =>
    cases ry
    cases x with
    | non => cases rx; exact SeqAt.EqAt.bool_none a
    | bl b => cases rx; exact SeqAt.EqAt.bool_bool a b
    | int b => obtain ⟨t, rfl⟩ := rx; exact SeqAt.EqAt.bool_int a b t
    | str b => obtain ⟨t, rfl⟩ := rx; exact SeqAt.EqAt.bool_str a b t
    | _ => exact absurd (show false = true from fx) Bool.false_ne_true
  | int a =>
    obtain ⟨t', rfl⟩ := ry
    cases x with
    | non => cases rx; exact SeqAt.EqAt.int_none a t'
    | bl b => cases rx; exact SeqAt.EqAt.int_bool a t' b
    | int b => obtain ⟨t, rfl⟩ := rx; exact SeqAt.EqAt.int_int a t' b t
    | str b => obtain ⟨t, rfl⟩ := rx; exact SeqAt.EqAt.int_str a t' b t
    | _ => exact absurd (show false = true from fx) Bool.false_ne_true
  | str a =>
    obtain ⟨t', rfl⟩ := ry
    cases x with
    | non => cases rx; exact SeqAt.EqAt.str_none a t'
    | bl b => cases rx; exact SeqAt.EqAt.str_bool a t' b
    | int b => obtain ⟨t, rfl⟩ := rx; exact SeqAt.EqAt.str_int a t' b t
    | str b => obtain ⟨t, rfl⟩ := rx; exact SeqAt.EqAt.str_str a t' b t
    | _ => exact absurd (show false = true from fx) Bool.false_ne_true
  | _ => exact absurd (show false = true from fy) Bool.false_ne_true
/-- the items' answers, read off the values (a value's own answer does not lean on its token) -/
def eqU (x : V) (u : Value) : Bool := match u with
  | .none => eqV .non x
  | .bool b => eqV (.bl b) x
  | .int i _ => eqV (.int i) x
  | .str z _ => eqV (.str z) x
  | _ => false
theorem eqU_of {x y : V} {u : Value} (r : RelV y u) (f : flatV y = true) : eqU x u = eqV y x := by
  cases y with
  | non => cases r; rfl
  | bl b => cases r; rfl
  | int i => obtain ⟨t, rfl⟩ := r; rfl
  | str z => obtain ⟨t, rfl⟩ := r; rfl
  | _ => exact absurd (show false = true from f) Bool.false_ne_true
theorem any_eqU {x : V} : ∀ {xs : List V} {us : List Value}, Vals xs us → xs.all flatV = true → us.any (eqU x) = xs.any fun y => eqV y x
  | _, _, .nil, _ => rfl
  | y :: xs, u :: us, .cons r t, f => by
    rw [List.all_cons, Bool.and_eq_true] at f
    rw [List.any_cons, List.any_cons, eqU_of r f.1, any_eqU t f.2]
theorem mem_eqAt {A : Around} {s : Shared} {x : V} {v : Value} (rx : RelV x v) (fx : flatV x = true) : ∀ {xs : List V} {us : List Value}, Vals xs us → xs.all flatV = true → ∀ u ∈ us, SeqAt.EqAt A s u v (eqU x u)
  | _, _, .nil, _ => fun u hu => by cases hu
  | y :: xs, u :: us, .cons r t, f => fun u' hu => by
    rw [List.all_cons, Bool.and_eq_true] at f
    rcases List.mem_cons.mp hu with rfl | hu
    · rw [eqU_of r f.1]; exact eqAt_V r rx f.1 fx
    · exact mem_eqAt rx fx t f.2 u' hu
def inV (x : V) (xs : List V) : Bool := xs.any fun y => eqV y x
/-- x in a list or tuple of flat items -/
def rIn (K : PySem.W.Frag) (neg : Bool) : R2 := fun x y H Q => ∃ p xs, y = .ref p ∧ (SqL K H p xs ∨ SqT K H p xs) ∧ flatV x = true ∧ xs.all flatV = true ∧ Q (.bl (if neg then !inV x xs else inV x xs)) H
theorem op_in_seq : OpR X (compareOp .In) (rIn X.K false) := by
  intro pins s σ H x y v u Q I rx ry h
  obtain ⟨p, xs, rfl, hq, fx, fs, q⟩ := h
  cases ry
  rcases hq with hq | hq
  · obtain ⟨its, r, pl, hz⟩ := I.list hq
    refine SeqAt.in_listAt (eqU x) pl.isList (fun w hw => mem_eqAt rx fx r fs w (by simpa using hw)) ⟨.bl _, H, I, rfl, ?_⟩
    rw [show its.toArray.any (eqU x) = its.any (eqU x) by simp, any_eqU r fs]
    exact q
  · obtain ⟨its, r, pl, hz⟩ := I.tuple hq
    refine SeqAt.in_tupleAt (eqU x) pl (fun w hw => mem_eqAt rx fx r fs w (by simpa using hw)) ⟨.bl _, H, I, rfl, ?_⟩
    rw [show its.toArray.any (eqU x) = its.any (eqU x) by simp, any_eqU r fs]
    exact q
theorem op_notIn_seq : OpR X (compareOp .NotIn) (rIn X.K true) := by
  intro pins s σ H x y v u Q I rx ry h
  obtain ⟨p, xs, rfl, hq, fx, fs, q⟩ := h
  cases ry
  rcases hq with hq | hq
  · obtain ⟨its, r, pl, hz⟩ := I.list hq
    refine SeqAt.notIn_listAt (eqU x) pl.isList (fun w hw => mem_eqAt rx fx r fs w (by simpa using hw)) ⟨.bl _, H, I, rfl, ?_⟩
    rw [show its.toArray.any (eqU x) = its.any (eqU x) by simp, any_eqU r fs]
    exact q
  · obtain ⟨its, r, pl, hz⟩ := I.tuple hq
    refine SeqAt.notIn_tupleAt (eqU x) pl (fun w hw => mem_eqAt rx fx r fs w (by simpa using hw)) ⟨.bl _, H, I, rfl, ?_⟩
    rw [show its.toArray.any (eqU x) = its.any (eqU x) by simp, any_eqU r fs]
    exact q
theorem op_notIn_str : OpR X (compareOp .NotIn) (fun x y H Q => ∃ i j, x = .str i ∧ y = .str j ∧ Q (.bl (!(!(Builtin.Str.occurrences j i 0 j.length 1).isEmpty))) H) := by
  intro pins s σ H x y v u Q I rx ry h
  obtain ⟨i, j, rfl, rfl, q⟩ := h
  obtain ⟨t, rfl⟩ := rx
  obtain ⟨t', rfl⟩ := ry
  exact notIn_str ⟨.bl _, H, I, rfl, q⟩

/-! ### len, list(x), tuple(x) of any list or tuple that is read -/
theorem call_len_seq : CallR X (.builtin "len") (fun xs H Q => ∃ p ys, xs = [.ref p] ∧ (SqL X.K H p ys ∨ SqT X.K H p ys) ∧ Q (.int ys.length) H) := by
  intro pins s σ H xs us Q I r h
  obtain ⟨p, ys, rfl, hq, q⟩ := h
  obtain ⟨u, rfl, rx⟩ := vals1 r
  cases rx
  have hn := line63
  rcases hq with hq | hq
  · obtain ⟨its, r', pl, hz⟩ := I.list hq
    have hlen := r'.length
    exact Calls.call_len_list pl.isList (by simp only [List.size_toArray] <;> omega) ⟨.int ys.length, H, I.tok _, ⟨s.toks + 1, by rw [List.size_toArray, hlen]⟩, q⟩
  · obtain ⟨its, r', pl, hz⟩ := I.tuple hq
    have hlen := r'.length
    exact len_tuple pl (by simp only [List.size_toArray] <;> omega) ⟨.int ys.length, H, I.tok _, ⟨s.toks + 1, by rw [List.size_toArray, hlen]⟩, q⟩
theorem call_len_str : CallR X (.builtin "len") (fun xs H Q => ∃ z, xs = [.str z] ∧ z.length ≤ sizeLine ∧ Q (.int z.length) H) := by
  intro pins s σ H xs us Q I r h
  obtain ⟨z, rfl, hz, q⟩ := h
  obtain ⟨u, rfl, t, rfl⟩ := vals1 r
  have hn := line63
  exact len_str (by omega) ⟨.int z.length, H, I.tok _, ⟨_, rfl⟩, q⟩
theorem CallR.or {f : Value} {r r' : List V → Hp → VK → Prop} (h : CallR X f r) (h' : CallR X f r') : CallR X f (fun xs H Q => r xs H Q ∨ r' xs H Q) := by
  intro pins s σ H xs us Q I rs q
  rcases q with q | q
  · exact h pins s σ H xs us Q I rs q
  · exact h' pins s σ H xs us Q I rs q
theorem call_list_of : CallR X (.type "list") (fun xs H Q => ∃ p ys, xs = [.ref p] ∧ (SqL X.K H p ys ∨ SqT X.K H p ys) ∧ ∀ l, H l = none → Q (.ref l) (upd H l (.lst ys))) := by
  intro pins s σ H xs us Q I r h
  obtain ⟨p, ys, rfl, hq, q⟩ := h
  obtain ⟨u, rfl, rx⟩ := vals1 r
  cases rx
  have fin : ∀ (its : List Value), Vals ys its → ys.length ≤ sizeLine → ∀ (h' : Heap) (c' : Nat), (∀ b o', s.heap.get? b = some o' → h'.get? b = some o') →
      h'.get? s.heap.objs.size = some { cls := .type "list", dict := none, data := .seq its.toArray c', slots := #[] } → EP X pins σ Q (.ref s.heap.objs.size) { s with heap := h' } := fun its r' hz h' c' kp e =>
    ⟨.ref s.heap.objs.size, _, I.laid (t' := s.toks) kp (Nat.le_refl _) (show ObjOk X.prog X.w _ h' _ (.lst ys) from ⟨hz, its, c', r', e⟩), rfl, q _ (I.hok.fresh (Nat.le_refl _))⟩
  rcases hq with hq | hq
  · obtain ⟨its, r', pl, hz⟩ := I.list hq
    have hlen := r'.length
    obtain ⟨o, ho, hc, n, hd⟩ := pl.isList
    exact call_list_seq p (.inl rfl) ho hc hd (fun h' c' kp e => fin its r' hz h' c' kp e) (by simp only [List.size_toArray] <;> omega)
  · obtain ⟨its, r', pl, hz⟩ := I.tuple hq
    have hlen := r'.length
    obtain ⟨o, ho, hc, n, hd⟩ := pl
    exact call_list_seq p (.inr rfl) ho hc hd (fun h' c' kp e => fin its r' hz h' c' kp e) (by simp only [List.size_toArray] <;> omega)
theorem call_tuple_of : CallR X (.type "tuple") (fun xs H Q => ∃ p ys, xs = [.ref p] ∧ ((SqL X.K H p ys ∧ ∀ l, H l = none → Q (.ref l) (upd H l (.tup ys))) ∨ (SqT X.K H p ys ∧ Q (.ref p) H))) := by
  intro pins s σ H xs us Q I r h
  obtain ⟨p, ys, rfl, h⟩ := h
  obtain ⟨u, rfl, rx⟩ := vals1 r
  cases rx
  rcases h with ⟨hq, q⟩ | ⟨hq, q⟩
  · obtain ⟨its, r', pl, hz⟩ := I.list hq
    have hlen := r'.length
    refine call_tuple_list pl.isList (fun h' kp => ?_) (by simp only [List.size_toArray] <;> omega)
    have I1 : Inv X pins σ H { s with heap := h' } := I.kept (t' := s.toks) kp
    have I2 : Inv X pins σ (upd H h'.objs.size (.tup ys)) { s with heap := h'.push { cls := .type "tuple", data := .seq its.toArray } } :=
      I1.laid (t' := s.toks) (fun b o e => Heap.get?_push_of_some _ e) (Nat.le_refl _) (show ObjOk X.prog X.w _ _ _ (.tup ys) from ⟨hz, its, r', IsTup.new _ _⟩)
    exact ⟨.ref h'.objs.size, _, I2, rfl, q _ (I1.hok.fresh (Nat.le_refl _))⟩
  · obtain ⟨its, r', pl, hz⟩ := I.tuple hq
    exact call_tuple_same pl ⟨.ref p, H, I, rfl, q⟩

/-! ### the call of a builtin's method: o.m(..) -/
/-- the value is of that builtin type -/
def tyV (K : PySem.W.Frag) (T : String) (x : V) (H : Hp) : Prop := match x with
  | .str _ => T = "str"
  | .int _ => T = "int"
  | .ref p => (T = "list" ∧ ∃ xs, SqL K H p xs) ∨ (T = "tuple" ∧ ∃ o, K.lookup p = some o ∧ o.cls = .type "tuple" ∧ o.dict = none) ∨
      (T = "dict" ∧ ((∃ kvs, H p = some (.dK kvs)) ∨ ∃ kvs, H p = some (.dT kvs))) ∨ (T = "set" ∧ ∃ S n, H p = some (.set S n))
  | _ => False
theorem tyV_is {pins : List (Addr × Obj)} {σ : St} {H : Hp} {s : Shared} {T : String} {x : V} {v : Value} (I : Inv X pins σ H s) (r : RelV x v) (ty : tyV X.K T x H) :
    s.TypeIs v T ∧ ∀ a, v = .ref a → ∃ ob, s.heap.get? a = some ob ∧ ob.dict = none := by
  cases x with
  | str z =>
    obtain ⟨t, rfl⟩ := r
    cases (show T = "str" from ty)
    exact ⟨typeIs_str s z t, fun _ e => nomatch e⟩
  | int i =>
    obtain ⟨t, rfl⟩ := r
    cases (show T = "int" from ty)
    exact ⟨typeIs_int s i t, fun _ e => nomatch e⟩
  | ref p =>
    cases r
    rcases ty with ⟨rfl, xs, hq⟩ | ⟨rfl, o, hk, hc, hd⟩ | ⟨rfl, hk⟩ | ⟨rfl, S, n, hk⟩
    · obtain ⟨its, _, pl, _⟩ := I.list hq
      refine ⟨pl.isList.typeIs, fun a e => ?_⟩
      cases e
      obtain ⟨o, n, e, c, hd, _⟩ := pl
      exact ⟨o, e, hd⟩
    · refine ⟨⟨o, I.kIn p o hk, hc⟩, fun a e => ?_⟩
      cases e
      exact ⟨o, I.kIn _ o hk, hd⟩
    · have z : ∃ o, s.heap.get? p = some o ∧ o.ExactDict := by
        rcases hk with ⟨kvs, hk⟩ | ⟨kvs, hk⟩
        · obtain ⟨_, _, _, _, o, _, _, e, ex, _⟩ := I.hok p _ hk
          exact ⟨o, e, ex⟩
        · obtain ⟨_, _, _, _, o, _, _, e, ex, _⟩ := I.hok p _ hk
          exact ⟨o, e, ex⟩
      obtain ⟨o, e, ex⟩ := z
      refine ⟨⟨o, e, ex.1⟩, fun a e2 => ?_⟩
      cases e2
      exact ⟨o, e, ex.2.1⟩
    · obtain ⟨o, _, _, _, e, ex, _⟩ := I.hok p _ hk
      refine ⟨⟨o, e, ex.1⟩, fun a e2 => ?_⟩
      cases e2
      exact ⟨o, e, ex.2.1⟩
  | _ => exact False.elim ty
def tBM0 (K : PySem.W.Frag) (T : String) (r : V → List V → Hp → VK → Prop) (to : TE) : TE := fun σ H Q => to σ H fun x H1 => tyV K T x H1 ∧ r x [] H1 Q
def tBM (K : PySem.W.Frag) (T : String) (r : V → List V → Hp → VK → Prop) (to : TE) (t : TA) : TE := fun σ H Q => to σ H fun x H1 => tyV K T x H1 ∧ t σ H1 fun xs H2 => r x xs H2 Q
variable {o e : Expr} {es : List Expr} {to : TE} {t : TA} {name : Str} {apos cpos : Pos} {T id : String} {r : V → List V → Hp → VK → Prop}
theorem pe_bm0 (pa : PlainAttrs T) (slot : Slot T name id) (hty : typeOf (.builtin id) = pure (.type "method_descriptor")) (hm : MtR X id r) (ho : PE X o to)
    (hbase : attributeBase o name X.env (eval o X.env) = eval o X.env := by rfl) (hline : (apos.endLine == cpos.line) = true := by rfl) : PE X (.Call (.Attribute o name apos) [] [] cpos) (tBM0 X.K T r to) := by
  intro pins s σ H Q I h
  refine wpAny_Call_method0_late hbase hline (thn (ho pins s σ H _ I h) fun v s1 ⟨x, H1, I1, r1, ty, q1⟩ => ?_)
  obtain ⟨h1, h2⟩ := tyV_is I1 r1 ty
  exact ⟨T, id, pa, slot, hty, h1, h2, Calls.callWith_builtin rfl (PySem.evalArgs_none (hm pins s1 σ H1 x [] v [] Q I1 r1 .nil q1))⟩
theorem pe_bm (pa : PlainAttrs T) (slot : Slot T name id) (hty : typeOf (.builtin id) = pure (.type "method_descriptor")) (hm : MtR X id r) (ho : PE X o to) (ha : PA X (e :: es) t)
    (hbase : attributeBase o name X.env (eval o X.env) = eval o X.env := by rfl)
    (hfew : ((backTo cpos (starEach (e :: es) X.env)).all (fun x => !x.1) && (backToKw cpos (keywordEach [] X.env)).all (fun x => x.1.isSome)
      && decide ((e :: es).length + ([] : List Keyword).length + (if ([] : List Keyword).isEmpty then 0 else 1) < 30)) = true := by rfl)
    (hline : (apos.endLine == cpos.line) = true := by rfl) (hs : starEach (e :: es) X.env = (false, eval e X.env) :: starEach es X.env := by rfl) (hplain : (backTo cpos (starEach es X.env)).any (·.1) = false := by rfl) :
    PE X (.Call (.Attribute o name apos) (e :: es) [] cpos) (tBM X.K T r to t) := by
  intro pins s σ H Q I h
  refine wpAny_Call_method_late hbase hfew hline rfl (thn (ho pins s σ H _ I h) fun v s1 ⟨x, H1, I1, r1, ty, q1⟩ => ?_)
  obtain ⟨h1, h2⟩ := tyV_is I1 r1 ty
  refine ⟨T, id, pa, slot, hty, h1, h2, ?_⟩
  have hA := ha cpos pins s1 σ H1 _ I1 q1
  rw [hs] at hA ⊢
  refine Calls.callWith_builtin (by show (false || (backTo cpos (starEach es X.env)).any (·.1)) = false; rw [hplain] <;> rfl) (Calls.evalArgs_plain ?_)
  exact thn hA fun us s2 ⟨vs, H2, I2, r2, q2⟩ => hm pins s2 σ H2 x vs v us Q I2 r1 r2 q2
/- xs.append(e), list.index on a module's tuple .. are MtR facts of 06m -/
end
end L2

namespace L2
open PySem PySem.Spec PyProof.Rows

def MtM (X : Cx) (id : String) (r : V → List V → Hp → VK → Prop) : Prop :=
  ∀ (pins : List (Addr × Obj)) (s : Shared) (σ : St) (H : Hp) (x : V) (xs : List V) (v : Value) (us : List Value) (Q : VK), Inv X pins σ H s → RelV x v → Vals xs us → r x xs H Q →
    wpAny (model X.prog X.w) X.A (call (.builtin id) (v :: us)) (EP X pins σ Q) X.xe s

/-! ### lists of values -/
theorem Vals.one : ∀ {x : V} {us : List Value}, Vals [x] us → ∃ u, us = [u] ∧ RelV x u
  | _, _, .cons r .nil => ⟨_, rfl, r⟩
theorem Vals.two : ∀ {x y : V} {us : List Value}, Vals [x, y] us → ∃ u v, us = [u, v] ∧ RelV x u ∧ RelV y v
  | _, _, _, .cons r (.cons q .nil) => ⟨_, _, rfl, r, q⟩
theorem Vals.zero : ∀ {us : List Value}, Vals [] us → us = []
  | _, .nil => rfl
theorem Vals.dropLast {xs : List V} {us : List Value} (h : Vals xs us) : Vals xs.dropLast us.dropLast := by
  induction h with
  | nil => exact .nil
  | cons r t ih =>
    cases t with
    | nil => exact .nil
    | cons q t' => exact .cons r ih
theorem Vals.eraseIdx : ∀ {xs : List V} {us : List Value} (i : Nat), Vals xs us → Vals (xs.eraseIdx i) (us.eraseIdx i)
  | _, _, _, .nil => .nil
  | _, _, 0, .cons _ t => t
  | _, _, i + 1, .cons r t => .cons r (Vals.eraseIdx i t)
theorem Vals.reverse {xs : List V} {us : List Value} (h : Vals xs us) : Vals xs.reverse us.reverse := by
  induction h with
  | nil => exact .nil
  | cons r t ih => rw [List.reverse_cons, List.reverse_cons]; exact Vals.append ih (.cons r .nil)
theorem Vals.rep {xs : List V} {us : List Value} (h : Vals xs us) : ∀ k : Nat, Vals (List.replicate k xs).flatten (List.replicate k us).flatten
  | 0 => .nil
  | k + 1 => by
    rw [List.replicate_succ, List.replicate_succ, List.flatten_cons, List.flatten_cons]
    exact Vals.append h (Vals.rep h k)
theorem erase_last {α : Type} (l : List α) : l.eraseIdx (l.length - 1) = l.dropLast := by
  induction l with
  | nil => rfl
  | cons a r ih =>
    cases r with
    | nil => rfl
    | cons b r =>
      have e : (a :: b :: r).length - 1 = ((b :: r).length - 1) + 1 := by
        have h1 : (a :: b :: r).length = r.length + 2 := rfl
        have h2 : (b :: r).length = r.length + 1 := rfl
        omega
      rw [e, List.eraseIdx_cons_succ, ih]
      all_goals rfl
theorem len_erase {α : Type} : ∀ (l : List α) (i : Nat), (l.eraseIdx i).length ≤ l.length
  | [], _ => Nat.le_refl _
  | _ :: _, 0 => Nat.le_succ _
  | _ :: r, i + 1 => Nat.succ_le_succ (len_erase r i)
theorem foldl_rep (its : List Value) : ∀ (k : Nat) (acc : List Value),
    List.foldl (fun x1 x2 => x1 ++ x2) acc.toArray (List.replicate k its.toArray) = (acc ++ (List.replicate k its).flatten).toArray
  | 0, acc => by simp
  | k + 1, acc => by
    have e : acc.toArray ++ its.toArray = (acc ++ its).toArray := by simp
    have e2 : (acc ++ its) ++ (List.replicate k its).flatten = acc ++ (List.replicate (k + 1) its).flatten := by
      rw [List.replicate_succ, List.flatten_cons, List.append_assoc]
    rw [← e2, ← foldl_rep its k (acc ++ its), ← e, List.replicate_succ, List.foldl_cons]

section
variable {X : Cx} {pins : List (Addr × Obj)} {σ : St} {H : Hp} {s : Shared} {l b : Addr} {xs ys zs : List V}

/-! ### the two steps: a tracked list is rewritten, a new list is laid -/
theorem Inv.lset {its its' : List Value} {n : Nat} {f : Array Value → Array Value} {t' : Nat} (I : Inv X pins σ H s) (hH : H l = some (.lst xs))
    (e : s.heap.get? l = some { cls := .type "list", data := .seq its.toArray n }) (hf : f its.toArray = its'.toArray) (hv : Vals ys its') (hz : ys.length ≤ sizeLine) :
    Inv X pins σ (upd H l (.lst ys)) { s with heap := s.heap.update l (Obj.mapSeq f), toks := t' } := by
  have q := PySem.IsL.update e f
  rw [hf] at q
  refine I.write (x := l) (e := l) (by rw [hH]; exact trivial) (.inl rfl) (fun b' u hb hu => (Heap.get?_update_other s.heap (Obj.mapSeq f) (Ne.symm hb)).trans hu) ⟨_, q⟩ ?_
  exact ⟨hz, its', _, hv, q⟩
theorem Inv.lnew {its : List Value} {t' : Nat} (I : Inv X pins σ H s) (hv : Vals ys its) (hz : ys.length ≤ sizeLine) :
    Inv X pins σ (upd H s.heap.objs.size (.lst ys)) { s with heap := s.heap.push { cls := .type "list", data := .seq its.toArray }, toks := t' } :=
  I.laid (fun _ _ q => Heap.get?_push_of_some _ q) (Nat.le_refl _) ⟨hz, its, 0, hv, Heap.get?_push_size _ rfl⟩
theorem Inv.fresh (I : Inv X pins σ H s) : H s.heap.objs.size = none := I.hok.fresh (Nat.le_refl _)
theorem Inv.lstM (I : Inv X pins σ H s) (hH : H l = some (.lst xs)) : xs.length ≤ sizeLine ∧ ∃ (its : List Value) (n : Nat), Vals xs its ∧ xs.length = its.length ∧ s.heap.get? l = some { cls := .type "list", data := .seq its.toArray n } := by
  obtain ⟨z, its, n, r, e⟩ := I.hok l _ hH
  exact ⟨z, its, n, r, r.length, e⟩

theorem notLongL {n : Nat} (h : n ≤ sizeLine) : Builtin.List.listTooLong n = false := by
  unfold Builtin.List.listTooLong
  exact decide_eq_false (by omega)
end

section
variable {X : Cx}

/-! ### methods -/
def rAppend : V → List V → Hp → VK → Prop := fun x vs H Q => ∃ l xs y, x = .ref l ∧ vs = [y] ∧ H l = some (.lst xs) ∧ xs.length < sizeLine ∧ Q .non (upd H l (.lst (xs ++ [y])))
theorem mt_append : MtM X "list.append" rAppend := by
  intro pins s σ H x vs v us Q I rx rv h
  obtain ⟨l, xs, y, rfl, rfl, hH, hz, q⟩ := h
  cases rx
  obtain ⟨u, rfl, ru⟩ := rv.one
  obtain ⟨z, its, n, r, hl, e⟩ := I.lstM hH
  refine call_meets F.slot_list_append ⟨_, e, rfl⟩ F.entry_list_append (F.args_list_append_2 _ _) (PySem.list_append l its.toArray n u (by rw [List.size_toArray]; omega)) ⟨e, ?_⟩
  refine ⟨.non, _, I.lset (its' := its ++ [u]) hH e (by simp) (r.append (.cons ru .nil)) ?_, rfl, q⟩
  rw [List.length_append, List.length_singleton]
  omega

def rExtend : V → List V → Hp → VK → Prop := fun x vs H Q => ∃ l b xs zs, x = .ref l ∧ vs = [.ref b] ∧ H l = some (.lst xs) ∧ H b = some (.lst zs) ∧ xs.length + zs.length ≤ sizeLine ∧ Q .non (upd H l (.lst (xs ++ zs)))
theorem mt_extend : MtM X "list.extend" rExtend := by
  intro pins s σ H x vs v us Q I rx rv h
  obtain ⟨l, b, xs, zs, rfl, rfl, hH, hB, hz, q⟩ := h
  cases rx
  obtain ⟨u, rfl, ru⟩ := rv.one
  cases ru
  obtain ⟨z, its, n, r, hl, e⟩ := I.lstM hH
  obtain ⟨z2, its2, n2, r2, hl2, e2⟩ := I.lstM hB
  have hsz : its.toArray.size + its2.toArray.size ≤ sizeLine := by rw [List.size_toArray, List.size_toArray]; omega
  have hlong : ¬ (!its.toArray.isEmpty && Builtin.List.listTooLong (its.toArray.size + its2.toArray.size)) = true := by
    rw [notLongL hsz, Bool.and_false]
    exact Bool.false_ne_true
  refine call_meets F.slot_list_extend ⟨_, e, rfl⟩ F.entry_list_extend (F.args_list_extend_2 _ _)
    (AutoSeq1.list_extend_list_list_0 l its.toArray n b its2.toArray n2 hlong (by rw [List.size_toArray]; omega) (by omega)) ⟨e, e2, ?_⟩
  refine ⟨.non, _, I.lset (its' := its ++ its2) hH e (by simp) (r.append r2) ?_, rfl, q⟩
  rw [List.length_append]
  omega

def rPop : V → List V → Hp → VK → Prop := fun x vs H Q => ∃ l xs y, x = .ref l ∧ vs = [] ∧ H l = some (.lst xs) ∧ xs[xs.length - 1]? = some y ∧ Q y (upd H l (.lst xs.dropLast))
theorem mt_pop : MtM X "list.pop" rPop := by
  intro pins s σ H x vs v us Q I rx rv h
  obtain ⟨l, xs, y, rfl, rfl, hH, hy, q⟩ := h
  cases rx
  have hus := rv.zero
  subst hus
  obtain ⟨z, its, n, r, hl, e⟩ := I.lstM hH
  obtain ⟨u, hu, ru⟩ := r.get hy
  have hy' : its.toArray[its.toArray.size - 1]? = some u := by
    show its.toArray[its.length - 1]? = some u
    rw [← Array.getElem?_toList, ← hl]
    exact hu
  refine call_meets F.slot_list_pop ⟨_, e, rfl⟩ F.entry_list_pop (F.args_list_pop_1 _) (MeetsSeq.list_pop_last l its.toArray n u hy' (by rw [List.size_toArray]; omega)) ⟨e, ?_⟩
  refine ⟨y, _, I.lset (its' := its.dropLast) hH e ?_ r.dropLast ?_, ru, q⟩
  · show its.toArray.eraseIdxIfInBounds (its.toArray.size - 1) = its.dropLast.toArray
    rw [List.size_toArray, List.eraseIdxIfInBounds_toArray, erase_last]
  · rw [List.length_dropLast]
    omega

def rPopAt : V → List V → Hp → VK → Prop := fun x vs H Q => ∃ l xs i k y, x = .ref l ∧ vs = [.int i] ∧ H l = some (.lst xs) ∧ -(2 ^ 63) ≤ i ∧ i < 2 ^ 63 ∧ seqIndex? i xs.length = some k ∧ xs[k]? = some y ∧ Q y (upd H l (.lst (xs.eraseIdx k)))
theorem mt_popAt : MtM X "list.pop" rPopAt := by
  intro pins s σ H x vs v us Q I rx rv h
  obtain ⟨l, xs, i, k, y, rfl, rfl, hH, h1, h2, hk, hy, q⟩ := h
  cases rx
  obtain ⟨u, rfl, ru⟩ := rv.one
  obtain ⟨t, rfl⟩ := ru
  obtain ⟨z, its, n, r, hl, e⟩ := I.lstM hH
  obtain ⟨w, hw, rw'⟩ := r.get hy
  refine call_meets F.slot_list_pop ⟨_, e, rfl⟩ F.entry_list_pop (F.args_list_pop_2 _ _)
    (MeetsSeq.list_pop_at l its.toArray n i t k w (fitsIndex_both h1 h2) (by rw [List.size_toArray, ← hl]; exact hk) (by rw [← Array.getElem?_toList]; exact hw) (by rw [List.size_toArray]; omega)) ⟨e, ?_⟩
  refine ⟨y, _, I.lset (its' := its.eraseIdx k) hH e ?_ (r.eraseIdx k) ?_, rw', q⟩
  · show its.toArray.eraseIdxIfInBounds k = (its.eraseIdx k).toArray
    rw [List.eraseIdxIfInBounds_toArray]
  · have := len_erase xs k
    omega

def rReverse : V → List V → Hp → VK → Prop := fun x vs H Q => ∃ l xs, x = .ref l ∧ vs = [] ∧ H l = some (.lst xs) ∧ Q .non (upd H l (.lst xs.reverse))
theorem mt_reverse : MtM X "list.reverse" rReverse := by
  intro pins s σ H x vs v us Q I rx rv h
  obtain ⟨l, xs, rfl, rfl, hH, q⟩ := h
  cases rx
  have hus := rv.zero
  subst hus
  obtain ⟨z, its, n, r, hl, e⟩ := I.lstM hH
  refine call_meets F.slot_list_reverse ⟨_, e, rfl⟩ F.entry_list_reverse (F.args_list_reverse_1 _) (AutoSeq1.list_reverse_list_0 l its.toArray n (by rw [List.size_toArray]; omega)) ⟨e, ?_⟩
  refine ⟨.non, _, I.lset (its' := its.reverse) hH e (by simp) r.reverse ?_, rfl, q⟩
  rw [List.length_reverse]
  omega

def rClear : V → List V → Hp → VK → Prop := fun x vs H Q => ∃ l xs, x = .ref l ∧ vs = [] ∧ H l = some (.lst xs) ∧ Q .non (upd H l (.lst []))
theorem mt_clear : MtM X "list.clear" rClear := by
  intro pins s σ H x vs v us Q I rx rv h
  obtain ⟨l, xs, rfl, rfl, hH, q⟩ := h
  cases rx
  have hus := rv.zero
  subst hus
  obtain ⟨z, its, n, r, hl, e⟩ := I.lstM hH
  refine call_meets F.slot_list_clear ⟨_, e, rfl⟩ F.entry_list_clear (F.args_list_clear_1 _) (AutoSeq1.list_clear_list_0 l its.toArray n (by rw [List.size_toArray]; omega)) ⟨e, ?_⟩
  exact ⟨.non, _, I.lset (its' := []) (ys := []) hH e rfl .nil (Nat.zero_le _), rfl, q⟩

/-! ### list + list, list += list, list * int -/
def rCat : R2 := fun x y H Q => ∃ l b xs zs, x = .ref l ∧ y = .ref b ∧ H l = some (.lst xs) ∧ H b = some (.lst zs) ∧ xs.length + zs.length ≤ sizeLine ∧ ∀ p, H p = none → Q (.ref p) (upd H p (.lst (xs ++ zs)))
theorem op_cat : OpR X (binaryOp .Add) rCat := by
  intro pins s σ H x y v u Q I rx ry h
  obtain ⟨l, b, xs, zs, rfl, rfl, hH, hB, hz, q⟩ := h
  cases rx
  cases ry
  obtain ⟨z, its, n, r, hl, e⟩ := I.lstM hH
  obtain ⟨z2, its2, n2, r2, hl2, e2⟩ := I.lstM hB
  refine PySem.P.add_list e e2 ?_ (by rw [List.size_toArray, List.size_toArray]; omega)
  have ea : its.toArray ++ its2.toArray = (its ++ its2).toArray := by simp
  rw [ea]
  exact ⟨.ref _, _, I.lnew (t' := s.toks) (r.append r2) (by rw [List.length_append]; omega), rfl, q _ I.fresh⟩
/-- a list times an int (a negative one is nothing) -/
def rRep : R2 := fun x y H Q => ∃ l k xs, x = .ref l ∧ y = .int k ∧ H l = some (.lst xs) ∧ -(2 ^ 63) ≤ k ∧ k < 2 ^ 63 ∧ xs.length * k.toNat ≤ sizeLine ∧
  ∀ p, H p = none → Q (.ref p) (upd H p (.lst (List.replicate k.toNat xs).flatten))
theorem len_rep {α : Type} (xs : List α) (k : Nat) : (List.replicate k xs).flatten.length = k * xs.length := by
  induction k with
  | zero => simp
  | succ k ih => rw [List.replicate_succ, List.flatten_cons, List.length_append, ih, Nat.succ_mul, Nat.add_comm]
theorem op_rep : OpR X (binaryOp .Mult) rRep := by
  intro pins s σ H x y v u Q I rx ry h
  obtain ⟨l, k, xs, rfl, rfl, hH, h1, h2, hz, q⟩ := h
  cases rx
  obtain ⟨t, rfl⟩ := ry
  obtain ⟨z, its, n, r, hl, e⟩ := I.lstM hH
  have hlen : its.toArray.size * k.toNat ≤ sizeLine := by rw [List.size_toArray, ← hl]; exact hz
  have hcap : ¬ its.toArray.size * k.toNat > (2 ^ 63 - 1) / 8 := by
    have : (sizeLine : Nat) ≤ (2 ^ 63 - 1) / 8 := by decide
    omega
  have hfit : ¬ (!Builtin.List.listFitsIndex k) = true := by
    rw [fitsIndex_both h1 h2]
    exact Bool.false_ne_true
  have hlong : ¬ Builtin.List.listTooLong (its.toArray.size * k.toNat) = true := by
    rw [notLongL hlen]
    exact Bool.false_ne_true
  have hnew : List.foldl (fun x1 x2 => x1 ++ x2) #[] (List.replicate (if its.toArray.isEmpty = true then 0 else k.toNat) its.toArray) = (List.replicate k.toNat its).flatten.toArray := by
    have f0 : ∀ m : Nat, List.foldl (fun x1 x2 => x1 ++ x2) #[] (List.replicate m its.toArray) = (List.replicate m its).flatten.toArray := fun m => by
      have := foldl_rep its m []
      rw [List.nil_append] at this
      exact this
    rw [f0]
    cases its with
    | nil => simp
    | cons a r' => rw [if_neg (by simp)]
  refine wpAny_binaryOp_repeat_ref (T := "list") (U := "int") (by decide) ⟨_, e, rfl⟩ (fun s' => typeIs_int s' k t) noFill_list_mul F.fills_int_mul F.slot_int_rmul repeat_list F.slot_int_index.lookup
    (call_meets F.slot_int_rmul (typeIs_int s k t) F.entry_int_rmul (F.args_int_rmul_2 _ _) (int___rmul___int_list k t l its.toArray n)
      ⟨e, rfl, ⟨_, e, rfl⟩, call_meets F.slot_list_mul ⟨_, e, rfl⟩ F.entry_list_mul (F.args_list_mul_2 _ _) (AutoListH.list___mul___list_int_3 l its.toArray n k t hfit hcap hlong) ⟨e, ?_⟩⟩)
  rw [hnew]
  exact ⟨.ref _, _, I.lnew (t' := s.toks) (r.rep k.toNat) (by rw [len_rep, Nat.mul_comm]; exact hz), rfl, q _ I.fresh⟩

/-! ### del xs[i] -/
theorem del_list {pins : List (Addr × Obj)} {s : Shared} {σ : St} {H : Hp} {l : Addr} {xs : List V} {i : Int} {t : Tok} {k : Nat} {Q : Unit → Shared → Prop} (I : Inv X pins σ H s) (hH : H l = some (.lst xs))
    (h1 : -(2 ^ 63) ≤ i) (h2 : i < 2 ^ 63) (hk : seqIndex? i xs.length = some k) (h : ∀ s', Inv X pins σ (upd H l (.lst (xs.eraseIdx k))) s' → Q () s') :
    wpAny (model X.prog X.w) X.A (delItem (.ref l) (.int i t)) Q X.xe s := by
  obtain ⟨z, its, n, r, hl, e⟩ := I.lstM hH
  refine PySem.P.delItem_list (k := k) e (fitsIndex_both h1 h2) (by rw [List.size_toArray, ← hl]; exact hk) (h _ ?_) (by rw [List.size_toArray]; omega)
  refine I.lset (its' := its.eraseIdx k) (t' := s.toks) hH e ?_ (r.eraseIdx k) ?_
  · show its.toArray.eraseIdxIfInBounds k = (its.eraseIdx k).toArray
    rw [List.eraseIdxIfInBounds_toArray]
  · have := len_erase xs k
    omega
end

/-! ### xs[a:b] = ys -/
section
variable {prog : Program} {w : World} {A : Around} {E : Value → Shared → Prop} {s : Shared}
theorem splice_eq (its its2 : List Value) (a c : Nat) : its.toArray.extract 0 a ++ its2.toArray ++ its.toArray.extract c its.toArray.size = (its.take a ++ its2 ++ its.drop c).toArray := by
  apply Array.toList_inj.mp
  first
    | (simp
       exact List.take_of_length_le (by simp))
    | simp [List.take_of_length_le]
    | simp
theorem bounds_run {a c n : Nat} (hac : a ≤ c) (hc : c ≤ n) : sliceBounds (some (a : Int)) (some (c : Int)) none n = ((a : Int), (c : Int), 1) := by
  simp only [sliceBounds, Option.getD_none]
  have h1 : ¬ ((a : Int) < 0) := by omega
  have h2 : ¬ ((c : Int) < 0) := by omega
  simp only [h1, h2, if_false, show (1 : Int) > 0 by decide, if_true]
  congr 1
  · omega
  · congr 1; omega
set_option maxRecDepth 100000 in
/-- list.__setitem__ with a slice of step one and another list -/
theorem setItem_slice {l b sl : Addr} {items new : Array Value} {n n2 : Nat} {vl vu : Value} {a c : Nat} {Q : Unit → Shared → Prop}
    (e : s.heap.get? l = some { cls := .type "list", data := .seq items n }) (e2 : s.heap.get? b = some { cls := .type "list", data := .seq new n2 }) (hne : l ≠ b)
    (hs : s.heap.IsSliceOf sl vl vu .none) (pl : IsPart vl (some (a : Int))) (pu : IsPart vu (some (c : Int))) (hac : a ≤ c) (hc : c ≤ items.size)
    (hsz : items.size + new.size ≤ sizeLine) (h : Q () { s with heap := s.heap.update l (Obj.mapSeq fun xs => xs.extract 0 a ++ new ++ xs.extract c xs.size) }) :
    wpAny (model prog w) A (setItem (.ref l) (.ref sl) (.ref b)) Q E s := by
  have hl : s.heap.IsList l items := PySem.IsL.isList e
  have hb : s.heap.IsList b new := PySem.IsL.isList e2
  obtain ⟨os, hos, hcs, hds⟩ := id hs
  have hTs : s.TypeIs (.ref sl) "slice" := ⟨os, hos, hcs⟩
  have hstep : ¬ ((rawPart none == rawInt 0) = true) := Bool.false_ne_true
  have hsame : Builtin.List.listSameRef (.ref l) (.ref b) = false := by
    unfold Builtin.List.listSameRef
    exact beq_eq_false_iff_ne.mpr hne
  have hmax : (max (a : Int) (c : Int)).toNat = c := by omega
  have hz' : ((fun xs : Array Value => xs.extract 0 a ++ new ++ xs.extract c xs.size) items).size ≤ sizeLine + 1 := by
    simp only [Array.size_append, Array.size_extract]
    omega
  unfold setItem
  try with_reducible refine wpAny_holding ?_
  first | refine wpAny_bind (wpAny_pure ?_) | skip
  refine wpAny_bind (wpAny_sequenceKey hl.typeIs (by decide) ?_)
  refine wpAny_bind (wpAny_callSpecial?_slot (name := Str.ofString "__setitem__") hl.typeIs slot_list_setitem
    (wpAny_call_entry slot_list_setitem hl.typeIs entry_list_setitem ?_ (args_list_setitem _ _ _)))
  show wpAny _ _ (Builtin.List.listSubscript? (.ref sl) >>= _) _ _ s
  refine wpAny_bind ?_
  unfold Builtin.List.listSubscript?
  refine wpAny_bind (wpAny_specialOf hTs slice_no_index ?_)
  simp only [Option.isNone_none, if_true]
  refine wpAny_pure ?_
  show wpAny _ _ (typeOf (.ref sl) >>= _) _ _ s
  refine wpAny_bind (wpAny_typeOf hTs ?_)
  first
    | rw [if_neg (by decide)]
    | refine PySem.W.KFB.if_not (by decide) ?_
  rw [listSliceParts_eq]
  refine wpAny_bind (wpAny_bind (wpAny_field hos hds (x := .none) rfl (wpAny_bind (wpAny_listPart .none ?_))))
  rw [if_neg hstep]
  refine wpAny_bind (wpAny_field hos hds (x := vl) rfl (wpAny_bind (wpAny_listPart pl ?_)))
  refine wpAny_bind (wpAny_field hos hds (x := vu) rfl (wpAny_bind (wpAny_listPart pu (wpAny_pure ?_))))
  first
    | simp only [hsame, Bool.false_eq_true, if_false]
    | refine PySem.W.KFB.if_not hsame ?_
    | (dsimp only
       rw [if_neg (by rw [hsame]; exact Bool.false_ne_true)])
  refine wpAny_bind (m := Builtin.List.listAllItems (.ref b) "must assign iterable to extended slice") ?_
  unfold Builtin.List.listAllItems
  refine wpAny_bind (wpAny_typeOf hb.typeIs ?_)
  first
    | refine PySem.W.KFB.if_so (by decide) ?_
    | rw [if_pos (by decide)]
    | simp only [beq_self_eq_true, Bool.true_or, if_true]
  unfold Builtin.List.listItems
  refine wpAny_bind (wpAny_seqItems e2 rfl (wpAny_pure ?_))
  refine wpAny_bind (wpAny_bind (wpAny_seqItems e rfl (wpAny_pure ?_)))
  refine wpAny_bind (wpAny_of_eq ((sliceIndices_raw (some (a : Int)) (some (c : Int)) none items.size (by simp)).trans (congrArg (pure : Int × Int × Int → Sem (Int × Int × Int)) (bounds_run hac hc))) ?_)
  show wpAny _ _ (if ((1 : Int) == 1) = true then _ else _) _ _ s
  rw [if_pos (by decide)]
  refine wpAny_bind (wpAny_rule ?_)
  first
    | simp only [notLongL hsz, Bool.false_eq_true, if_false]
    | refine PySem.W.KFB.if_not (notLongL hsz) ?_
  first | refine wpAny_bind (wpAny_pure ?_) | skip
  show wpAny _ _ (updateSeq l (fun xs => xs.extract 0 ((a : Int)).toNat ++ new ++ xs.extract (max (a : Int) (c : Int)).toNat xs.size) >>= _) _ _ s
  rw [hmax, Int.toNat_natCast]
  refine wpAny_bind (wpAny_updateSeq (hz := Nat.le_trans (Nat.le_add_right _ _) hsz) (_hz' := hz') e rfl ?_)
  refine wpAny_bind (wpAny_letGo ?_)
  first
    | exact wpAny_bind (wpAny_pure (wpAny_pure ⟨.none, rfl, wpAny_pure h⟩))
    | exact wpAny_pure ⟨.none, rfl, wpAny_pure h⟩
end

section
variable {X : Cx}
/-- xs[a:c] = ys of another list, at the value level: sl is the slice object that was just made -/
theorem set_slice {pins : List (Addr × Obj)} {s : Shared} {σ : St} {H : Hp} {l b sl : Addr} {xs ys : List V} {a c : Int} {vl vu : Value} {Q : Unit → Shared → Prop} (I : Inv X pins σ H s)
    (hH : H l = some (.lst xs)) (hB : H b = some (.lst ys)) (hne : l ≠ b) (hs : s.heap.IsSliceOf sl vl vu .none) (ra : RelV (.int a) vl) (rc : RelV (.int c) vu) (h0 : 0 ≤ a) (hac : a ≤ c) (hc : c ≤ xs.length)
    (hz : xs.length + ys.length ≤ sizeLine) (h : ∀ s', Inv X pins σ (upd H l (.lst (xs.take a.toNat ++ ys ++ xs.drop c.toNat))) s' → Q () s') :
    wpAny (model X.prog X.w) X.A (setItem (.ref l) (.ref sl) (.ref b)) Q X.xe s := by
  obtain ⟨ta, rfl⟩ := ra
  obtain ⟨tc, rfl⟩ := rc
  obtain ⟨z, its, n, r, hl, e⟩ := I.lstM hH
  obtain ⟨z2, its2, n2, r2, hl2, e2⟩ := I.lstM hB
  obtain ⟨a', rfl⟩ := Int.eq_ofNat_of_zero_le h0
  obtain ⟨c', rfl⟩ := Int.eq_ofNat_of_zero_le (Int.le_trans h0 hac)
  simp only [Int.toNat_natCast] at h
  refine setItem_slice (a := a') (c := c') e e2 hne hs (.int _ _) (.int _ _) (by omega) (by rw [List.size_toArray]; omega) (by rw [List.size_toArray, List.size_toArray]; omega) (h _ ?_)
  refine I.lset (its' := its.take a' ++ its2 ++ its.drop c') (t' := s.toks) hH e ?_ (Vals.append (Vals.append (r.take _) r2) (r.drop _)) ?_
  · exact splice_eq its its2 a' c'
  · rw [List.length_append, List.length_append, List.length_take, List.length_drop]
    omega
end
end L2

namespace Att
open PySem PySem.W PySem.Calls PyProof.Rows

/-! ### the script -/
theorem ints_of_wellAll {P : Params} {h : Heap} : ∀ (ns : List Int) (vs : List Value), WellAll P h vs (ns.map WData.int) → IntsAre vs ns := by
  intro ns
  induction ns with
  | nil =>
    intro vs w
    rw [List.map_nil] at w
    cases w
    exact .nil
  | cons n ns ih =>
    intro vs w
    rw [List.map_cons] at w
    cases w with
    | cons a b =>
      cases a
      exact .cons _ _ (ih _ b)

theorem script_of {l : OpenLaw} {n : Nat} (hn : l.most = some n) {P : Params} {h : Heap} {args : List WData} {vals : List Value}
    (hpre : l.row.toRowW.claim.pre args = true) (hwl : WellAll P h vals args) :
    ∃ a vs ns, vals = [Value.ref a] ∧ args = [WData.list (ns.map WData.int)] ∧ h.get? a = some { cls := .type "list", data := .seq vs.toArray } ∧ IntsAre vs ns ∧ ns.length ≤ n := by
  have hsh : WShape.hasAll [] args [.list .int] = true := (pre_splitW hpre).1
  have hc : l.pre.holds [] { args := args } = true := (pre_splitW hpre).2
  obtain ⟨d, r, rfl, h1, h2⟩ := hasAllW_cons hsh
  obtain rfl := hasAllW_nil h2
  obtain ⟨xs, rfl, h3⟩ := hasW_list h1
  obtain ⟨ns, rfl⟩ := items_int h3
  have hlen : ns.length ≤ n := by
    unfold OpenLaw.pre at hc
    have h4 : (WTm.not (.lt (.lit (.int (n : Int))) (.len (.arg 0)))).holds [] { args := [.list (ns.map .int)] } = true := by
      have h4 := (holds_andW hc).1
      rw [hn] at h4
      exact h4
    have h5 := condW_of h4 (w_not (w_lt w_lit (w_len_list (w_arg rfl))))
    rw [List.length_map] at h5
    refine Nat.le_of_not_lt fun q => ?_
    have q' : (n : Int) < ((ns.length : Nat) : Int) := by omega
    first
      | (rw [decide_eq_true q'] at h5; exact absurd h5 (by decide))
      | (simp at h5; omega)
  cases hwl with
  | cons w1 w2 =>
    cases w2
    cases w1 with
    | list ho hall => exact ⟨_, _, ns, rfl, rfl, ho, ints_of_wellAll ns _ hall, hlen⟩

theorem post_true (l : OpenLaw) (args : List WData) : l.row.toRowW.claim.post args (.bool true) args = true :=
  postW_of (r := l.row.toRowW) (X := (true == true))
    (show WShape.has [] (.bool true) .bool = true by first | rfl | decide | simp [WShape.has, WShape.arms, WShape.armsAll])
    (show (WTm.eq .res (.lit (.bool true))).value [] { args := args, res := some (.bool true), after := args } = some (.bool (true == true)) from w_eq_bool (w_res rfl) w_lit) rfl

/-! ### the attachment: holds_open's last premise (the goal 'hc' behind k_head) from a wpAny of the law's body -/
theorem attach {l : OpenLaw} {n : Nat} {q : Program} {loose : List Str} {XP : (Str → Option Value) → Heap → Prop} {YP : World → Heap → Prop} {d : DefRec} {x : Str}
    (hn : l.most = some n) (hdf : d.params.defaults = [])
    (hbind : ∀ pm cd doc v : Value, bindArgs (docDef d.name d.params d.body d.scope pm cd doc) ⟨[v], []⟩ = pure [(x, v)])
    (hx : d.scope.names.lookup x = some .local ∨ d.scope.names.lookup x = some .cell)
    (hk : d.scope.kind = .function) (hco : d.scope.isCoroutine = false) (hgen : d.scope.isGenerator = false)
    (body : ∀ (w : World) (s₀ s₁ s : Shared) (mg mb : Str → Option Value) (fa : Addr) (o : Obj) (pm cd doc : Value) (a : Addr) (vs : List Value) (ns : List Int),
      Ground q loose [] XP w s₀ mg mb s₁.heap → YP w s₁.heap →
      s₁.heap.get? fa = some o → o.data = .func (docDef d.name d.params d.body d.scope pm cd doc) → s₁.heap.CodeRec cd d.name → mg d.name = some (.ref fa) →
      s₁.heap.get? a = some { cls := .type "list", data := .seq vs.toArray } → IntsAre vs ns → ns.length ≤ n →
      s.gens = #[] → s.os = s₁.os →
      Fr s₁.heap s₁.heap.objs.size s.heap (bindL (envOfC d.name d.scope s₁.heap.objs.size fa cd).kindOf [(x, .ref a)] fun _ => none) →
      Cl s₁.heap.objs.size (cellsFrom (s₁.heap.objs.size + 1) d.scope.names []) s.heap (bindC (envOfC d.name d.scope s₁.heap.objs.size fa cd).kindOf [(x, .ref a)] fun _ => none) →
      wpAny (model l.prog w) (callerA.deeper (envOfC d.name d.scope s₁.heap.objs.size fa cd)) (execs d.body (envOfC d.name d.scope s₁.heap.objs.size fa cd))
        (fun f s' => f = .ret (.bool true) ∧ OldK s₁.heap s'.heap ∧ s'.os = s₁.os ∧ AllBare s'.gens) (fun _ _ => False) s) :
    WalkO q loose XP YP l.row.toRowW d [] (fun f vs => PySem.call f vs) := by
  intro w s₀ s₁ mg mb G Y fa o pm cd doc dV kV ho hd hcd hD hmg hg args vals as hpre hlay hrd hwl hlo
  obtain rfl : dV = .none := Dflts.none hD hdf
  obtain rfl : kV = .none := Dflts.noKw hD
  obtain ⟨a, vs, ns, rfl, rfl, hobj, hints, hlen⟩ := script_of hn hpre hwl
  refine enter_call ?_
  refine call_cells_ret (o := o) (by rw [depth_caller]; decide) ho (fd_plain hd) G.T.nolimit hcd (hbind pm cd doc (.ref a)) (fun y hy => ?_) (fun h₁ tk F X => ?_) hco hgen hk
  · obtain rfl : y = (x, Value.ref a) := List.mem_singleton.mp hy
    rcases hx with e | e
    · exact .inl e
    · exact .inr ⟨e, cellsFrom_some _ _ _ (.inl e)⟩
  · refine wpAny_mono (body w s₀ s₁ { s₁ with heap := h₁, toks := tk } mg mb fa o pm cd doc a vs ns G Y ho (fd_plain hd) hcd hmg hobj hints hlen hg rfl F X) (fun f s' hq => ?_) (fun _ _ hq => hq)
    obtain ⟨rfl, h2, h3, h4⟩ := hq
    exact ⟨.inl ⟨.bool true, .bool true, [], rfl, fun _ => rfl, .bool true, post_true l _, fun _ => ⟨List.Pairwise.nil, fun _ hm => (nomatch hm)⟩⟩, h2, h3, h4⟩

/-- the same from a codeAny of the CALL (for a layer whose function contracts speak of calls) -/
theorem attach_call {l : OpenLaw} {n : Nat} {q : Program} {loose : List Str} {XP : (Str → Option Value) → Heap → Prop} {YP : World → Heap → Prop} {d : DefRec}
    (hn : l.most = some n) (hdf : d.params.defaults = [])
    (call : ∀ (w : World) (s₀ s₁ : Shared) (mg mb : Str → Option Value) (fa : Addr) (o : Obj) (pm cd doc : Value) (a : Addr) (vs : List Value) (ns : List Int),
      Ground q loose [] XP w s₀ mg mb s₁.heap → YP w s₁.heap →
      s₁.heap.get? fa = some o → o.data = .func (docDef d.name d.params d.body d.scope pm cd doc) → s₁.heap.CodeRec cd d.name → mg d.name = some (.ref fa) →
      s₁.heap.get? a = some { cls := .type "list", data := .seq vs.toArray } → IntsAre vs ns → ns.length ≤ n → s₁.gens = #[] →
      codeAny (model l.prog w) callerA (.call (.ref fa) ⟨[.ref a], []⟩) (fun r s' => r = .ok (.ret (.bool true)) ∧ OldK s₁.heap s'.heap ∧ s'.os = s₁.os ∧ AllBare s'.gens) s₁) :
    WalkO q loose XP YP l.row.toRowW d [] (fun f vs => PySem.call f vs) := by
  intro w s₀ s₁ mg mb G Y fa o pm cd doc dV kV ho hd hcd hD hmg hg args vals as hpre hlay hrd hwl hlo
  obtain rfl : dV = .none := Dflts.none hD hdf
  obtain rfl : kV = .none := Dflts.noKw hD
  obtain ⟨a, vs, ns, rfl, rfl, hobj, hints, hlen⟩ := script_of hn hpre hwl
  refine enter_call (codeAny_mono (call w s₀ s₁ mg mb fa o pm cd doc a vs ns G Y ho (fd_plain hd) hcd hmg hobj hints hlen hg) fun r s' hq => ?_)
  obtain ⟨rfl, h2, h3, h4⟩ := hq
  exact ⟨.inl ⟨.bool true, .bool true, [], rfl, fun _ => rfl, .bool true, post_true l _, fun _ => ⟨List.Pairwise.nil, fun _ hm => (nomatch hm)⟩⟩, h2, h3, h4⟩

/-- the same where the top left finished generators (o_head chose holds_openN): nothing may have changed at all and no generator may be left -/
theorem attachN {l : OpenLaw} {n : Nat} {q : Program} {loose : List Str} {XP : (Str → Option Value) → Heap → Prop} {YP : World → Heap → Prop} {d : DefRec} {x : Str}
    (hn : l.most = some n) (hdf : d.params.defaults = [])
    (hbind : ∀ pm cd doc v : Value, bindArgs (docDef d.name d.params d.body d.scope pm cd doc) ⟨[v], []⟩ = pure [(x, v)])
    (hx : d.scope.names.lookup x = some .local ∨ d.scope.names.lookup x = some .cell)
    (hk : d.scope.kind = .function) (hco : d.scope.isCoroutine = false) (hgen : d.scope.isGenerator = false)
    (body : ∀ (w : World) (s₀ s₁ s : Shared) (mg mb : Str → Option Value) (fa : Addr) (o : Obj) (pm cd doc : Value) (a : Addr) (vs : List Value) (ns : List Int),
      Ground q loose [] XP w s₀ mg mb s₁.heap → YP w s₁.heap →
      s₁.heap.get? fa = some o → o.data = .func (docDef d.name d.params d.body d.scope pm cd doc) → s₁.heap.CodeRec cd d.name → mg d.name = some (.ref fa) →
      s₁.heap.get? a = some { cls := .type "list", data := .seq vs.toArray } → IntsAre vs ns → ns.length ≤ n →
      s.gens = #[] → s.os = s₁.os →
      Fr s₁.heap s₁.heap.objs.size s.heap (bindL (envOfC d.name d.scope s₁.heap.objs.size fa cd).kindOf [(x, .ref a)] fun _ => none) →
      Cl s₁.heap.objs.size (cellsFrom (s₁.heap.objs.size + 1) d.scope.names []) s.heap (bindC (envOfC d.name d.scope s₁.heap.objs.size fa cd).kindOf [(x, .ref a)] fun _ => none) →
      wpAny (model l.prog w) (callerA.deeper (envOfC d.name d.scope s₁.heap.objs.size fa cd)) (execs d.body (envOfC d.name d.scope s₁.heap.objs.size fa cd))
        (fun f s' => f = .ret (.bool true) ∧ (∀ b o, s₁.heap.get? b = some o → s'.heap.get? b = some o) ∧ s'.os = s₁.os ∧ s'.gens = #[]) (fun _ _ => False) s) :
    WalkN q loose XP YP l.row.toRowW d [] (fun f vs => PySem.call f vs) := by
  intro w s₀ s₁ mg mb G Y fa o pm cd doc dV kV ho hd hcd hD hmg hg args vals as hpre hlay hrd hwl hlo
  obtain rfl : dV = .none := Dflts.none hD hdf
  obtain rfl : kV = .none := Dflts.noKw hD
  obtain ⟨a, vs, ns, rfl, rfl, hobj, hints, hlen⟩ := script_of hn hpre hwl
  refine enter_callW ?_
  refine call_cells_ret (o := o) (by rw [depth_caller]; decide) ho (fd_plain hd) G.T.nolimit hcd (hbind pm cd doc (.ref a)) (fun y hy => ?_) (fun h₁ tk F X => ?_) hco hgen hk
  · obtain rfl : y = (x, Value.ref a) := List.mem_singleton.mp hy
    rcases hx with e | e
    · exact .inl e
    · exact .inr ⟨e, cellsFrom_some _ _ _ (.inl e)⟩
  · refine wpAny_mono (body w s₀ s₁ { s₁ with heap := h₁, toks := tk } mg mb fa o pm cd doc a vs ns G Y ho (fd_plain hd) hcd hmg hobj hints hlen hg rfl F X) (fun f s' hq => ?_) (fun _ _ hq => hq)
    obtain ⟨rfl, h2, h3, h4⟩ := hq
    exact ⟨.inl ⟨.bool true, .bool true, [], rfl, fun _ => rfl, .bool true, post_true l _, fun _ => ⟨List.Pairwise.nil, fun _ hm => (nomatch hm)⟩⟩, h2, h3, h4⟩

/-! ### rules over ANY heap (no ledger) from facts about the written part K: the library's own take a ledger (News) for what they write -/
section
variable {prog : Program} {w : World} {A : Around} {E : Value → Shared → Prop} {s : Shared} {K : Frag}

/-- a def of the module, or a method (qual 'C.m'), entered: the frame is the next address; cells behind it -/
theorem call_fn {R : Result → Shared → Prop} {name qual : Str} {params : Arguments} {body : List Stmt} {scope : Scope} {dV kV doc pm cdv ct oc : Value} {an od : Option Addr} {osl : Array (Option Value)} {f : Addr} {args : Args} {binds : List (Str × Value)}
    (X : K.In s.heap) (hlim : s.heap.NoLimit) (ho : K.lookup f = some ⟨oc, od, .func (fnOf name qual params body scope dV kV doc pm an cdv ct), osl⟩) (hcd : codeIn K cdv qual = true) (hroom : A.depth < recursionLimit)
    (hbind : BindsTo s (fnOf name qual params body scope dV kV doc pm an cdv ct) args binds)
    (hkind : (binds.all fun y => scope.names.lookup y.1 == some .local || scope.names.lookup y.1 == some .cell) = true)
    (h : ∀ s₁, InCallC s s.heap.objs.size (bindL (envOfC qual scope s.heap.objs.size f cdv).kindOf binds fun _ => none) (cellsFrom (s.heap.objs.size + 1) scope.names [])
        (bindC (envOfC qual scope s.heap.objs.size f cdv).kindOf binds fun _ => none) s₁ →
      wpAny (model prog w) (A.deeper (envOfC qual scope s.heap.objs.size f cdv)) (execs body (envOfC qual scope s.heap.objs.size f cdv))
        (fun fl s' => R (.ok (.ret (match fl with | .ret v => v | _ => .none))) s')
        (fun e s' => wpAny (model prog w) (A.deeper (envOfC qual scope s.heap.objs.size f cdv)) (leaving (envOfC qual scope s.heap.objs.size f cdv) e) (fun _ s'' => R (.error e) s'') (fun e' s'' => R (.error e') s'') s') s₁)
    (hco : scope.isCoroutine = false) (hgen : scope.isGenerator = false) (hk : scope.kind = .function) : codeAny (model prog w) A (.call (.ref f) args) R s := by
  refine codeAny_call_function hroom (X _ _ ho) rfl hco hgen rfl (codeRec_of X hcd) (hbind _ _ _ _ ?_)
  refine wpAny_newFunctionEnv_cells hk (kindsX hkind _) fun env he s₁ x => ?_
  subst he
  exact ⟨hlim.keeps x.toInCall.keep, codeAny_func (h s₁ x)⟩

/-- C(..): dict at size, instance at size + 1, then __init__ -/
theorem make_obj {R : Result → Shared → Prop} {C fI : Addr} {rest : List Value} {kw : List (Str × Value)}
    (X : K.In s.heap) (hm : makesIn K C = true) (hi : findIn K (.ref C) "__init__" = some (some (.ref fI))) (hf : isFn K (.ref fI) = true)
    (h : codeAny (model prog w) (A.under (.builtin "type.__call__" ⟨.ref C :: rest, kw⟩)) (.call (.ref fI) ⟨.ref (s.heap.objs.size + 1) :: rest, kw⟩) (InitBack (s.heap.objs.size + 1) R)
      { s with heap := (s.heap.push emptyDict).push (instObj C s.heap.objs.size) }) : codeAny (model prog w) A (.call (.ref C) ⟨rest, kw⟩) R s := by
  obtain ⟨hh, g, d, t, os⟩ := s
  exact make_core (makes_of X hm) (looks_findIn X hi) (fun self => bind_fn X self (beq_iff_eq.mp hf)) (.inl rfl) h

/-- x.name where the instance's dict holds the name and the class does not -/
theorem get_field {x C : Addr} {ox : Obj} {es : List DictEntry} {n : Nat} {name : Str} {expr : Bool} {v : Value} {Q : Value → Shared → Prop}
    (X : K.In s.heap) (I : PySem.W.InstAt s.heap x ox C (some (dictOf es n))) (hg : plainGet K C name = true) (hh : hasDictIn K C = true) (ha : findIn K (.ref C) name = some none)
    (hl : getL name es = some (some v)) (hv : handedIn v = true) (h : Q v { s with toks := s.toks + 1 }) : wpAny (model prog w) A (getAttr (.ref x) name expr) Q E s :=
  get_value X I (plainGet_of hg).1 (findObj_own hh ha rfl hl) hv h

/-- x.m(..): the method found in the class -/
theorem get_method {x C f : Addr} {ox : Obj} {es : List DictEntry} {n : Nat} {name : Str} {pl : Sem Bool} {Q : Value × List Value → Shared → Prop}
    (X : K.In s.heap) (I : PySem.W.InstAt s.heap x ox C (some (dictOf es n))) (hg : plainGet K C name = true) (hf : findIn K (.ref C) name = some (some (.ref f))) (ht : isFn K (.ref f) = true)
    (hl : getL name es = some none) (h : Q (.ref f, [.ref x]) s) : wpAny (model prog w) A (getMethod (.ref x) name pl) Q E s :=
  method_fn X I (plainGet_of hg).1 (plainGet_of hg).2 hf (beq_iff_eq.mp ht) (by show (lookIn name (dictOf es n)).map _ = _; rw [lookIn_dict, hl]; rfl) h

/-! the whole heap as the ledger: makes every rule that writes through a ledger a rule over any heap -/
def noObjs (h : Heap) : Heap := { h with objs := #[] }
theorem noObjs_get (h : Heap) (b : Addr) : (noObjs h).get? b = none := by
  cases e : (noObjs h).get? b with
  | none => rfl
  | some o => exact absurd (Heap.lt_size e) (Nat.not_lt_zero _)
def ledger (h : Heap) (L d : Addr) : List (Addr × Obj) := (List.range h.objs.size).filterMap fun a => if a = L ∨ a = d then none else (h.get? a).map fun o => (a, o)
theorem mem_ledger {h : Heap} {L d a : Addr} {o : Obj} : (a, o) ∈ ledger h L d ↔ a ≠ L ∧ a ≠ d ∧ h.get? a = some o := by
  unfold ledger
  rw [List.mem_filterMap]
  constructor
  · rintro ⟨b, _, e⟩
    split at e
    · cases e
    · rename_i hb
      obtain ⟨o', ho, e'⟩ := Option.map_eq_some_iff.mp e
      cases e'
      exact ⟨fun q => hb (.inl q), fun q => hb (.inr q), ho⟩
  · rintro ⟨n1, n2, ho⟩
    refine ⟨a, List.mem_range.mpr (Heap.lt_size ho), ?_⟩
    rw [if_neg (show ¬ (a = L ∨ a = d) from fun q => q.elim n1 n2), ho] <;> rfl
theorem news_ledger {h : Heap} {L d : Addr} {od : Obj} (hne : d ≠ L) (ho : h.get? d = some od) : News (noObjs h) L h ([] ++ (d, od) :: ledger h L d) := by
  rintro ⟨a, o⟩ hp
  rcases List.mem_cons.mp hp with e | hp
  · cases e
    exact ⟨ho, hne, noObjs_get _ _⟩
  · obtain ⟨n1, n2, e⟩ := mem_ledger.mp hp
    exact ⟨e, n1, noObjs_get _ _⟩
theorem fr_all {h : Heap} {L : Addr} {m : Str → Option Value} (n : h.Ns L m) : Fr (noObjs h) L h m :=
  ⟨n, fun b o e => (by rw [noObjs_get] at e; cases e), Nat.zero_le _⟩
/-- Upd of the head entry (for append_K, setItem_K ..) -/
theorem upd_ledger {h : Heap} {L d : Addr} {o o' : Obj} : Upd d o o' ((d, o) :: ledger h L d) ((d, o') :: ledger h L d) :=
  .head fun ⟨_, _⟩ hp => (mem_ledger.mp hp).2.1

/-- x.name = v over any heap: L is any namespace of the heap (the frame's, say): its map stays, its object is not told; all else but the dict stays -/
theorem set_field {x C dx L : Addr} {ox : Obj} {m : Str → Option Value} {es es' : List DictEntry} {n n' : Nat} {name : Str} {v : Value} {Q : Unit → Shared → Prop}
    (X : K.In s.heap) (I : PySem.W.InstAt s.heap x ox C (some (dictOf es n))) (hd : ox.dict = some dx) (hL : s.heap.Ns L m) (hne : dx ≠ L)
    (hs : findIn K (.ref C) "__setattr__" = some (some (.builtin "object.__setattr__"))) (hp : plainOver K C = true) (ht : takerIn K C name = some none) (hh : hasDictIn K C = true) (hl : (getL name es).isSome = true)
    (e : (putL name (PyData.keyHash w.params name) (.str name (s.toks + 1)) v es, putN name es n) = (es', n')) (hz : es'.length ≤ 1000)
    (h : ∀ h' : Heap, h'.Ns L m → h'.get? dx = some (dictOf es' n') → (∀ b o, b ≠ dx → b ≠ L → s.heap.get? b = some o → h'.get? b = some o) → Q () { s with heap := h', toks := s.toks + 2 }) :
    wpAny (model prog w) A (setAttr (.ref x) name v) Q E s := by
  obtain ⟨e1, e2⟩ := Prod.mk.inj e
  have hdx : s.heap.get? dx = some (dictOf es n) := by
    have := I.dict
    rw [hd] at this
    exact this
  refine set_plain X I hs (osa_dict (s := { s with toks := s.toks + 1 }) (h₀ := noObjs s.heap) (L := L) (m := m) (od := dictOf es n) (od' := dictOf es' n') (es := es') (n := n') (pre := []) (post := ledger s.heap L dx)
    (fr_all hL) (news_ledger hne hdx) X I hd hp ht hh hl (fun _ q => nomatch q) (fun ⟨_, _⟩ q => (mem_ledger.mp q).2.1) (by rw [putName_dict, e1, e2]) rfl hz fun h' F' N' => ?_)
  exact h h' F'.ns (N'.get (List.Mem.head _)) fun b o n1 n2 ho => N'.get (List.Mem.tail _ (mem_ledger.mpr ⟨n2, n1, ho⟩))
end
end Att

namespace L2
open PySem PySem.Spec PyProof.Rows

theorem vals_ints : ∀ {vs : List Value} {ns : List Int}, IntsAre vs ns → Vals (ns.map V.int) vs
  | _, _, .nil => .nil
  | _, _, .cons n t h => .cons ⟨t, rfl⟩ (vals_ints h)

/-- nothing is tracked but the script, known to the object (or it is an object of the module) -/
def Only (H : Hp) : Prop := ∀ b, H b = none ∨ ∃ o xs, H b = some (.frz o (.lst xs))

/-- THE HEAD: the law's promise, at the heap behind the top. F, the promise of the law's def, may use that base is part of the heap (so K.In base, base.Ns mainGlobals mg stand in Mod) -/
theorem law_call {P : Program} {w : World} {K : PySem.W.Frag} {mg mb : Str → Option Value} {CX : CXT} {k : Nat} {fa a : Addr} {fd : FuncData} {x : Str} {sp : Sp} {s₁ : Shared} {vs : List Value} {ns : List Int}
    (KX : K.In s₁.heap) (hns : s₁.heap.Ns mainGlobals mg) (hb : s₁.heap.Ns builtinsNs mb) (hbb : ∀ x : Str, x ≠ "__name__" → mb x = bootBuiltins x) (hlim : s₁.heap.NoLimit) (hg : s₁.gens = #[])
    (ha : s₁.heap.get? a = some { cls := .type "list", data := .seq vs.toArray }) (hi : IntsAre vs ns) (hl : ns.length ≤ sizeLine) (hr : Room k callerA)
    (F : ∀ base : Heap, K.In base → base.Ns mainGlobals mg → FnOk P w K mg base CX k fa fd [x] sp) (hbind : ∀ (s : Shared) (u : Value), BindsTo s fd ⟨[u], []⟩ [(x, u)])
    (hsp : ∀ H : Hp, Only H → SqL K H a (ns.map V.int) → sp [.ref a] H (fun v _ => v = .bl true) fun _ _ _ => False)
    (hCX : ∀ H e s', CX [] H s₁ (fun _ _ _ => False) e s' → False) :
    codeAny (model P w) callerA (.call (.ref fa) ⟨[.ref a], []⟩) (fun r s' => r = .ok (.ret (.bool true)) ∧ OldK s₁.heap s'.heap ∧ s'.os = s₁.os ∧ AllBare s'.gens) s₁ := by
  have rv := vals_ints hi
  have lenV := hi.length
  -- from an abstract heap in which nothing but the script may be tracked
  have core : ∀ H : Hp, Only H → SqL K H a (ns.map V.int) → HOk P w H s₁.heap → (∀ b, H b ≠ none → b = a) → (H a ≠ none → K.lookup a = none) →
      codeAny (model P w) callerA (.call (.ref fa) ⟨[.ref a], []⟩) (fun r s' => r = .ok (.ret (.bool true)) ∧ OldK s₁.heap s'.heap ∧ s'.os = s₁.os ∧ AllBare s'.gens) s₁ := by
    intro H hO hS hok hA hK
    have base_of : ∀ {b : Addr} {o : Obj}, s₁.heap.get? b = some o → H b = none → (hidT s₁.heap H).get? b = some o := fun e n => hidT_get e n
    have noA : ∀ {b : Addr} {o : Obj} {es : Array DictEntry} {ep : Nat}, s₁.heap.get? b = some o → o.data = .dict es ep → H b = none := fun {b o es ep} e d => by
      cases q : H b with
      | none => rfl
      | some u =>
        have e' : b = a := hA b (by rw [q]; simp)
        subst e'
        rw [ha] at e; cases e
        have d' : Data.seq vs.toArray _ = Data.dict es ep := d
        cases d'
    have nsK : ∀ {b : Addr} {m : Str → Option Value}, s₁.heap.Ns b m → (hidT s₁.heap H).Ns b m := fun {b m} ⟨o, es, ep, e, d, r⟩ => ⟨o, es, ep, base_of e (noA e d), d, r⟩
    have hKb : K.In (hidT s₁.heap H) := fun b o e => base_of (KX b o e) (by
      cases q : H b with
      | none => rfl
      | some u =>
        have e' : b = a := hA b (by rw [q]; simp)
        subst e'
        rw [hK (by rw [q]; simp)] at e; cases e)
    have hM : Mod K mg (hidT s₁.heap H) := ⟨hKb, nsK hns, ⟨mb, nsK hb, hbb⟩, let ⟨mc, h1, h2⟩ := hlim; ⟨mc, nsK h1, h2⟩⟩
    have e0 : Env0 P w K mg (hidT s₁.heap H) callerA [] s₁ H := ⟨rfl, hM, fun b o e => of_hidT e, Nat.le_of_eq (hidT_size _ _), trivial, fun b hb => absurd (show b ∈ ([] : List Addr) from hb) (by simp), hok, .of_eq hg⟩
    refine codeAny_mono ((F _ hKb (nsK hns)).run callerA [] s₁ H ⟨[.ref a], []⟩ [.ref a] [.ref a] _ _ hr e0 (hbind s₁ (.ref a)) (.cons rfl .nil) (hsp H hO hS)) fun r s' h => ?_
    cases r with
    | error e => exact (hCX H e s' h).elim
    | ok fl =>
      cases fl with
      | next => exact False.elim h
      | brk => exact False.elim h
      | cont => exact False.elim h
      | ret u =>
        obtain ⟨v, H', os, bare, un, hok', r', q⟩ := h
        have q' : v = .bl true := q
        subst q'
        obtain rfl : u = Value.bool true := r'
        refine ⟨rfl, OldK.of_keep fun b o e => ?_, os, bare⟩
        cases q : H b with
        | none => exact un.keep b o e q (by intro z; exact absurd (show b ∈ ([] : List Addr) from z) (by simp)) (by simp)
        | some u =>
          rcases hO b with z | ⟨ob, xs, z⟩
          · rw [q] at z; cases z
          · have z2 := un.frzs b ob _ z
            obtain ⟨e1, _⟩ := hok b _ z
            obtain ⟨e2, _⟩ := hok' b _ z2
            rw [e] at e1; cases e1
            exact e2
  cases hk : K.lookup a with
  | some o =>
    -- the script is one of the module's own objects
    have e := KX a o hk
    rw [ha] at e
    cases e
    refine core (fun _ => none) (fun _ => .inl rfl) (.inr ⟨_, vs.toArray, _, hk, rfl, rfl, rfl, by rw [List.size_toArray, lenV]; exact hl, by simpa using rv⟩) (fun b u z => by have z' : (none : Option HO) = some u := z; cases z') (fun b z => absurd rfl z) fun z => absurd rfl z
  | none =>
    refine core (fun b => if b = a then some (.frz { cls := .type "list", data := .seq vs.toArray } (.lst (ns.map V.int))) else none) (fun b => ?_) (.inl (.inr ⟨{ cls := .type "list", data := .seq vs.toArray }, if_pos rfl⟩)) (fun b u z => ?_) (fun b z => ?_) fun _ => hk
    · by_cases hb : b = a
      · exact .inr ⟨_, _, if_pos hb⟩
      · exact .inl (if_neg hb)
    · by_cases hb : b = a
      · have z' := (if_pos hb).symm.trans z
        cases z'
        subst hb
        exact ⟨ha, by rw [List.length_map]; exact hl, vs, _, rv, ha⟩
      · have z' := (if_neg hb).symm.trans z
        cases z'
    · by_cases hb : b = a
      · exact hb
      · exact absurd (if_neg hb) z
end L2

namespace L2
open PySem PySem.Spec PyProof.Rows

abbrev KOf {K : PySem.W.Frag} {h : Heap} (_ : K.In h) : PySem.W.Frag := K

/-- the goal that k_head leaves (case hc), from the law's promise. F gives the function object fd (K's own) once, then the promise over every base -/
theorem walk_of {l : PySem.W.OpenLaw} {n k : Nat} {q : Program} {loose : List Str} {XP : (Str → Option Value) → Heap → Prop} {YP : World → Heap → Prop} {d : DefRec} {K : Params → PySem.W.Frag} {CX : World → CXT} {sp : World → Sp} {x : Str}
    (hn : l.most = some n) (hn2 : n ≤ sizeLine) (hdf : d.params.defaults = []) (hr : Room k callerA)
    (hY : ∀ (w : World) (h : Heap), YP w h → (K w.params).In h)
    (F : ∀ (w : World) (mg : Str → Option Value) (fa : Addr) (h : Heap), (K w.params).In h → h.Ns mainGlobals mg → mg d.name = some (.ref fa) →
      ∃ fd : FuncData, (∀ (s : Shared) (u : Value), BindsTo s fd ⟨[u], []⟩ [(x, u)]) ∧
        ∀ base : Heap, (K w.params).In base → base.Ns mainGlobals mg → FnOk l.prog w (K w.params) mg base (CX w) k fa fd [x] (sp w))
    (hsp : ∀ (w : World) (H : Hp) (a : Addr) (ns : List Int), ns.length ≤ n → Only H → SqL (K w.params) H a (ns.map V.int) → sp w [.ref a] H (fun v _ => v = .bl true) fun _ _ _ => False)
    (hCX : ∀ (w : World) (H : Hp) (s : Shared) (e : Value) (s' : Shared), CX w [] H s (fun _ _ _ => False) e s' → False) :
    PySem.W.WalkO q loose XP YP l.row.toRowW d [] (fun f vs => PySem.call f vs) := by
  refine Att.attach_call hn hdf fun w s₀ s₁ mg mb fa o pm cd doc a vs ns G Y ho hd hcd hmg hobj hints hlen hg => ?_
  have KX := hY w _ Y
  obtain ⟨fd, hb, hF⟩ := F w mg fa _ KX G.T.g hmg
  exact law_call KX G.T.g G.T.b G.T.builtins G.T.nolimit hg hobj hints (Nat.le_trans hlen hn2) hr hF hb (fun H hO hS => hsp w H a ns hlen hO hS) fun H e s' => hCX w H s₁ e s'
/-- the same where the promise hangs on the written part alone: (sp := My.sp_law), no hole under a binder -/
theorem walk_ofK {l : PySem.W.OpenLaw} {n k : Nat} {q : Program} {loose : List Str} {XP : (Str → Option Value) → Heap → Prop} {YP : World → Heap → Prop} {d : DefRec} {K : Params → PySem.W.Frag} {CX : CXT} {sp : PySem.W.Frag → Sp} {x : Str}
    (hn : l.most = some n) (hn2 : n ≤ sizeLine) (hdf : d.params.defaults = []) (hr : Room k callerA)
    (hY : ∀ (w : World) (h : Heap), YP w h → (K w.params).In h)
    (F : ∀ (w : World) (mg : Str → Option Value) (fa : Addr) (h : Heap), (K w.params).In h → h.Ns mainGlobals mg → mg d.name = some (.ref fa) →
      ∃ fd : FuncData, (∀ (s : Shared) (u : Value), BindsTo s fd ⟨[u], []⟩ [(x, u)]) ∧
        ∀ base : Heap, (K w.params).In base → base.Ns mainGlobals mg → FnOk l.prog w (K w.params) mg base CX k fa fd [x] (sp (K w.params)))
    (hsp : ∀ (K : PySem.W.Frag) (H : Hp) (a : Addr) (ns : List Int), ns.length ≤ n → Only H → SqL K H a (ns.map V.int) → sp K [.ref a] H (fun v _ => v = .bl true) fun _ _ _ => False)
    (hCX : ∀ (H : Hp) (s : Shared) (e : Value) (s' : Shared), CX [] H s (fun _ _ _ => False) e s' → False) :
    PySem.W.WalkO q loose XP YP l.row.toRowW d [] (fun f vs => PySem.call f vs) :=
  walk_of (K := K) (CX := fun _ => CX) (sp := fun w => sp (K w.params)) hn hn2 hdf hr hY F (fun w H a ns h1 h2 h3 => hsp (K w.params) H a ns h1 h2 h3) fun _ H s e s' => hCX H s e s'
end L2

/- THE LAST THEOREM (shape; LID, My.* are yours):
   My.Adr: a structure of the addresses that your layer names (classes, functions); My.Txt K t: a structure (Prop) of the equations over K;
   My.txt_mk : {K} {implicit addresses ..} (e1 : nsIn K mainGlobals "law" = some (some (.ref f))) (e2 : K.lookup f = some ⟨oc, od, .func (fnOf "law" "law" params body scope dV kV doc pm an cdv ct), sl⟩) (e3 : codeIn K cdv "law" = true) .. : ∃ t, My.Txt K t

set_option maxRecDepth 100000 in
set_option maxHeartbeats 0 in
theorem PySem.Challenge.cw_LID_holds : PySem.Challenge.rw_LID.Holds := by
  w_on; o_law; k_head; (case hw => w_witness2)
  k_fill
  refine L2.walk_of (l := PySem.Challenge.rw_LID) (n := 63) (k := 40) (x := "script") (CX := fun w => ..) (sp := fun _ => My.sp_law) rfl (by decide) rfl ⟨rfl, by decide, by decide⟩ (fun w h Y => PySem.W.kIn_of Y) ?F ?S ?C
  case F =>
    intro w mg fa h KX G hmg
    have T : ∃ t, My.Txt (L2.KOf KX) t := by
      dsimp only [L2.KOf]                          -- K must stand as «<heap const> w.params» for k_is
      refine' My.txt_mk ?e1 ?e2 ?e3 ..
      (case e1 => PySem.W.k_is)                    -- in the order: a name -> its address -> its object -> its parts
      (case e2 => PySem.W.k_is)
      ..
    obtain ⟨t, T⟩ := T
    have e0 := hmg.symm.trans (PySem.W.mg_of KX G T.law)
    cases e0                                       -- fa is the law's own address
    exact ⟨_, fun s u => .of_eq rfl, fun base kb nb => My.law_fn T kb nb⟩     -- if «.of_eq rfl» comes too early: refine' ⟨_, ?b, fun base kb nb => My.law_fn T kb nb⟩; exact fun s u => .of_eq rfl
  case S => exact fun w H a ns hl hO hS => ..
  case C => exact ..
(the tactic k_is has no namespace: write k_is) -/

/-! SHORT WORDS over the layer: a def of the text, its body, what a loop and a test want. -/
namespace L2
open PySem PySem.Spec PyProof.Rows

/-! ### the text by places -/
/-- the j-th statement of a class's body -/
def inClass (s : Stmt) (j : Nat) : Stmt := match s with
  | .ClassDef _ _ _ body _ _ _ _ _ _ _ => body.getD j (.Pass ⟨0, 0, 0, 0⟩)
  | _ => .Pass ⟨0, 0, 0, 0⟩
def defArgs (s : Stmt) : Arguments := match s with
  | .FunctionDef _ a _ _ _ _ _ _ _ _ => a
  | _ => { posonlyargs := [], args := [], vararg := none, kwonlyargs := [], kw_defaults := [], kwarg := none, defaults := [] }
def defBody (s : Stmt) : List Stmt := match s with
  | .FunctionDef _ _ b _ _ _ _ _ _ _ => b
  | _ => []
def defScope (s : Stmt) : Scope := match s with
  | .FunctionDef _ _ _ _ _ _ sc _ _ _ => sc
  | _ => { kind := .function, names := [], isGenerator := false, isCoroutine := false }

/-! ### no exception leaves a def -/
abbrev CX0 : CXT := fun _ _ _ _ _ _ => False
abbrev E0 : XK := fun _ _ _ => False
theorem pass0 {X : Cx} : Passes CX0 X E0 := fun _ _ _ _ _ _ _ h => h.elim

/-! ### a def (or method) of the text as it stands behind the top -/
structure Fun (K : PySem.W.Frag) (x qual : Str) (st : Stmt) (f : Addr) (fd : FuncData) : Prop where
  ex : ∃ (oc : Value) (od : Option Addr) (kV doc pm : Value) (an : Option Addr) (cdv ct : Value) (osl : Array (Option Value)),
    fd = PySem.W.fnOf x qual (defArgs st) (defBody st) (defScope st) .none kV doc pm an cdv ct ∧ K.lookup f = some ⟨oc, od, .func fd, osl⟩ ∧ PySem.W.codeIn K cdv qual = true
  kp : PySem.W.keepIn K (.ref f) = true
section
variable {P : Program} {w : World} {K : PySem.W.Frag} {mg : Str → Option Value} {base : Heap}
/-- THE RULE for a def: its body as a term of rules, and the reading of that term -/
theorem Fun.ok {x qual : Str} {st : Stmt} {f : Addr} {fd : FuncData} {N ps : List Str} {k : Nat} {sp : Sp} (F : Fun K x qual st f fd) (S : FnScope N ps (defScope st)) (len : ∀ vs H Q E, sp vs H Q E → vs.length = ps.length)
    (hbody : ∀ (cdv : Value) (A : Around) (outer : List Env) (s : Shared) (H : Hp) (vs : List V) (Q : VK) (E : XK), Room k (A.deeper (envOfC qual (defScope st) s.heap.objs.size f cdv)) → sp vs H Q E →
      ∃ t, PSs (cxOf CX0 P w K mg base N qual (defScope st) f cdv A outer s H E).nox (defBody st) t ∧ t { nx := fun _ H' => Q .non H', rt := Q } (start N vs) H) : FnOk P w K mg base CX0 (k + 1) f fd ps sp := by
  obtain ⟨oc, od, kV, doc, pm, an, cdv, ct, osl, rfl, lk, hcd⟩ := F.ex
  refine fn_of lk hcd S len fun A outer s H vs Q E hr hsp => ?_
  obtain ⟨t, h, q⟩ := hbody cdv A outer s H vs Q E hr hsp
  exact ⟨t, h.nox, q⟩
/-- how its arguments bind (no defaults): h is «fun _ _ _ _ _ _ us hl => match us, hl with | [_, _], _ => rfl», one _ a parameter -/
theorem Fun.binds {x qual : Str} {st : Stmt} {f : Addr} {fd : FuncData} {ps : List Str} (F : Fun K x qual st f fd)
    (h : ∀ (kV doc pm : Value) (an : Option Addr) (cdv ct : Value) (us : List Value), us.length = ps.length → bindArgs (PySem.W.fnOf x qual (defArgs st) (defBody st) (defScope st) .none kV doc pm an cdv ct) ⟨us, []⟩ = pure (ps.zip us)) : Binds K fd ps [] := by
  obtain ⟨oc, od, kV, doc, pm, an, cdv, ct, osl, rfl, lk, hcd⟩ := F.ex
  exact .all (h kV doc pm an cdv ct)
theorem fun_mk {x qual : Str} {st : Stmt} {f : Addr} {oc : Value} {od an : Option Addr} {osl : Array (Option Value)} {kV doc pm cdv ct : Value} (l : K.lookup f = some ⟨oc, od, .func (PySem.W.fnOf x qual (defArgs st) (defBody st) (defScope st) .none kV doc pm an cdv ct), osl⟩)
    (c : PySem.W.codeIn K cdv qual = true) (k : PySem.W.keepIn K (.ref f) = true) : Fun K x qual st f (PySem.W.fnOf x qual (defArgs st) (defBody st) (defScope st) .none kV doc pm an cdv ct) := ⟨⟨oc, od, kV, doc, pm, an, cdv, ct, osl, rfl, l, c⟩, k⟩
end
theorem hu_of {A : Around} {k : Nat} (hr : Room k A) : A.units + 1 < cLine := Nat.lt_of_le_of_lt (Nat.add_le_add_left (by decide : 1 ≤ 64) _) hr.units
theorem small1000 {n : Nat} (h : n ≤ 1000) : n < sizeLine := Nat.lt_of_le_of_lt h (by decide)

/-! ### expressions in short: the name that stands in the i-th slot -/
section
variable {X : Cx}
theorem pv (i : Nat) {x : Str} {pos : Pos} (hN : X.N[i]? = some x := by rfl) (hv : Vis X.env.scope x := by first | exact Or.inl rfl | exact Or.inr (Or.inl rfl) | exact Or.inr (Or.inr rfl)) (hd : (x == ("__debug__" : Str)) = false := by decide)
    (hcd : (x == ("__classdict__" : Str)) = false := by decide) : PE X (.Name x pos) (tVar i) := pe_var hN hv hd hcd
end

/-! ### tests -/
theorem iteF {A B : Prop} (h : B) : if false = true then A else B := by
  rw [if_neg Bool.false_ne_true]
  exact h
theorem iteT {A B : Prop} (h : A) : if true = true then A else B := by
  rw [if_pos rfl]
  exact h
theorem ite2 {c A B : Prop} [Decidable c] (h1 : c → A) (h2 : ¬ c → B) : if c then A else B := by
  by_cases h : c
  · rw [if_pos h]
    exact h1 h
  · rw [if_neg h]
    exact h2 h
theorem iteNS {c A B : Prop} [Decidable c] (hc : c) (h : B) : if (!decide c) = true then A else B := by
  rw [decide_eq_true hc]
  exact iteF h

/-! ### heaps -/
/-- all that was tracked is as it was -/
def Same (H H' : Hp) : Prop := ∀ b o, H b = some o → H' b = some o
theorem Same.refl (H : Hp) : Same H H := fun _ _ h => h
theorem Same.trans {H H1 H2 : Hp} (a : Same H H1) (b : Same H1 H2) : Same H H2 := fun c o h => b c o (a c o h)
theorem Same.free {H H' : Hp} (e : Same H H') {l : Addr} (h : H' l = Option.none) : H l = Option.none := by
  cases q : H l with
  | none => rfl
  | some o =>
    rw [e l o q] at h
    cases h
theorem Same.seq {K : PySem.W.Frag} {H H' : Hp} {a : Addr} {xs : List V} (e : Same H H') (h : SqL K H a xs) : SqL K H' a xs := by
  rcases h with (h | ⟨o, h⟩) | h
  · exact .inl (.inl (e _ _ h))
  · exact .inl (.inr ⟨o, e _ _ h⟩)
  · exact .inr h

end L2

set_option maxHeartbeats 4000000
/-! ## The layer's own growth: list comprehensions -/
namespace L2
open PySem PySem.Spec PyProof.Rows

section
variable {P : Program} {w : World} {H : Hp} {h : Heap} {a : Addr} {o : HO}
/-- an object that stands in the heap, not tracked so far, is tracked from here on -/
theorem HOk.track (ok : HOk P w H h) (hn : H a = none) (new : ObjOk P w (upd H a o) h a o) : HOk P w (upd H a o) h := fun b u e => by
  by_cases hb : b = a
  · subst hb
    rw [upd_same] at e
    cases e
    exact new
  · rw [upd_ne hb] at e
    refine (ok b u e).stay (fun _ _ _ q => q) (fun c q => ?_) fun c xs q => ?_
    · rw [upd_ne (ne_of_none q hn)]; exact q
    · rw [upd_ne (ne_of_none q hn)]; exact q
end

theorem Inv.track {X : Cx} {pins : List (Addr × Obj)} {σ : St} {H : Hp} {s : Shared} {a : Addr} {o : HO} (I : Inv X pins σ H s) (hn : H a = none) (h1 : a ∈ X.ex ∨ X.s₀.heap.objs.size ≤ a)
    (hL : a ≠ X.env.locals) (h2 : ∀ x c, X.env.cells.lookup x = some c → c ≠ a) (h3 : ∀ p ∈ X.pn ++ pins, p.1 ≠ a) (new : ObjOk X.prog X.w (upd H a o) s.heap a o) : Inv X pins σ (upd H a o) s := by
  have J := I.step (h' := s.heap) (H' := upd H a o) (g' := s.gens) (t' := s.toks) (d' := s.drawn) (ch := [a])
    (fun b hb => by
      have e : b = a := by simpa using hb
      subst e
      exact ⟨h1, hL, h2, h3⟩)
    (fun _ _ _ _ _ e _ => e) (fun _ u _ _ _ e _ => ⟨u.slots, e⟩)
    (fun b u hb _ n => by rw [upd_ne (by simpa using hb)]; exact n)
    (fun _ u _ e => ⟨u, e⟩)
    (fun b xs q => by rw [upd_ne (ne_of_none q hn)]; exact q)
    (fun b u v q => by rw [upd_ne (ne_of_none q hn)]; exact q)
    (fun b ps q => ⟨#[], by rw [upd_ne (ne_of_none q hn), q]; simp⟩)
    (fun _ q => q) (I.hok.track hn new) I.bare
  exact J

/-! ### the cells that a block sees -/
def clOf (env : Env) : List (Str × NameKind) → List (Str × Addr) → List (Str × Addr)
  | [], acc => acc
  | (n, k) :: r, acc => if k == NameKind.free then (match env.cells.lookup n with
    | some c => clOf env r ((n, c) :: acc)
    | none => clOf env r acc) else clOf env r acc
theorem closureFor_of {scope : Scope} {env : Env} (h : ∀ y ∈ scope.names, y.2 = .free → ∃ c, env.cells.lookup y.1 = some c) : closureFor scope env = pure (clOf env scope.names []) := by
  have all : ∀ (l : List (Str × NameKind)) (acc : List (Str × Addr)), (∀ y ∈ l, y.2 = .free → ∃ c, env.cells.lookup y.1 = some c) →
      (forIn l acc fun (x : Str × NameKind) (cs : List (Str × Addr)) => (if (x.2 == NameKind.free) = true then (do
        let a ← cellOf env x.1
        pure (ForInStep.yield ((x.1, a) :: cs))) else pure (ForInStep.yield cs) : Sem _)) = pure (clOf env l acc) := by
    intro l
    induction l with
    | nil => intro acc _; rfl
    | cons y r ih =>
      intro acc hl
      obtain ⟨n, k⟩ := y
      rw [List.forIn_cons]
      by_cases hk : (k == NameKind.free) = true
      · obtain ⟨c, hc⟩ := hl (n, k) List.mem_cons_self (by simpa using hk)
        have hc' : env.cells.lookup n = some c := hc
        have e : cellOf env n = pure c := by unfold cellOf; rw [hc']
        simp only [hk, if_true, e, pure_bind]
        rw [ih _ fun y hy => hl y (List.mem_cons_of_mem _ hy)]
        show pure (clOf env r ((n, c) :: acc)) = pure (if (k == NameKind.free) = true then (match env.cells.lookup n with
          | some c => clOf env r ((n, c) :: acc)
          | none => clOf env r acc) else clOf env r acc)
        rw [if_pos hk, hc']
      · have hk' : (k == NameKind.free) = false := by simpa using hk
        simp only [hk', Bool.false_eq_true, if_false, pure_bind]
        rw [ih _ fun y hy => hl y (List.mem_cons_of_mem _ hy)]
        show pure (clOf env r acc) = pure (if (k == NameKind.free) = true then (match env.cells.lookup n with
          | some c => clOf env r ((n, c) :: acc)
          | none => clOf env r acc) else clOf env r acc)
        rw [if_neg hk]
  have := all scope.names [] h
  unfold closureFor
  simp only [pure_bind, bind_pure] at this ⊢
  exact this
theorem clOf_sound {env : Env} {x : Str} {c : Addr} : ∀ {l : List (Str × NameKind)} {acc : List (Str × Addr)}, (∀ y d, acc.lookup y = some d → env.cells.lookup y = some d) → (clOf env l acc).lookup x = some c → env.cells.lookup x = some c
  | [], acc, ha, h => ha x c h
  | (n, k) :: r, acc, ha, h => by
    unfold clOf at h
    by_cases hk : (k == NameKind.free) = true
    · rw [if_pos hk] at h
      cases e : env.cells.lookup n with
      | none => rw [e] at h; exact clOf_sound ha h
      | some d =>
        rw [e] at h
        refine clOf_sound (fun y d' hy => ?_) h
        rw [List.lookup_cons] at hy
        cases q : y == n with
        | true => rw [q] at hy; cases hy; rw [beq_iff_eq.mp q]; exact e
        | false => rw [q] at hy; exact ha y d' hy
    · rw [if_neg hk] at h
      exact clOf_sound ha h
theorem clOf_grow {env : Env} {x : Str} : ∀ {l : List (Str × NameKind)} {acc : List (Str × Addr)}, (∃ c, acc.lookup x = some c) → ∃ c, (clOf env l acc).lookup x = some c
  | [], _, h => h
  | (n, k) :: r, acc, h => by
    unfold clOf
    by_cases hk : (k == NameKind.free) = true
    · rw [if_pos hk]
      cases e : env.cells.lookup n with
      | none => exact clOf_grow h
      | some d =>
        refine clOf_grow ?_
        rw [List.lookup_cons]
        cases q : x == n with
        | true => exact ⟨d, rfl⟩
        | false => exact h
    · rw [if_neg hk]
      exact clOf_grow h
theorem clOf_has {env : Env} {x : Str} : ∀ {l : List (Str × NameKind)} {acc : List (Str × Addr)}, (x, NameKind.free) ∈ l → (∃ c, env.cells.lookup x = some c) → ∃ c, (clOf env l acc).lookup x = some c
  | (n, k) :: r, acc, hm, hc => by
    rcases List.mem_cons.mp hm with e | hm
    · cases e
      obtain ⟨c, hc⟩ := hc
      unfold clOf
      rw [if_pos (by rfl), hc]
      refine clOf_grow ⟨c, ?_⟩
      rw [List.lookup_cons, beq_self_eq_true]
    · unfold clOf
      by_cases hk : (k == NameKind.free) = true
      · rw [if_pos hk]
        cases env.cells.lookup n with
        | none => exact clOf_has hm hc
        | some d => exact clOf_has hm hc
      · rw [if_neg hk]
        exact clOf_has hm hc
theorem relabel_kind {scope : Scope} {env : Env} {x : Str} (hcell : ∀ y ∈ scope.names, y.2 ≠ .cell) (h : (relabel scope env).names.lookup x = some .cell ∨ (relabel scope env).names.lookup x = some .free) : (x, NameKind.free) ∈ scope.names := by
  have all : ∀ (l : List (Str × NameKind)), (∀ y ∈ l, y.2 ≠ .cell) → ∀ k, (k = NameKind.cell ∨ k = NameKind.free) →
      (l.map fun (n, k) => if (k == NameKind.free && env.scope.kind == .function && env.kindOf n == some .cell) then (n, NameKind.cell) else (n, k)).lookup x = some k → (x, NameKind.free) ∈ l := by
    intro l
    induction l with
    | nil => intro _ k _ h; simp at h
    | cons y r ih =>
      intro hl k hk h
      obtain ⟨n, k0⟩ := y
      rw [List.map_cons] at h
      have hl' : ∀ y ∈ r, y.2 ≠ .cell := fun y hy => hl y (List.mem_cons_of_mem _ hy)
      by_cases hc : (k0 == NameKind.free && env.scope.kind == .function && env.kindOf n == some .cell) = true
      · have hf : k0 = .free := by
          simp only [Bool.and_eq_true, beq_iff_eq] at hc
          exact hc.1.1
        simp only [hc, if_true] at h
        rw [List.lookup_cons] at h
        cases q : x == n with
        | true => rw [hf, beq_iff_eq.mp q]; exact List.mem_cons_self
        | false => rw [q] at h; exact List.mem_cons_of_mem _ (ih hl' k hk h)
      · simp only [hc, Bool.false_eq_true, if_false] at h
        rw [List.lookup_cons] at h
        cases q : x == n with
        | true =>
          rw [q] at h
          have e : k0 = k := by simpa using h
          rcases hk with rfl | rfl
          · exact absurd e (hl (n, k0) List.mem_cons_self)
          · rw [e, beq_iff_eq.mp q]; exact List.mem_cons_self
        | false => rw [q] at h; exact List.mem_cons_of_mem _ (ih hl' k hk h)
  rcases h with h | h
  · exact all scope.names hcell _ (.inl rfl) h
  · exact all scope.names hcell _ (.inr rfl) h

theorem relabel_free {scope : Scope} {env : Env} {x : Str} (h : scope.names.lookup x = some .free) : (relabel scope env).names.lookup x = some .cell ∨ (relabel scope env).names.lookup x = some .free := by
  have all : ∀ (l : List (Str × NameKind)), l.lookup x = some .free →
      (l.map fun (n, k) => if (k == NameKind.free && env.scope.kind == .function && env.kindOf n == some .cell) then (n, NameKind.cell) else (n, k)).lookup x = some .cell ∨
      (l.map fun (n, k) => if (k == NameKind.free && env.scope.kind == .function && env.kindOf n == some .cell) then (n, NameKind.cell) else (n, k)).lookup x = some .free := by
    intro l
    induction l with
    | nil => intro h; simp at h
    | cons y r ih =>
      intro h
      obtain ⟨n, k⟩ := y
      rw [List.map_cons]
      rw [List.lookup_cons] at h
      cases q : x == n with
      | true =>
        rw [q] at h
        have hk : k = .free := by simpa using h
        by_cases hc : (k == NameKind.free && env.scope.kind == .function && env.kindOf n == some .cell) = true
        · refine .inl ?_
          simp only [hc, if_true]
          rw [List.lookup_cons, q]
        · refine .inr ?_
          simp only [hc, Bool.false_eq_true, if_false]
          rw [List.lookup_cons, q, hk]
      | false =>
        rw [q] at h
        by_cases hc : (k == NameKind.free && env.scope.kind == .function && env.kindOf n == some .cell) = true
        · simp only [hc, if_true]
          rw [List.lookup_cons, q]
          exact ih h
        · simp only [hc, Bool.false_eq_true, if_false]
          rw [List.lookup_cons, q]
          exact ih h
  exact all scope.names h

/-! ### the block's context -/
/-- the tests of a comprehension -/
def PIfs (X : Cx) (ifs : List Expr) (t : TT) : Prop :=
  ∀ (pins : List (Addr × Obj)) (s : Shared) (σ : St) (H : Hp) (Q : Bool → Hp → Prop), Inv X pins σ H s → t σ H Q →
    wpAny (model X.prog X.w) X.A (forIn ifs true fun c r => if r = true then do let ok ← isTrue c X.env (eval c X.env); pure (ForInStep.yield ok) else pure (ForInStep.yield r)) (TP X pins σ Q) X.xe s
def tYes : TT := fun _ H Q => Q true H
theorem pif_nil {X : Cx} : PIfs X [] tYes := fun _ _ _ H _ I h => wpAny_tests_nil ⟨H, I, h⟩
theorem pif_one {X : Cx} {c : Expr} {t : TT} (hc : PT X c t) : PIfs X [c] t := fun pins s σ H Q I h => wpAny_tests_one (hc pins s σ H Q I h)

/-- the block of a comprehension that X's code walks; no exception leaves it -/
def cxLC (X : Cx) (N : List Str) (scope : Scope) (C : Addr) (s₃ : Shared) (H : Hp) (ex : List Addr) (pn : List (Addr × Obj)) : Cx :=
  { X with N := N, s₀ := s₃, H₀ := H, env := compEnvC scope (clOf X.env scope.names []) C X.env, outer := X.stack, ex := ex, fn := fun _ => false, pn := pn, xe := fun _ _ => False }
/-- the block's names by the outer ones: none for its own -/
def pull (ix : List (Option Nat)) (σ : St) : St := ix.map fun
  | none => none
  | some j => (σ[j]?).getD none

/-- what a comprehension wants: W the invariant by the turn, a measure, the items so far, the heap -/
def LCW (J : It) (ix : List (Option Nat)) (g : TG) (tt : TT) (te : TE) (σ : St) (H1 : Hp) (Q : VK) : Prop := ∃ W : Nat → Nat → List V → Hp → Prop, (∃ m, W 0 m [] H1) ∧ ∀ i m ys H, W i m ys H →
  (J.stop i H ∧ ∀ D, H D = none → Q (.ref D) (upd H D (.lst ys))) ∨
  (J.go i H ∧ ys.length < sizeLine ∧ ∀ x H', J.yld i H x H' → g x (pull ix σ) H' fun σ2 H2 => tt σ2 H2 fun b H3 =>
    if b = true then te σ2 H3 fun y H4 => ∃ m', m' < m ∧ W (i + 1) m' (ys ++ [y]) H4 else ∃ m', m' < m ∧ W (i + 1) m' ys H3)
def tLC (ix : List (Option Nat)) (wi : TI) (g : TG) (tt : TT) (te : TE) : TE := fun σ H Q => wi σ H fun J H1 => LCW J ix g tt te σ H1 Q
end L2
namespace L2
open PySem PySem.Spec PyProof.Rows

section
variable {prog : Program} {w : World} {A : Around} {R : Result → Shared → Prop} {s : Shared}
/-- the loop of a comprehension, whatever its target; no exception leaves it -/
theorem compLoop_all {elt tg iter : Expr} {ifs : List Expr} {scope : Scope} {pos : Pos} {it acc : Value} {env : Env} (J : Nat → Shared → Prop)
    (turn : ∀ n s, J n s → wpAny (model prog w) A (pyNext it) (fun r s₁ => match r with
      | none => R (.ok .next) s₁
      | some v => wpAny (model prog w) A (letOwnedTupleGo tg it v) (fun _ s₂ => wpAny (model prog w) A (assign tg env v) (fun _ s₃ =>
          wpAny (model prog w) A (forIn ifs true fun c r => if r = true then do let ok ← isTrue c env (eval c env); pure (ForInStep.yield ok) else pure (ForInStep.yield r)) (fun ok s₄ =>
            if ok = true then wpAny (model prog w) A (eval elt env) (fun x s₅ => wpAny (model prog w) A (call (.builtin "list.append") [acc, x]) (fun _ s₆ => ∃ m, m < n ∧ J m s₆) (fun _ _ => False) s₅) (fun _ _ => False) s₄
            else ∃ m, m < n ∧ J m s₄) (fun _ _ => False) s₃) (fun _ _ => False) s₂) (fun _ _ => False) s₁) (fun _ _ => False) s)
    (n : Nat) (h : J n s) : codeAny (model prog w) A (.compLoop (.ListComp elt [⟨tg, iter, ifs, 0⟩] scope pos) 0 it acc env) R s := by
  refine codeAny_loop rfl J (fun n s hJ => ?_) n h
  show wpAny _ A ((compTurn (.ListComp elt [⟨tg, iter, ifs, 0⟩] scope pos) 0 it acc env).onRaise (fun x => do noteFrame x env; theTreesLotGoes x)) _ _ s
  refine wpAny_noted ?_
  rw [compTurn_list]
  refine wpAny_bind (wpAny_standAt (wpAny_bind (wpAny_mono (turn n s hJ) (fun r s₁ h₁ => ?_) fun _ _ z => z.elim)))
  cases r with
  | none => exact wpAny_pure h₁
  | some v =>
    refine wpAny_bind (wpAny_mono h₁ (fun _ s₂ h₂ => ?_) fun _ _ z => z.elim)
    refine wpAny_bind (wpAny_mono h₂ (fun _ s₃ h₃ => wpAny_bind (wpAny_mono h₃ (fun ok s₄ h₄ => ?_) fun _ _ z => z.elim)) fun _ _ z => z.elim)
    cases ok with
    | false => exact wpAny_pure ⟨rfl, h₄⟩
    | true => exact wpAny_bind (wpAny_bind (wpAny_mono h₄ (fun x s₅ h₅ => wpAny_bind (wpAny_mono h₅ (fun _ s₆ h₆ => wpAny_pure (wpAny_pure ⟨rfl, h₆⟩)) fun _ _ z => z.elim)) fun _ _ z => z.elim))
end

/-- a target that leaves the outer names alone -/
def KeepsG (ix : List (Option Nat)) (g : TG) : Prop := ∀ x σ1 H Q, g x σ1 H Q → g x σ1 H fun σ2 H2 => (∀ i j : Nat, ix[i]? = some (some j) → σ2[i]? = σ1[i]?) ∧ Q σ2 H2
def KeepsGs (ix : List (Option Nat)) (g : TGs) : Prop := ∀ xs σ1 H Q, g xs σ1 H Q → g xs σ1 H fun σ2 H2 => (∀ i j : Nat, ix[i]? = some (some j) → σ2[i]? = σ1[i]?) ∧ Q σ2 H2
theorem keeps_name {ix : List (Option Nat)} {k : Nat} (hk : ix[k]? = some none) : KeepsG ix (gName k) := fun x σ1 H Q h => by
  refine ⟨fun i j e => ?_, h⟩
  have : k ≠ i := by rintro rfl; rw [hk] at e; cases e
  rw [List.getElem?_set_ne this]
theorem keeps_nil {ix : List (Option Nat)} : KeepsGs ix gNil := fun xs σ1 H Q h => ⟨h.1, fun _ _ _ => rfl, h.2⟩

abbrev lobj (us : List Value) : Obj := { cls := .type "list", data := .seq us.toArray us.length }

section
variable {X : Cx} {tg elt iter : Expr} {ifs : List Expr} {scope : Scope} {pos : Pos} {N : List Str} {ix : List (Option Nat)} {wi : TI} {g : TG} {tt : TT} {te : TE}

/-- what the block's syntax must have -/
structure LCOk (X : Cx) (scope : Scope) (N : List Str) (ix : List (Option Nat)) : Prop where
  kind : scope.kind = .function
  cell : ∀ y ∈ scope.names, y.2 ≠ .cell
  names : ∀ y ∈ scope.names, y.2 = .local → scope.names.lookup y.1 = some .local
  fre : ∀ y ∈ scope.names, y.2 = .free → ∃ c, X.env.cells.lookup y.1 = some c
  len : N.length = ix.length
  ix : ∀ (i j : Nat) (x : Str), N[i]? = some x → ix[i]? = some (some j) → X.N[j]? = some x ∧ scope.names.lookup x = some .free ∧ Vis X.env.scope x ∧ X.env.kindOf x ≠ some .local

theorem lc_ok {pins : List (Addr × Obj)} {σ : St} {H : Hp} {s : Shared} {fp : List Addr} (L : LCOk X scope N ix) (I : Inv X pins σ H s) (f : ∀ b ∈ fp, FpOk X pins H b) (hlt : ∀ b ∈ fp, b < s.heap.objs.size) (o : Obj) :
    (cxLC X N scope (s.heap.objs.size + 1) { s with heap := s.heap.push o } H (s.heap.objs.size :: fp) (X.pn ++ pins)).Ok := by
  have I1 : Inv X pins σ H { s with heap := s.heap.push o } := I.kept (t' := s.toks) fun b u e => Heap.get?_push_of_some _ e
  have sound : ∀ x c, (clOf X.env scope.names []).lookup x = some c → X.env.cells.lookup x = some c := fun x c e => clOf_sound (fun y d z => by simp at z) e
  have cellLt : ∀ x c, X.env.cells.lookup x = some c → c < s.heap.objs.size := fun x c e => let ⟨_, q⟩ := I.cell x c e; q.lt
  refine ⟨I.ok.mod, L.kind, I.ok.glob, I.ok.blt, ?_, fun x y c h1 h2 => I.ok.inj x y c (sound x c h1) (sound y c h2), fun x hx => ?_, fun x c h _ => (by cases h), I.ok.hd, I.ok.frames, .inl rfl, fun b hb => ?_, fun b u e => ?_, ?_, fun b u e hb => ?_, fun b hb => ?_, I1.stack, I.stkFree⟩
  · show (s.heap.push o).objs.size ≤ s.heap.objs.size + 1
    rw [Heap.size_push]
    exact Nat.le_refl _
  · have hm := relabel_kind L.cell hx
    exact clOf_has hm (L.fre _ hm rfl)
  · rcases List.mem_cons.mp hb with rfl | hb
    · refine ⟨Nat.ne_of_lt (Nat.lt_succ_self _), fun x c e z => ?_⟩
      exact absurd (cellLt x c (sound x c e)) (by rw [z]; exact Nat.lt_irrefl _)
    · exact ⟨Nat.ne_of_lt (Nat.lt_succ_of_lt (hlt b hb)), fun x c e => (f b hb).2.2.2.2.1 x c (sound x c e)⟩
  · exact ⟨Heap.get?_push_of_some _ (I.bs b u e).1, (I.bs b u e).2⟩
  · show X.base.objs.size ≤ (s.heap.push o).objs.size
    rw [Heap.size_push]
    exact Nat.le_succ_of_le (Nat.le_trans I.ok.bsz I.sz)
  · have hb' := Heap.lt_size (I.bs b u e).1
    rcases List.mem_cons.mp hb with rfl | hb
    · exact Nat.lt_irrefl _ hb'
    · rcases (f b hb).2.2.2.1 with z | z
      · exact I.ok.noex b u e z
      · exact absurd (Nat.lt_of_lt_of_le (Heap.lt_size e) (Nat.le_trans I.ok.bsz z)) (Nat.lt_irrefl _)
  · intro z
    have hs := I.stkSub b z
    rcases List.mem_cons.mp hb with rfl | hb
    · rcases List.mem_cons.mp hs with q | q
      · exact absurd I.lt (by rw [← q]; exact Nat.lt_irrefl _)
      · exact I.nofs (Nat.le_refl _) q
    · rcases List.mem_cons.mp hs with q | q
      · exact (f b hb).2.1 q
      · exact (f b hb).2.2.1 q
end
end L2
namespace L2
open PySem PySem.Spec PyProof.Rows
section
variable {X : Cx} {tg elt iter : Expr} {ifs : List Expr} {scope : Scope} {pos : Pos} {N : List Str} {ix : List (Option Nat)} {wi : TI} {g : TG} {tt : TT} {te : TE}

theorem pull_get {ix : List (Option Nat)} {σ : St} {i : Nat} {v : V} (h : (pull ix σ)[i]? = some (some v)) : ∃ j, ix[i]? = some (some j) ∧ σ[j]? = some (some v) := by
  unfold pull at h
  rw [List.getElem?_map] at h
  cases e : ix[i]? with
  | none => rw [e] at h; cases h
  | some k =>
    rw [e] at h
    cases k with
    | none => cases h
    | some j =>
      refine ⟨j, rfl, ?_⟩
      have h' : (σ[j]?).getD none = some v := by simpa using h
      cases q : σ[j]? with
      | none => rw [q] at h'; cases h'
      | some z => rw [q] at h'; simpa using h'

theorem lc_core {pins : List (Addr × Obj)} {σ : St} {RR : Value → Addr → Result → Shared → Prop} {Q : VK} {E : Value → Shared → Prop} {it : Addr} {fp : List Addr} {tn : Nat → Heap → Prop} {J : It} {H2 : Hp} {s2 : Shared} {W : Nat → Nat → List V → Hp → Prop} {m0 : Nat}
    (hc : X.calm = true) (L : LCOk X scope N ix) (hgk : KeepsG ix g)
    (blk : ∀ C s₃ H ex pn, PG (cxLC X N scope C s₃ H ex pn) tg g ∧ PIfs (cxLC X N scope C s₃ H ex pn) ifs tt ∧ PE (cxLC X N scope C s₃ H ex pn) elt te)
    (I2 : Inv X pins σ H2 s2) (T : Turn X.prog X.w X.K tg J fp it tn) (st2 : tn 0 s2.heap) (f2 : ∀ b ∈ fp, FpOk X pins H2 b) (w0 : W 0 m0 [] H2)
    (turn : ∀ i m ys H, W i m ys H → (J.stop i H ∧ ∀ D, H D = none → Q (.ref D) (upd H D (.lst ys))) ∨
      (J.go i H ∧ ys.length < sizeLine ∧ ∀ x H', J.yld i H x H' → g x (pull ix σ) H' fun σ2 H2 => tt σ2 H2 fun b H3 =>
        if b = true then te σ2 H3 fun y H4 => ∃ m', m' < m ∧ W (i + 1) m' (ys ++ [y]) H4 else ∃ m', m' < m ∧ W (i + 1) m' ys H3))
    (fin : ∀ D C m H' s', s'.heap.Ns C m → FpOk X pins H' C → Inv X pins σ H' s' → Q (.ref D) H' → RR (.ref D) C (.ok .next) s') :
    wpAny (model X.prog X.w) X.A (newList []) (fun acc s₃ => wpAny (model X.prog X.w) X.A (newFunctionEnv scope X.env.globals (clOf X.env scope.names []) [] X.env.qual none .none (some X.env)) (fun cenv s₄ =>
      codeAny (model X.prog X.w) X.A (.compStart (.ListComp elt [⟨tg, iter, ifs, 0⟩] scope pos) 0 (.ref it) acc { cenv with scope := relabel scope X.env }) (RR acc cenv.locals) s₄) E s₃) E s2 := by
  refine wpAny_newObj_type (wpAny_newFunctionEnv L.cell (by intro y hy; simp at hy) (fun h₁ hns₁ hsb₁ => ?_) L.kind)
  dsimp only at hns₁ hsb₁ ⊢
  have hCs : (s2.heap.push { cls := .type "list", dict := none, data := .seq ([] : List Value).toArray }).objs.size = s2.heap.objs.size + 1 := Heap.size_push ..
  rw [hCs] at hns₁ hsb₁ ⊢
  have fpObj := T.obj 0 _ st2
  have hlt : ∀ b ∈ fp, b < s2.heap.objs.size := fun b hb => let ⟨_, e, _⟩ := fpObj b hb; Heap.lt_size e
  have ok := lc_ok L I2 f2 hlt { cls := .type "list", dict := none, data := .seq ([] : List Value).toArray }
  have DC : s2.heap.objs.size ≠ s2.heap.objs.size + 1 := Nat.ne_of_lt (Nat.lt_succ_self _)
  have hold : ∀ b o, (s2.heap.push { cls := .type "list", dict := none, data := .seq ([] : List Value).toArray }).get? b = some o → h₁.get? b = some o := fun b o e => by
    refine hsb₁.extBut b o ?_ (Heap.get?_push_of_some _ e)
    have := Heap.lt_size e
    rw [hCs] at this
    exact Nat.ne_of_lt this
  have old : ∀ b o, s2.heap.get? b = some o → h₁.get? b = some o := fun b o e => hold b o (Heap.get?_push_of_some _ e)
  have sound : ∀ x c, (clOf X.env scope.names []).lookup x = some c → X.env.cells.lookup x = some c := fun x c e => clOf_sound (fun y d z => by simp at z) e
  have cellLt : ∀ x c, X.env.cells.lookup x = some c → c < s2.heap.objs.size := fun x c e => let ⟨_, q⟩ := I2.cell x c e; q.lt
  have hDn : H2 s2.heap.objs.size = none := I2.hok.fresh (Nat.le_refl _)
  have hCn : H2 (s2.heap.objs.size + 1) = none := I2.hok.fresh (Nat.le_succ _)
  have pinLt : ∀ p ∈ X.pn ++ pins, p.1 < s2.heap.objs.size := fun p hp => Heap.lt_size (I2.pin p hp).1
  have hDfs : s2.heap.objs.size ∉ frs X.stack := fun z => by
    rcases List.mem_cons.mp (I2.stkSub _ z) with q | q
    · exact absurd I2.lt (by rw [← q]; exact Nat.lt_irrefl _)
    · exact I2.nofs (Nat.le_refl _) q
  -- the block's state at its start
  have I' : Inv (cxLC X N scope (s2.heap.objs.size + 1) { s2 with heap := s2.heap.push { cls := .type "list", dict := none, data := .seq ([] : List Value).toArray } } H2 (s2.heap.objs.size :: fp) (X.pn ++ pins))
      [(s2.heap.objs.size, lobj [])] (pull ix σ) H2 { s2 with heap := h₁, toks := s2.toks + ([] : List (Str × Value)).length } := by
    refine ⟨ok, rfl, I2.bare, Un.kept hold, ⟨_, hns₁, fun i x v h1 h2 h3 => ?_⟩, fun x c e => ?_, hCn, fun x c e => I2.freeC x c (sound x c e), fun p hp => ?_, I2.hok.kept old, ?_⟩
    · obtain ⟨j, ej, es⟩ := pull_get h2
      obtain ⟨q1, q2, q3, q4⟩ := L.ix i j x h1 ej
      obtain ⟨m, _, hl⟩ := I2.loc
      obtain ⟨u, r, lk⟩ := hl j x v q1 es q3
      refine ⟨u, r, ?_⟩
      rcases lk with ⟨k, _⟩ | ⟨k, c, hcl, hv⟩
      · exact absurd k q4
      · obtain ⟨c', hc'⟩ := clOf_has (acc := []) (PySem.mem_of_lookup q2) ⟨c, hcl⟩
        have := sound x c' hc'
        rw [hcl] at this
        cases this
        refine .inr ⟨?_, c, hc', let ⟨ob, ho, hd⟩ := hv; ⟨ob, old c ob ho, hd⟩⟩
        exact relabel_free q2
    · obtain ⟨v, ob, ho, hd⟩ := I2.cell x c (sound x c e)
      exact ⟨v, ob, old c ob ho, hd⟩
    · rcases List.mem_append.mp hp with hp | hp
      · obtain ⟨e, n, ne, nf, d⟩ := I2.pin p hp
        refine ⟨old _ _ e, n, Nat.ne_of_lt (Nat.lt_succ_of_lt (pinLt p hp)), fun z => ?_, d⟩
        rcases List.mem_cons.mp (I2.stkSub _ z) with q | q
        · exact ne q
        · exact nf q
      · have e : p = (s2.heap.objs.size, lobj []) := by simpa using hp
        subst e
        exact ⟨hold _ _ (Heap.get?_push_size _ rfl), hDn, DC, hDfs, fun v z => by cases z⟩
    · unfold pull
      rw [List.length_map]
      exact L.len.symm
  generalize hX' : cxLC X N scope (s2.heap.objs.size + 1) { s2 with heap := s2.heap.push { cls := .type "list", dict := none, data := .seq ([] : List Value).toArray } } H2 (s2.heap.objs.size :: fp) (X.pn ++ pins) = X' at I'
  obtain ⟨hg, hif, he⟩ := blk (s2.heap.objs.size + 1) { s2 with heap := s2.heap.push { cls := .type "list", dict := none, data := .seq ([] : List Value).toArray } } H2 (s2.heap.objs.size :: fp) (X.pn ++ pins)
  rw [hX'] at hg hif he
  have stat : ∀ {H' : Hp} {us : List Value}, (∀ b ∈ fp, H' b = none) → ∀ b ∈ fp, FpOk X' [(s2.heap.objs.size, lobj us)] H' b := fun {H' us} hn b hb => by
    subst hX'
    obtain ⟨_, f1, f2', f3, f4, f5⟩ := f2 b hb
    refine ⟨hn b hb, Nat.ne_of_lt (Nat.lt_succ_of_lt (hlt b hb)), fun z => ?_, .inl (List.mem_cons_of_mem _ hb), fun x c e => f4 x c (sound x c e), fun p hp => ?_⟩
    · rcases List.mem_cons.mp (I2.stkSub _ z) with q | q
      · exact f1 q
      · exact f2' q
    · rcases List.mem_append.mp hp with hp | hp
      · exact f5 p hp
      · have e : p = (s2.heap.objs.size, lobj us) := by simpa using hp
        subst e
        exact Ne.symm (Nat.ne_of_lt (hlt b hb))
  have loop : codeAny (model X.prog X.w) X.A (.compLoop (.ListComp elt [⟨tg, iter, ifs, 0⟩] scope pos) 0 (.ref it) (.ref s2.heap.objs.size) X'.env) (RR (.ref s2.heap.objs.size) (s2.heap.objs.size + 1))
      { s2 with heap := h₁, toks := s2.toks + ([] : List (Str × Value)).length } := by
    refine compLoop_all (fun n s' => ∃ i ys us H', Inv X' [(s2.heap.objs.size, lobj us)] (pull ix σ) H' s' ∧ Vals ys us ∧ ys.length ≤ sizeLine ∧ tn i s'.heap ∧ (∀ b ∈ fp, H' b = none) ∧ W i n ys H') ?_ m0
      ⟨0, [], [], H2, I', .nil, Nat.zero_le _, T.keep _ _ _ st2 fun b _ o e => old b o e, fun b hb => (f2 b hb).1, w0⟩
    rintro n s3 ⟨i, ys, us, H3, I3, rv, hz, st3, fr3, w3⟩
    have hcX : X'.calm = true := by subst hX'; exact hc
    have hA : X'.A = X.A := by subst hX'; rfl
    rcases turn i n ys H3 w3 with ⟨stop, qn⟩ | ⟨go, hlen, step⟩
    · have hd := T.done X' (by subst hX'; rfl) (by subst hX'; rfl) (by subst hX'; rfl) hcX i _ s3 _ H3 (fun _ _ => False) I3 (stat fr3) st3 stop
      rw [hA] at hd
      refine thn hd fun r s4 ⟨hr, I4⟩ => ?_
      subst hr
      subst hX'
      obtain ⟨m, hn, _⟩ := I4.loc
      have hD3 := I4.pin (s2.heap.objs.size, lobj us) (List.mem_append_right _ List.mem_cons_self)
      have u1 : Un (frs X.stack) fp H2 H3 s2.heap s4.heap := by
        have B := I4.base
        have nD : ∀ b o, s2.heap.get? b = some o → b ∉ fp → b ∉ s2.heap.objs.size :: fp := fun b o e hb z => by
          rcases List.mem_cons.mp z with q | q
          · exact absurd (Heap.lt_size e) (by rw [q]; exact Nat.lt_irrefl _)
          · exact hb q
        exact ⟨fun b o e n hb hx => B.keep b o (Heap.get?_push_of_some _ e) n hb (nD b o e hx), fun b o e n hb hx => B.slot b o (Heap.get?_push_of_some _ e) n hb (nD b o e hx),
          fun b o e n hx => B.free b o (Heap.get?_push_of_some _ e) n (nD b o e hx), fun b o e hx => B.there b o (Heap.get?_push_of_some _ e) (nD b o e hx), B.tups, B.frzs, B.tbls⟩
      have I5 : Inv X pins σ H3 s4 := I2.call' (ch := fp) I4.os u1 I4.hok I4.bare fun b hb => let ⟨_, f1, _, f3, f4, f5⟩ := f2 b hb; ⟨f3, f1, f4, f5⟩
      have I6 : Inv X pins σ (upd H3 s2.heap.objs.size (.lst ys)) s4 := I5.track hD3.2.1 (.inr I2.sz) (Ne.symm (Nat.ne_of_lt I2.lt)) (fun x c e z => absurd (cellLt x c e) (by rw [z]; exact Nat.lt_irrefl _))
        (fun p hp => Nat.ne_of_lt (pinLt p hp)) ⟨hz, us, us.length, rv, hD3.1⟩
      refine fin _ _ m _ s4 hn ⟨?_, ?_, ?_, .inr (Nat.le_succ_of_le I2.sz), fun x c e z => ?_, fun p hp => ?_⟩ I6 (qn _ hD3.2.1)
      · rw [upd_ne (Ne.symm DC)]
        exact I4.free
      · exact Ne.symm (Nat.ne_of_lt (Nat.lt_succ_of_lt I2.lt))
      · exact I2.nofs (Nat.le_succ _)
      · exact absurd (cellLt x c e) (by rw [z]; exact Nat.not_lt.mpr (Nat.le_succ _))
      · exact Nat.ne_of_lt (Nat.lt_succ_of_lt (pinLt p hp))
    · have hd := T.item X' (by subst hX'; rfl) (by subst hX'; rfl) (by subst hX'; rfl) hcX i _ s3 _ H3 (fun _ _ => False) I3 (stat fr3) st3 go
      rw [hA] at hd
      refine thn hd fun r s4 ⟨u, hr, h4⟩ => ?_
      subst hr
      refine thn h4 fun _ s5 ⟨x, H5, I5, r5, y5, st5, fr5⟩ => ?_
      have I5' := I5.pinned (stat fr5) (T.obj _ _ st5)
      have hM : model X'.prog X'.w = model X.prog X.w := by subst hX'; rfl
      have hE : X'.xe = fun _ _ => False := by subst hX'; rfl
      have a6 := hg _ s5 _ H5 x u _ I5' r5 (hgk x _ H5 _ (step x H5 y5))
      rw [hM, hA, hE] at a6
      refine thn a6 fun _ s6 ⟨σ6, H6, I6, agr, q6⟩ => ?_
      have a7 := hif _ s6 σ6 H6 _ I6 q6
      rw [hM, hA, hE] at a7
      refine thn a7 fun ok s7 ⟨H7, I7, q7⟩ => ?_
      -- the state behind a turn: the iterator as it stood, the items us'
      have back : ∀ {s' : Shared} {H' : Hp} {pl : List (Addr × Obj)}, Inv X' pl σ6 H' s' → Inv X' pl (pull ix σ) H' s' := fun {s' H' pl} I => by
        refine I.weak ?_ fun k v e => ?_
        · have e1 := I.len
          have e2 := I3.len
          rw [e1, e2]
        · obtain ⟨j, ej, _⟩ := pull_get e
          rw [agr k j ej]
          exact e
      have held : ∀ {s' : Shared} {H' : Hp}, Inv X' ([(s2.heap.objs.size, lobj us)] ++ pinsAt fp s5.heap) σ6 H' s' → tn (i + 1) s'.heap ∧ ∀ b ∈ fp, H' b = none := fun {s' H'} I => by
        refine ⟨T.keep _ _ _ st5 fun b hb o e => (I.pin (b, o) (List.mem_append_right _ (List.mem_append_right _ (mem_pinsAt hb e)))).1, fun b hb => ?_⟩
        obtain ⟨o, e, _⟩ := T.obj _ _ st5 b hb
        exact (I.pin (b, o) (List.mem_append_right _ (List.mem_append_right _ (mem_pinsAt hb e)))).2.1
      cases ok with
      | false =>
        rw [if_neg Bool.false_ne_true] at q7 ⊢
        obtain ⟨m', hm, w7⟩ := q7
        obtain ⟨k1, k2⟩ := held I7
        exact ⟨m', hm, i + 1, ys, us, H7, (back I7).unpinned, rv, hz, k1, k2, w7⟩
      | true =>
        rw [if_pos rfl] at q7 ⊢
        have a8 := he _ s7 σ6 H7 _ I7 q7
        rw [hM, hA, hE] at a8
        refine thn a8 fun y s8 ⟨yv, H8, I8, r8, m', hm, w8⟩ => ?_
        obtain ⟨k1, k2⟩ := held I8
        have hD8 := I8.pin (s2.heap.objs.size, lobj us) (List.mem_append_right _ (List.mem_append_left _ List.mem_cons_self))
        have hl := rv.length
        refine append_at (hsz := by rw [List.size_toArray]; omega) hD8.1 fun h9 sb hD9 => ?_
        have I9 : Inv X' [] (pull ix σ) H8 s8 := (back I8).pins_of fun p hp => by simp at hp
        have I10 : Inv X' [] (pull ix σ) H8 { s8 with heap := h9 } := I9.turned (t' := s8.toks) (it := s2.heap.objs.size) (fun b o hb e => sb.extBut b o hb e) hD8.2.1 hD8.2.2.1 (.inl (by subst hX'; exact List.mem_cons_self))
          (fun x c e z => by subst hX'; exact absurd (cellLt x c (sound x c e)) (by rw [z]; exact Nat.lt_irrefl _)) (fun p hp z => by
            subst hX'
            rcases List.mem_append.mp hp with hp | hp
            · exact absurd (pinLt p hp) (by rw [z]; exact Nat.lt_irrefl _)
            · simp at hp)
        have e9 : h9.get? s2.heap.objs.size = some (lobj (us ++ [y])) := by
          rw [hD9]
          simp
        refine ⟨m', hm, i + 1, ys ++ [yv], us ++ [y], H8, I10.pins_of fun p hp => ?_, rv.append (.cons r8 .nil), by rw [List.length_append, List.length_singleton]; omega, ?_, k2, w8⟩
        · have e : p = (s2.heap.objs.size, lobj (us ++ [y])) := by simpa using hp
          subst e
          exact ⟨e9, hD8.2.1, hD8.2.2.1, hD8.2.2.2.1, fun v z => by cases z⟩
        · exact T.keep _ _ _ k1 fun b hb o e => sb.extBut b o (Nat.ne_of_lt (hlt b hb)) e
  have loop' := loop
  subst hX'
  exact codeAny_compStart_list loop (T.self X.A 0 _ _ _ (T.keep _ _ _ st2 fun b _ o e => old b o e) loop')

/-- [elt for tg in iter if ..] as a value -/
theorem pe_lc (hc : X.calm = true) (hi : PI X tg iter wi) (L : LCOk X scope N ix) (hgk : KeepsG ix g)
    (blk : ∀ C s₃ H ex pn, PG (cxLC X N scope C s₃ H ex pn) tg g ∧ PIfs (cxLC X N scope C s₃ H ex pn) ifs tt ∧ PE (cxLC X N scope C s₃ H ex pn) elt te)
    (hs : ∀ x, foldedSetIterable iter X.env x = pure x := by intro _; rfl) : PE X (.ListComp elt [⟨tg, iter, ifs, 0⟩] scope pos) (tLC ix wi g tt te) := by
  intro pins s σ H Q I h
  rw [eval_ListComp]
  refine wpAny_comprehension_free (use := none) rfl hs (closureFor_of L.fre) L.kind L.names (thn (hi pins s σ H _ I h) fun v s1 h1 => thn h1 fun itv s2 h2 => ?_)
  obtain ⟨it, fp, tn, J, H2, e, I2, T, st2, f2, W, ⟨m0, w0⟩, turn⟩ := h2
  subst e
  refine lc_core (RR := fun acc C => compPost (model X.prog X.w) X.A X.xe none (EP X pins σ Q) acc C) hc L hgk blk I2 T st2 f2 w0 turn fun D C m H' s' hn f I' q => ?_
  refine ⟨m, hn, fun h' sb => ⟨.ref D, H', I'.turned (t' := s'.toks) (fun b o hb e => sb.extBut b o hb e) f.1 f.2.1 f.2.2.2.1 f.2.2.2.2.1 f.2.2.2.2.2, rfl, q⟩⟩
end
end L2

/-! ## defs by name -/
namespace L2
open PySem PySem.Spec PyProof.Rows
/-- the def x of the text stands behind the top -/
structure DefAt (K : PySem.W.Frag) (mg : Str → Option Value) (x : Str) (st : Stmt) : Prop where
  ex : ∃ f fd, Fun K x x st f fd ∧ mg x = some (.ref f)
theorem def_mk {K : PySem.W.Frag} {h : Heap} {mg : Str → Option Value} {x : Str} {st : Stmt} {f : Addr} {oc : Value} {od an : Option Addr} {osl : Array (Option Value)} {kV doc pm cdv ct : Value} (X : K.In h) (G : h.Ns mainGlobals mg)
    (a : PySem.W.nsIn K mainGlobals x = some (some (.ref f)))
    (l : K.lookup f = some ⟨oc, od, .func (PySem.W.fnOf x x (defArgs st) (defBody st) (defScope st) .none kV doc pm an cdv ct), osl⟩)
    (c : PySem.W.codeIn K cdv x = true) (k : PySem.W.keepIn K (.ref f) = true) : DefAt K mg x st := ⟨f, _, fun_mk l c k, PySem.W.mg_of X G a⟩
/-- the def x keeps its promise sp -/
structure CallOk (P : Program) (w : World) (K : PySem.W.Frag) (mg : Str → Option Value) (base : Heap) (x : Str) (k : Nat) (sp : Sp) : Prop where
  ex : ∃ f fd ps, FnOk P w K mg base CX0 k f fd ps sp ∧ mg x = some (.ref f) ∧ PySem.W.keepIn K (.ref f) = true ∧ Binds K fd ps []
theorem CallOk.mono {P : Program} {w : World} {K : PySem.W.Frag} {mg : Str → Option Value} {base : Heap} {x : Str} {j k : Nat} {sp : Sp} (h : CallOk P w K mg base x j sp) (hk : j ≤ k) : CallOk P w K mg base x k sp :=
  let ⟨f, fd, ps, F, a, b, c⟩ := h.ex
  ⟨f, fd, ps, F.mono hk, a, b, c⟩
theorem CallOk.imp {P : Program} {w : World} {K : PySem.W.Frag} {mg : Str → Option Value} {base : Heap} {x : Str} {k : Nat} {sp sp' : Sp} (h : CallOk P w K mg base x k sp) (hi : ∀ vs H Q E, sp' vs H Q E → sp vs H Q E) : CallOk P w K mg base x k sp' :=
  let ⟨f, fd, ps, F, a, b, c⟩ := h.ex
  ⟨f, fd, ps, F.imp hi, a, b, c⟩
theorem call_of {P : Program} {w : World} {K : PySem.W.Frag} {mg : Str → Option Value} {base : Heap} {x : Str} {st : Stmt} {N ps : List Str} {k : Nat} {sp : Sp} (D : DefAt K mg x st) (S : FnScope N ps (defScope st))
    (hb : ∀ (kV doc pm : Value) (an : Option Addr) (cdv ct : Value) (us : List Value), us.length = ps.length → bindArgs (PySem.W.fnOf x x (defArgs st) (defBody st) (defScope st) .none kV doc pm an cdv ct) ⟨us, []⟩ = pure (ps.zip us))
    (len : ∀ vs H Q E, sp vs H Q E → vs.length = ps.length)
    (hbody : ∀ (f : Addr) (cdv : Value) (A : Around) (outer : List Env) (s : Shared) (H : Hp) (vs : List V) (Q : VK) (E : XK), Room k (A.deeper (envOfC x (defScope st) s.heap.objs.size f cdv)) → sp vs H Q E →
      ∃ t, PSs (cxOf CX0 P w K mg base N x (defScope st) f cdv A outer s H E).nox (defBody st) t ∧ t { nx := fun _ H' => Q .non H', rt := Q } (start N vs) H) : CallOk P w K mg base x (k + 1) sp := by
  obtain ⟨f, fd, F, m⟩ := D.ex
  exact ⟨f, fd, ps, F.ok S len (hbody f), m, F.kp, F.binds hb⟩
section
variable {X : Cx} {x : Str} {k : Nat} {sp : Sp} {e : Expr} {es : List Expr} {t : TA} {p pos : Pos}
theorem pe_callD (h : CallOk X.prog X.w X.K X.mg X.base x k sp) (hr : Room k X.A) (ha : PA X (e :: es) t) (hg : Gl X x := by rfl)
    (hdb : (x == ("__debug__" : Str)) = false := by decide) (he : starEach (e :: es) X.env = (false, eval e X.env) :: starEach es X.env := by rfl) (hpl : (backTo pos (starEach es X.env)).any (·.1) = false := by rfl) :
    PE X (.Call (.Name x p) (e :: es) [] pos) (tCall sp [] E0 t) := by
  obtain ⟨f, fd, ps, F, a, b, c⟩ := h.ex
  exact pe_call F hr hg a b c .nil pass0 ha hdb he hpl
end
/-- a product, by the bits of its factors -/
theorem op_mulB {X : Cx} : OpR X (binaryOp .Mult) (rI (fun i j => PySem.IntMulOk i j) fun i j => .int (i * j)) := opI fun _ _ _ _ _ _ _ hc q => mul_int q hc
/-- a quotient by any number that is not nought and not over long -/
theorem op_fdivB {X : Cx} : OpR X (binaryOp .FloorDiv) (rI (fun i j => j ≠ 0 ∧ Builtin.divisionGoesByPylong i j = false) fun i j => .int (i.fdiv j)) := opI fun _ _ _ _ _ _ _ hc q => floordiv_int hc.1 q (.inl hc.2)
end L2

/-! ## The layer's own growth: errors that leave a def -/
namespace L2
open PySem PySem.Spec PyProof.Rows

theorem ObjOk.at_ {P : Program} {w : World} {H : Hp} {h : Heap} {a : Addr} {o : HO} (x : ObjOk P w H h a o) : ∃ ob, h.get? a = some ob := by
  cases o with
  | lst xs => obtain ⟨_, _, _, _, e⟩ := x; exact ⟨_, e⟩
  | tup xs => obtain ⟨_, _, _, ob, e, _⟩ := x; exact ⟨ob, e⟩
  | dK kvs => obtain ⟨_, _, _, _, ob, _, _, e, _⟩ := x; exact ⟨ob, e⟩
  | dT kvs => obtain ⟨_, _, _, _, ob, _, _, e, _⟩ := x; exact ⟨ob, e⟩
  | set S n => obtain ⟨ob, _, _, _, e, _⟩ := x; exact ⟨ob, e⟩
  | ins C dx fs => obtain ⟨_, _, _, e, _⟩ := x; exact ⟨_, e⟩
  | own y => exact x
  | xd fs => obtain ⟨_, ⟨ob, _, _, e, _⟩, _⟩ := x; exact ⟨ob, e⟩
  | rng lo hi => obtain ⟨_, _, _, e⟩ := x; exact ⟨_, e⟩
  | frz ob u => obtain ⟨e, _⟩ := x; exact ⟨ob, e⟩
  | tbl ps => exact ⟨_, (show h.get? a = some _ from x)⟩
  | met f y => exact ⟨_, (show h.get? a = some _ from x)⟩
  | ext φ => obtain ⟨_, e, _⟩ := x; exact e

/-- what an error in flight keeps: the heap at the raise without the frames (B) bears all that was there and is no frame, and all that is tracked -/
structure Flies (P : Program) (w : World) (outer : List Env) (H : Hp) (s : Shared) (ea t : Addr) (C : Value) (vs : List Value) (B : Heap) (H' : Hp) (s' : Shared) : Prop where
  os : s'.os = s.os
  bare : AllBare s'.gens
  un : Un (frs outer) [] H H' s.heap s'.heap
  hok : HOk P w H' s'.heap
  fly : Heap.FlyingW B outer ea C (.ref t) s'.heap
  tup : s'.heap.TupAt t vs
  tn : B.get? t = none
  he : H' ea = none
  ht : H' t = none
  old : ∀ b o, s.heap.get? b = some o → H b = none → b ∉ frs outer → B.get? b = some o
  trk : ∀ b o, s'.heap.get? b = some o → H' b ≠ none → B.get? b = some o
  ex : ∀ b o, s.heap.get? b = some o → b ∉ frs outer → ∃ o', B.get? b = some o'
/-- an error behind a call -/
def CXe (P : Program) (w : World) : CXT := fun outer H s E e s' => ∃ (ea t : Addr) (C : Value) (vs : List Value) (B : Heap) (H' : Hp), e = .ref ea ∧ Flies P w outer H s ea t C vs B H' s' ∧ E C none H'

section
variable {P : Program} {w : World} {K : PySem.W.Frag} {mg : Str → Option Value} {base : Heap} {N : List Str} {qual : Str} {scope : Scope} {f : Addr} {cd : Value} {A : Around} {outer : List Env} {s₀ : Shared} {H₀ : Hp} {E : XK}
variable {pins : List (Addr × Obj)} {σ : St} {H : Hp} {s : Shared}

/-- what leaves the frame: from a heap B of all but the frames -/
theorem flies_out {ea t : Addr} {C : Value} {vs : List Value} {B : Heap} {H' : Hp} {s1 : Shared} {h2 : Heap} (I : Inv (cxOf (CXe P w) P w K mg base N qual scope f cd A outer s₀ H₀ E) pins σ H s)
    (hos : s1.os = s.os) (hb : AllBare s1.gens) (u : Un (frs (envOfC qual scope s₀.heap.objs.size f cd :: outer)) [] H H' s.heap s1.heap) (hok : HOk P w H' s1.heap)
    (old : ∀ b o, s.heap.get? b = some o → H b = none → b ∉ frs (envOfC qual scope s₀.heap.objs.size f cd :: outer) → B.get? b = some o) (trk : ∀ b o, s1.heap.get? b = some o → H' b ≠ none → B.get? b = some o)
    (ex : ∀ b o, s.heap.get? b = some o → b ∉ frs (envOfC qual scope s₀.heap.objs.size f cd :: outer) → ∃ o', B.get? b = some o')
    (he : H' ea = none) (ht : H' t = none) (tn : B.get? t = none) (fl : Heap.FlyingW B outer ea C (.ref t) h2) (tup : h2.TupAt t vs) (ups : s1.heap.UpToSlots h2) :
    Flies P w outer H₀ s₀ ea t C vs B H' { s1 with heap := h2 } := by
  have nex : ∀ b : Addr, b ∉ (cxOf (CXe P w) P w K mg base N qual scope f cd A outer s₀ H₀ E).ex := fun b z => absurd (show b ∈ ([] : List Addr) from z) (by simp)
  have stk : ∀ b, b ∈ frs (envOfC qual scope s₀.heap.objs.size f cd :: outer) → b = s₀.heap.objs.size ∨ b ∈ frs outer := fun b hb' => by
    rcases List.mem_cons.mp (I.stkSub b hb') with z | z
    · exact .inl z
    · exact .inr z
  have nstk : ∀ b o, s₀.heap.get? b = some o → b ∉ frs outer → b ∉ frs (envOfC qual scope s₀.heap.objs.size f cd :: outer) := fun b o e hn z => by
    rcases stk b z with q | q
    · exact absurd (Heap.lt_size e) (by rw [q]; exact Nat.lt_irrefl _)
    · exact hn q
  have kept : ∀ b o, s₀.heap.get? b = some o → H₀ b = none → b ∉ frs outer → B.get? b = some o := fun b o e n hb' =>
    old b o (I.base.keep b o e n hb' (nex b)) (I.base.free b o e n (nex b)) (nstk b o e hb')
  have trkd : ∀ b, H' b ≠ none → ∃ o, s1.heap.get? b = some o ∧ h2.get? b = some o := fun b hb' => by
    cases q : H' b with
    | none => exact absurd q hb'
    | some u' =>
      obtain ⟨o, e⟩ := (hok b u' q).at_
      exact ⟨o, e, fl.1 b o (trk b o e hb')⟩
  refine ⟨hos.trans I.os, hb, ⟨fun b o e n hb' _ => fl.1 b o (kept b o e n hb'), fun b o e n hb' _ => ?_, fun b o e n _ => ?_, fun b o e _ => ?_, fun b xs e => u.tups b xs (I.base.tups b xs e), fun b o xs e => u.frzs b o xs (I.base.frzs b o xs e), fun b ps e => ?_⟩, fun b u' e => ?_, fl, tup, tn, he, ht, kept, fun b o e hb' => ?_, fun b o e hb' => ?_⟩
  · obtain ⟨sl, e1⟩ := I.base.slot b o e n hb' (nex b)
    obtain ⟨sl2, e2⟩ := u.any e1 (I.base.free b o e n (nex b)) (by simp)
    obtain ⟨_, o', ho', hnf⟩ := I.ok.funs.mem hb'
    have e' : (cxOf (CXe P w) P w K mg base N qual scope f cd A outer s₀ H₀ E).s₀.heap.get? b = some o := e
    rw [e'] at ho'
    cases ho'
    obtain ⟨sl3, e3⟩ := ups b _ e2 hnf
    exact ⟨sl3, e3⟩
  · obtain ⟨o', e1⟩ := I.base.there b o e (nex b)
    exact u.free b o' e1 (I.base.free b o e n (nex b)) (by simp)
  · obtain ⟨o', e1⟩ := I.base.there b o e (nex b)
    obtain ⟨o2, e2⟩ := u.there b o' e1 (by simp)
    by_cases hn : H' b = none
    · by_cases hf : b ∈ frs outer
      · obtain ⟨_, ⟨o3, h3, hnf⟩⟩ := I.ok.funs.mem hf
        have e' : (cxOf (CXe P w) P w K mg base N qual scope f cd A outer s₀ H₀ E).s₀.heap.get? b = some o := e
        rw [e'] at h3
        cases h3
        have n0 : H₀ b = none := I.ok.frf b hf
        obtain ⟨sl, q1⟩ := I.base.slot b o e n0 hf (nex b)
        obtain ⟨sl2, q2⟩ := u.any q1 (I.base.free b o e n0 (nex b)) (by simp)
        obtain ⟨sl3, q3⟩ := ups b _ q2 hnf
        exact ⟨_, q3⟩
      · by_cases n0 : H₀ b = none
        · exact ⟨o, fl.1 b o (kept b o e n0 hf)⟩
        · obtain ⟨o4, q4⟩ := ex b o' e1 (nstk b o e hf)
          exact ⟨o4, fl.1 b o4 q4⟩
    · obtain ⟨o3, _, q⟩ := trkd b hn
      exact ⟨o3, q⟩
  · obtain ⟨m1, e1⟩ := I.base.tbls b ps e
    obtain ⟨m2, e2⟩ := u.tbls b _ e1
    exact ⟨m1 ++ m2, by rw [e2, Array.append_assoc]⟩
  · have hb' : H' b ≠ none := by rw [e]; exact fun z => nomatch z
    refine (hok b u' e).stay (fun c v hc q => ?_) (fun _ q => q) fun _ _ q => q
    have hcn : H' c ≠ none := by
      rcases hc with z | z
      · rw [z]; exact hb'
      · rw [z]; exact fun z => nomatch z
    exact fl.1 c v (trk c v q hcn)
  · obtain ⟨o3, q1, q2⟩ := trkd b hb'
    have e' : h2.get? b = some o := e
    rw [q2] at e'
    cases e'
    exact trk b _ q1 hb'
  · obtain ⟨o', e1⟩ := I.base.there b o e (nex b)
    exact ex b o' e1 (nstk b o e hb')

/-- a fresh error leaves its def -/
theorem fly_leave {ea : Addr} {C : Value} {args : List Value} {h1 : Heap} (I : Inv (cxOf (CXe P w) P w K mg base N qual scope f cd A outer s₀ H₀ E) pins σ H s) (hx : Heap.MadeExcOf s.heap h1 ea C args) (q : E C none H) :
    (cxOf (CXe P w) P w K mg base N qual scope f cd A outer s₀ H₀ E).xe (.ref ea) { s with heap := h1 } := by
  have hin : ∀ env ∈ (envOfC qual scope s₀.heap.objs.size f cd :: outer), ∀ b, env.frame = some b → b ∈ frs (envOfC qual scope s₀.heap.objs.size f cd :: outer) := fun env he b hb => List.mem_filterMap.mpr ⟨env, he, hb⟩
  have tracked : ∀ b, H b ≠ none → b ∉ frs (envOfC qual scope s₀.heap.objs.size f cd :: outer) := fun b hb z => hb (I.stkFree b z)
  have hnew : ∀ b, s.heap.get? b = none → H b = none := fun b hb => by
    cases z : H b with
    | none => rfl
    | some u =>
      obtain ⟨o, e⟩ := (I.hok b u z).at_
      rw [hb] at e
      cases e
  refine wpAny_leaves_madeW (base := PySem.W.hideAll s.heap (frs (envOfC qual scope s₀.heap.objs.size f cd :: outer))) (h := s.heap) I.ok.frames rfl (fun b o z => PySem.W.of_hideAll _ z) (PySem.W.funFrames_hide I.stack hin) hx fun h2 t fl tup tn ups => ?_
  obtain ⟨t', _, htn, ht'⟩ := hx.there
  have ht0 : H t = none := by
    cases z : H t with
    | none => rfl
    | some u =>
      obtain ⟨o, e⟩ := (I.hok t u z).at_
      have := PySem.W.hideAll_get (frs (envOfC qual scope s₀.heap.objs.size f cd :: outer)) e (tracked t (by rw [z]; exact fun k => nomatch k))
      rw [tn] at this
      cases this
  refine ⟨ea, t, C, args, _, H, rfl, flies_out (s1 := { s with heap := h1 }) I rfl I.bare (Un.kept hx.keeps) (I.hok.kept hx.keeps) (fun b o e n hb => PySem.W.hideAll_get _ e hb) (fun b o e hb => ?_) (fun b o e hb => ⟨o, PySem.W.hideAll_get _ e hb⟩) (hnew ea hx.new) ht0 tn fl tup ups, q⟩
  cases z : H b with
  | none => exact absurd z hb
  | some u =>
    obtain ⟨o', e'⟩ := (I.hok b u z).at_
    have e2 := hx.keeps b o' e'
    have e3 : h1.get? b = some o := e
    rw [e2] at e3
    cases e3
    exact PySem.W.hideAll_get _ e' (tracked b hb)
/-- an error of a callee passes through -/
theorem fly_pass {E1 : XK} (hE : ∀ C d H', E1 C d H' → E C d H') : Passes (CXe P w) (cxOf (CXe P w) P w K mg base N qual scope f cd A outer s₀ H₀ E) E1 := by
  intro pins σ H s e s' I h
  obtain ⟨ea, t, C, vs, B, H', rfl, F, q⟩ := h
  refine wpAny_leaves_onW I.ok.frames rfl F.fly fun h2 fl ups => ?_
  exact ⟨ea, t, C, vs, B, H', rfl, flies_out (s1 := s') I F.os F.bare F.un F.hok F.old F.trk F.ex F.he F.ht F.tn fl (F.tup.of_slots ups) ups, hE C none H' q⟩
end
end L2

namespace L2
open PySem PySem.Spec PyProof.Rows PySem.W
/-- an own error class of the written part, at any heap that bears it -/
theorem own_at {K : Frag} {h : Heap} {mg : Str → Option Value} {x : Str} {C : Addr} {bmB : List Value} {newId : String} (X : K.In h) (G : h.Ns mainGlobals mg) (e : nsIn K mainGlobals x = some (some (.ref C)))
    (q : excIn K C bmB newId = true) : OwnCls x C bmB newId mg h := by
  constructor
  · exact mg_of X G e
  unfold excIn at q
  split at q <;> try (exact absurd q Bool.false_ne_true)
  rename_i dd cd sl hC
  split at q <;> try (exact absurd q Bool.false_ne_true)
  rename_i C' bm u0 u1 u2 u3 n u5 hm hs
  simp only [Bool.and_eq_true, beq_iff_eq, Bool.not_eq_true'] at q
  obtain ⟨⟨⟨⟨⟨e1, e2⟩, hdel⟩, ht⟩, hns⟩, hin⟩ := q
  subst e1
  subst e2
  cases cd
  dsimp only at hm hdel hns hin
  subst hm
  subst hdel
  cases sl with
  | mk l =>
    simp only at hs
    subst hs
    exact ⟨_, _, _, _, _, _, _, _, _, _, _, _, _, _, _, _, _, X _ _ hC, .of_isNs (isNs_of_in X hns), nsMap_none_of_in X hns hin, tail_of_in X ht⟩
section
variable {P : Program} {w : World} {K : PySem.W.Frag} {mg : Str → Option Value} {base : Heap} {N : List Str} {qual : Str} {scope : Scope} {f : Addr} {cd : Value} {A : Around} {outer : List Env} {s₀ : Shared} {H₀ : Hp} {E : XK}
/-- raise C(arg), C an own error class without an __init__ -/
theorem ps_raise {x : Str} {C : Addr} {bmB bmN : List Value} {B Bn newId nid initId inN : String} {np cpos pos : Pos} {arg : Expr} {ta : TA} (ex : nsIn K mainGlobals x = some (some (.ref C))) (q : excIn K C bmB newId = true)
    (Fn : ExcBaseFacts Bn newId inN bmN) (hBn : bmB.contains (.type Bn) = true) (F : ExcBaseFacts B nid initId bmB)
    (ha : PA (cxOf (CXe P w) P w K mg base N qual scope f cd A outer s₀ H₀ E) [arg] ta) (hl : ∀ σ H R, ta σ H R → ta σ H fun vs H1 => vs.length ≤ sizeLine ∧ R vs H1)
    (hg : Gl (cxOf (CXe P w) P w K mg base N qual scope f cd A outer s₀ H₀ E) x := by rfl) (hdb : (x == ("__debug__" : Str)) = false := by decide)
    (he : starEach [arg] (envOfC qual scope s₀.heap.objs.size f cd) = [(false, eval arg (envOfC qual scope s₀.heap.objs.size f cd))] := by rfl) :
    PS (cxOf (CXe P w) P w K mg base N qual scope f cd A outer s₀ H₀ E) (.Raise (some (.Call (.Name x np) [arg] [] cpos)) none pos) (fun _ σ H => ta σ H fun _ H1 => E (.ref C) none H1) := by
  intro pins s σ H D I h
  have O := own_at I.mod.kin I.mod.glob ex q
  have hb := O.bound
  obtain ⟨bm, M, nm, qn, bs, hdct, sn, sub, ab, col, dd, k0, k1, k2, k3, k5, mN, hC, hN, hni, T⟩ := O.obj
  refine wpAny_Raise_call_subU (C := C) (nm := nm) (q := qn) (N := M) (bs := bs) (bm := bm) (hdct := hdct) (sn := sn) (sub := sub) (ab := ab) (col := col) (dd := dd) (k0 := k0) (k1 := k1) (k2 := k2) (k3 := k3) (k5 := k5)
    Fn hBn F (mN := mN) (T.hasType F.hasBase) (I.ok.hd rfl) ?_ hni (ld_glob I hg hb ⟨rfl, ?_⟩ hdb)
  · show (backTo cpos (starEach [arg] (envOfC qual scope s₀.heap.objs.size f cd))).any (·.1) = false
    rw [he]
    rfl
  · refine (?_ : wpAny (model P w) _ (evalArgs (.ref C) true (backTo cpos (starEach [arg] (envOfC qual scope s₀.heap.objs.size f cd))) []) _ _ s)
    have h2 := ha cpos pins s σ H _ I (hl σ H _ h)
    have h3 : wpAny (model P w) (cxOf (CXe P w) P w K mg base N qual scope f cd A outer s₀ H₀ E).A (spliced (backTo cpos (starEach [arg] (envOfC qual scope s₀.heap.objs.size f cd)))) _ _ s := h2
    rw [he] at h3 ⊢
    refine Calls.evalArgs_plain (thn h3 fun us s2 ⟨vs, H1, I1, r, hlen, q1⟩ => ⟨rfl, ?_, I1.bk _ _ hC, hN.keeps I1.bk, T.keeps I1.bk, fun h' e hm => fly_leave I1 hm q1⟩)
    show us.length ≤ sizeLine
    rw [← r.length]
    exact hlen
end
end L2

set_option maxRecDepth 100000
namespace L2
open PySem PySem.Spec PyProof.Rows PySem.W PySem.Calls Builtin Builtin.ObjectAttr Builtin.Getset_descriptor
/-- what isinstance asks of an error's own class -/
structure XCls (K : Frag) (D : Addr) : Prop where
  ga : findIn K (.ref D) "__getattribute__" = some (some (.builtin "BaseException.__getattribute__"))
  gt : findIn K (.ref D) "__getattr__" = some none
  cl : findIn K (.ref D) "__class__" = some (some (.builtin "object.__class__"))
  gg : specialIn K (.builtin "object.__class__") "__get__" = some (some (.builtin "getset_descriptor.__get__"))
  tk : takesIn K (.builtin "object.__class__") = some true
  ob : mroIn K D (.type "object") = some true
  be : mroIn K D (.type "BaseException") = some true
  is : (clsIn K D).isSome = true
def ExAt (x D : Addr) (h : Heap) : Prop := ∃ ox, h.get? x = some ox ∧ ox.cls = .ref D
theorem ExAt.type {M : Model} {x D : Addr} {h : Heap} (e : ExAt x D h) : Looks M h (typeOf (.ref x)) (.ref D) := by
  obtain ⟨ox, h1, h2⟩ := e
  exact h2 ▸ (Looks.ld h1).andThen .now
section
variable {prog : Program} {w : World} {A : Around} {E : Value → Shared → Prop} {s : Shared} {K : Frag} {x D : Addr}
theorem exc_class_get {R : Result → Shared → Prop} {tp : Value} (X : K.In s.heap) (I : ExAt x D s.heap) (hm : mroIn K D (.type "object") = some true)
    (h : R (.ok (.ret (.ref D))) s) : codeAny (model prog w) A (.call (.builtin "getset_descriptor.__get__") ⟨[.builtin "object.__class__", .ref x, tp], []⟩) R s := by
  obtain ⟨hh, g, dr, t, os⟩ := s
  have L0 := I.type (M := model prog w)
  have L1 := looks_mroIn (M := model prog w) X hm
  refine codeAny_call_builtin KF.slot_gs.plain KF.entry_gs (KF.slot_gs.check _ _ _ _ _ _ _ _ KF.type_class (KF.args_gs _ _ _) ?_)
  unfold Builtin.«getset_descriptor.__get__» descrGet
  rw [dga_obj]
  refine wpAny_bind (wpAny_pure ?_)
  unfold descrGetter descrCheckInstance descrNameAndClass isInstance
  simp only [KF.owner_class]
  repeat lk
  refine ⟨Code.quiet_builtin _ (by decide +kernel), codeAny_builtin KF.entry_class ?_⟩
  unfold Builtin.«object.__class__» shownTypeOf
  repeat lk
  exact h
theorem exc_entry {tk : Tok} {Q : Fin → Shared → Prop} (X : K.In s.heap) (I : ExAt x D s.heap) (C : XCls K D) (h : Q (.done (.ret (.ref D))) s) :
    wpAny (model prog w) A (Builtin.«object.__getattribute__» ⟨[.ref x, .str "__class__" tk], []⟩) Q E s := by
  obtain ⟨hh, g, dr, t, os⟩ := s
  have L0 := I.type (M := model prog w)
  have L1 := looks_findIn (M := model prog w) X C.cl
  have L2 := looks_specialIn (M := model prog w) X C.gg
  have L3 := looks_takesIn (M := model prog w) X C.tk
  unfold Builtin.«object.__getattribute__» find
  repeat lk
  refine (show wpAny (model prog w) A (run (.call (.builtin "getset_descriptor.__get__") ⟨[.builtin "object.__class__", .ref x, .ref D], []⟩)) _ _ _ from wpAny_run (exc_class_get X I C.ob ?_))
  repeat lk
  exact h
theorem exc_check {nameV : Value} {Q : Unit → Shared → Prop} (X : K.In s.heap) (I : ExAt x D s.heap) (C : XCls K D) (hq : Q () s) :
    wpAny (model prog w) A (checkBuiltinCall "BaseException.__getattribute__" ⟨[.ref x, nameV], []⟩) Q E s := by
  have hk : builtinKind "BaseException.__getattribute__" = some .slot := by decide +kernel
  have hsplit : splitId "BaseException.__getattribute__" = some ("BaseException", "__getattribute__") := by decide +kernel
  have ha := F.args_bexc_ga (.ref x) nameV
  have L0 := I.type (M := model prog w)
  have L1 := looks_mroIn (M := model prog w) X C.be
  obtain ⟨hh, g, dr, t, os⟩ := s
  simp only [checkBuiltinCall, hk, hsplit]
  refine wpAny_bind ?_
  unfold isInstance
  refine wpAny_bind (L0.at (L1.at ?_))
  rw [if_neg (by decide)]
  repeat (first | assumption | wp_step)
theorem exc_class_attr {Q : Option Value → Shared → Prop} (X : K.In s.heap) (I : ExAt x D s.heap) (C : XCls K D) (h : Q (some (.ref D)) { s with toks := s.toks + 1 }) :
    wpAny (model prog w) A (getAttr? (.ref x) "__class__") Q E s := by
  obtain ⟨hh, g, d, t, os⟩ := s
  have L0 := I.type (M := model prog w)
  have L1 := looks_findIn (M := model prog w) X C.ga
  have L2 := looks_findIn (M := model prog w) X C.gt
  have hx2 : (Value.builtin "BaseException.__getattribute__" == Value.builtin "object.__getattribute__") = false := by decide +kernel
  unfold getAttr? getAttrBy? getAttrBy
  refine wpAny_bind (wpAny_mkText (wpAny_bind (wpAny_attempt (wpAny_holding (wpAny_bind (L0.at (wpAny_bind (L1.at ?_))))))))
  dsimp only
  rw [hx2]
  simp only [Bool.and_false, Bool.false_eq_true, if_false]
  unfold getAttrByItsOwn hookBefore
  rw [if_pos (show onTheHeap (Value.ref D) = true from rfl)]
  refine wpAny_bind (L2.at (wpAny_bind (wpAny_attempt (wpAny_holding ?_))))
  unfold callGetattribute boundAndCalled
  rw [if_neg (by decide)]
  have fb : bindSpecial (.builtin "BaseException.__getattribute__") (.ref x) = pure (.builtin "BaseException.__getattribute__", [.ref x]) := by
    have hop : withoutEnding? "BaseException.__getattribute__" "#opaque" = none := by decide +kernel
    have hdat : withoutEnding? "BaseException.__getattribute__" "#data" = none := by decide +kernel
    have hk : builtinKind "BaseException.__getattribute__" = some .slot := by decide +kernel
    simp only [bindSpecial, typeOf, builtinType, hop, hdat, hk]; rfl
  rw [fb]
  refine wpAny_bind (wpAny_pure ?_)
  have X' : K.In (⟨hh, g, d, t + 1, os⟩ : Shared).heap := X
  refine wpAny_call (codeAny_call_builtin (by decide +kernel) F.entry_bexc_ga (exc_check X' I C (exc_entry X' I C ?_)))
  dsimp only
  rw [handedOut_of (show handedIn (.ref D) = true from rfl)]
  exact wpAny_pure (wpAny_pure h)
theorem kitx_exc (C : XCls K D) : KitX K (.ref x) (.ref D) (ExAt x D) where
  ty := fun _ _ _ I => I.type
  it := fun _ _ X _ => by
    obtain ⟨cdD, hcD⟩ := Option.isSome_iff_exists.mp C.is
    unfold clsIn at hcD
    split at hcD
    · rename_i c' d' cd' sl' ho
      intro A' Q' E' s' k q
      unfold isType loadHead
      exact wpAny_bind (wpAny_loadPart (k _ _ (X _ _ ho)) (wpAny_pure q))
    · cases hcD
  ne := fun h tp dd its n sl X htp => by
    obtain ⟨cdD, hcD⟩ := Option.isSome_iff_exists.mp C.is
    refine Bool.eq_false_iff.mpr fun q => ?_
    have e : D = tp := Value.ref.inj (beq_iff_eq.mp q)
    subst e
    unfold clsIn at hcD
    split at hcD
    · rename_i c' d' cd' sl' ho
      have z := (X _ _ ho).symm.trans htp
      cases z
    · cases hcD
  ca := fun X I k => exc_class_attr X I C k
end
end L2

set_option maxRecDepth 100000
namespace L2
open PySem PySem.Spec PyProof.Rows PySem.W PySem.Calls Builtin Builtin.ObjectAttr Builtin.Getset_descriptor
/-- a class that may stand behind except -/
structure HCls (K : Frag) (D : Addr) : Prop where
  is : (clsIn K D).isSome = true
  ty : typeIn K (.ref D) = some (.type "type")
  be : mroIn K D (.type "BaseException") = some true
theorem sub_type_tuple : isSubtype (.type "type") (.type "tuple") = pure false := by rw [isSubtype_type]; kernel_rfl
section
variable {prog : Program} {w : World} {A : Around} {E : Value → Shared → Prop} {s : Shared} {K : Frag} {x C D : Addr}
theorem exc_matches {Q : Bool → Shared → Prop} (X : K.In s.heap) (I : ExAt x C s.heap) (T : HCls K D) (hs : mroIn K C (.ref D) = some true) (h : Q true s) :
    wpAny (model prog w) A (excMatches (.ref x) (.ref D)) Q E s := by
  obtain ⟨hh, g, dr, t, os⟩ := s
  have L0 := I.type (M := model prog w)
  have L1 := looks_mroIn (M := model prog w) X hs
  have L2 := looks_mroIn (M := model prog w) X T.be
  have L3 := looks_typeIn (M := model prog w) X T.ty
  have L4 : Looks (model prog w) hh (isType (.ref D)) true := by
    obtain ⟨cdD, hcD⟩ := Option.isSome_iff_exists.mp T.is
    unfold clsIn at hcD
    split at hcD
    · rename_i c' d' cd' sl' ho
      intro A' Q' E' s' k q
      unfold isType loadHead
      exact wpAny_bind (wpAny_loadPart (k _ _ (X _ _ ho)) (wpAny_pure q))
    · cases hcD
  unfold excMatches
  have L5 : Looks (model prog w) hh (isInstance (.ref D) (.type "tuple")) false := L3.andThen (Looks.of_pure sub_type_tuple)
  refine wpAny_bind (L5.at ?_)
  simp only [Bool.false_eq_true, if_false]
  refine wpAny_bind (wpAny_pure ?_)
  have L6 : Looks (model prog w) hh (isExcClass (.ref D)) true := L4.andThen L2
  simp only [List.forIn_cons, List.forIn_nil]
  refine wpAny_bind (wpAny_bind (wpAny_bind (L6.at ?_)))
  simp only [Bool.not_true, Bool.false_eq_true, if_false]
  refine wpAny_pure (wpAny_pure (wpAny_bind (L0.at (wpAny_bind (wpAny_bind (wpAny_bind (L1.at ?_)))))))
  simp only [if_true]
  exact wpAny_pure (wpAny_pure (wpAny_pure h))
end

/-- the body of a try: other pins, another wish -/
abbrev Cx.tryB (X : Cx) (pn : List (Addr × Obj)) (xe : Value → Shared → Prop) : Cx := { X with pn := pn, xe := xe }
/-- the suite behind except: an error is being handled -/
abbrev Cx.exc (X : Cx) (pn : List (Addr × Obj)) (ea : Addr) : Cx := { X with A := X.A.mark (some (.ref ea)), calm := false, pn := pn, xe := fun _ _ => False }
section
variable {X : Cx} {pins pins' pn pn' : List (Addr × Obj)} {σ : St} {H H1 H' : Hp} {s s1 s' : Shared} {xe : Value → Shared → Prop} {ea t : Addr} {C : Value} {vs : List Value} {B h : Heap}
theorem Cx.Ok.tryB (ok : X.Ok) : (X.tryB pn xe).Ok :=
  ⟨ok.mod, ok.kind, ok.glob, ok.blt, ok.above, ok.inj, ok.has, ok.cab, ok.hd, ok.frames, ok.stk, ok.exf, ok.bs, ok.bsz, ok.noex, ok.exfs, ok.funs, ok.frf⟩
theorem Cx.Ok.exc (ok : X.Ok) : (X.exc pn ea).Ok :=
  ⟨ok.mod, ok.kind, ok.glob, ok.blt, ok.above, ok.inj, ok.has, ok.cab, fun z => absurd (show false = true from z) Bool.false_ne_true, ok.frames, ok.stk, ok.exf, ok.bs, ok.bsz, ok.noex, ok.exfs, ok.funs, ok.frf⟩
theorem Inv.tryB (I : Inv X pins σ H s) : Inv (X.tryB (X.pn ++ pins) xe) [] σ H s :=
  ⟨I.ok.tryB, I.os, I.bare, I.base, I.loc, I.cell, I.free, I.freeC, fun p hp => I.pin p (by simpa using hp), I.hok, I.len⟩
theorem Inv.tryW {xe' : Value → Shared → Prop} (I : Inv (X.tryB pn xe) pins σ H s) : Inv (X.tryB pn xe') pins σ H s :=
  ⟨Cx.Ok.tryB (X := X.tryB pn xe) I.ok, I.os, I.bare, I.base, I.loc, I.cell, I.free, I.freeC, I.pin, I.hok, I.len⟩
theorem Inv.untryB (ok : X.Ok) (I : Inv (X.tryB (X.pn ++ pins) xe) pins' σ H s) : Inv X pins σ H s :=
  ⟨ok, I.os, I.bare, I.base, I.loc, I.cell, I.free, I.freeC, fun p hp => I.pin p (List.mem_append_left _ hp), I.hok, I.len⟩
theorem SP.untryB {D : Ends} {f : Flow} (ok : X.Ok) (q : SP (X.tryB (X.pn ++ pins) xe) pins' D f s) : SP X pins D f s := by
  cases f with
  | next => obtain ⟨σ', H', I, q⟩ := q; exact ⟨σ', H', I.untryB ok, q⟩
  | brk => obtain ⟨σ', H', I, q⟩ := q; exact ⟨σ', H', I.untryB ok, q⟩
  | cont => obtain ⟨σ', H', I, q⟩ := q; exact ⟨σ', H', I.untryB ok, q⟩
  | ret u => obtain ⟨v, σ', H', I, r, q⟩ := q; exact ⟨v, σ', H', I.untryB ok, r, q⟩
theorem Inv.exc (I : Inv X pins σ H s) (hp : ∀ p ∈ pn, s.heap.get? p.1 = some p.2 ∧ H p.1 = none ∧ p.1 ≠ X.env.locals ∧ p.1 ∉ X.fs ∧ ∀ v, p.2.data ≠ .cell v) : Inv (X.exc pn ea) [] σ H s :=
  ⟨I.ok.exc, I.os, I.bare, I.base, I.loc, I.cell, I.free, I.freeC, fun p h => hp p (by simpa using h), I.hok, I.len⟩
theorem Inv.unexc (ok : X.Ok) (I : Inv (X.exc pn ea) pins' σ H s) (hp : ∀ p ∈ X.pn ++ pins, p ∈ pn) : Inv X pins σ H s :=
  ⟨ok, I.os, I.bare, I.base, I.loc, I.cell, I.free, I.freeC, fun p h => I.pin p (List.mem_append_left _ (hp p h)), I.hok, I.len⟩
/-- the state where an error lands, seen from the call that it left -/
theorem land_inv (I : Inv X pins σ H1 s1) (F : Flies X.prog X.w X.stack H1 s1 ea t C vs B H' s') (hf : B.StaysIn h) (hs : s'.heap.UpToSlots h) : Inv X pins σ H' { s' with heap := h } := by
  have trkd : ∀ b, H' b ≠ none → ∃ o, s'.heap.get? b = some o ∧ h.get? b = some o := fun b hb => by
    cases q : H' b with
    | none => exact absurd q hb
    | some u =>
      obtain ⟨o, e⟩ := (F.hok b u q).at_
      exact ⟨o, e, hf b o (F.trk b o e hb)⟩
  have sl : ∀ b o, s1.heap.get? b = some o → H1 b = none → b ∈ frs X.stack → ∃ sl, h.get? b = some { o with slots := sl } := fun b o e n hb => by
    obtain ⟨sl, e1⟩ := F.un.slot b o e n hb (by simp)
    obtain ⟨_, o', ho', hnf⟩ := I.stack.mem hb
    rw [e] at ho'
    cases ho'
    obtain ⟨sl2, e2⟩ := hs b { o with slots := sl } e1 hnf
    exact ⟨sl2, e2⟩
  refine I.call' (s' := { s' with heap := h }) (ch := []) F.os ⟨fun b o e n hb _ => hf b o (F.old b o e n hb), fun b o e n hb _ => sl b o e n hb, fun b o e n _ => F.un.free b o e n (by simp), fun b o e _ => ?_, F.un.tups, F.un.frzs, F.un.tbls⟩ (fun b u e => ?_) F.bare (fun b hb => nomatch hb)
  · by_cases hn : H' b = none
    · by_cases hb : b ∈ frs X.stack
      · obtain ⟨sl', e'⟩ := sl b o e (I.stkFree b hb) hb
        exact ⟨_, e'⟩
      · obtain ⟨o', e'⟩ := F.ex b o e hb
        exact ⟨o', hf b o' e'⟩
    · obtain ⟨o', _, e'⟩ := trkd b hn
      exact ⟨o', e'⟩
  · have hb : H' b ≠ none := by rw [e]; exact fun z => nomatch z
    refine (F.hok b u e).stay (fun c v hc q => ?_) (fun _ q => q) fun _ _ q => q
    have hcn : H' c ≠ none := by
      rcases hc with z | z
      · rw [z]; exact hb
      · rw [z]; exact fun z => nomatch z
    exact hf c v (F.trk c v q hcn)
/-- the name behind as is unbound -/
theorem name_goes {M : Model} {A : Around} {E : Value → Shared → Prop} {i : Nat} {n : Str} {pos : Pos} {Q : Unit → Shared → Prop} (I : Inv X pins σ H s) (hN : X.N.Nodup) (hi : X.N[i]? = some n) (hl : X.env.kindOf n = some .local)
    (h : ∀ s', Inv X pins (σ.set i none) H s' → Q () s') : wpAny M A (do bindName X.env n .none; unbindBehindTheSuite X.env n pos) Q E s := by
  obtain ⟨m, hn, hlk⟩ := id I.loc
  have hcls : (X.env.scope.kind == .class || (X.env.scope.kind == .module && X.env.locals != X.env.globals)) = false := by rw [I.ok.kind]; rfl
  have hiσ : i < σ.length := by rw [I.len]; exact (List.getElem?_eq_some_iff.mp hi).1
  refine wpAny_nameGoes_keeps hl hn hcls fun h' v hn' hs => ?_
  obtain ⟨oL, _, _, hoL, _⟩ := id hn
  have tracked : HOk X.prog X.w H h' := fun b ob e => by
    refine (I.hok b ob e).stay (fun c w' hc q => (hs.2 c ?_).trans q) (fun _ q => q) fun _ _ q => q
    have hfree := I.free
    rintro rfl
    rcases hc with rfl | hc
    · rw [hfree] at e; cases e
    · rw [hfree] at hc; cases hc
  refine h _ ⟨I.ok, I.os, I.bare, ⟨fun b o e n hb hx => ?_, fun b o e n hb hx => ?_, I.base.free, fun b o e hx => ?_, I.base.tups, I.base.frzs, I.base.tbls⟩, ⟨_, hn', fun j y v' e1 e2 e3 => ?_⟩, fun y c e => ?_, I.free, I.freeC, fun p hp => ?_, tracked, by simpa using I.len⟩
  · exact (hs.2 b (Nat.ne_of_lt (Nat.lt_of_lt_of_le (Heap.lt_size e) I.ok.above))).trans (I.base.keep b o e n hb hx)
  · obtain ⟨sl, e1⟩ := I.base.slot b o e n hb hx
    exact ⟨sl, (hs.2 b (Nat.ne_of_lt (Nat.lt_of_lt_of_le (Heap.lt_size e) I.ok.above))).trans e1⟩
  · obtain ⟨o', e1⟩ := I.base.there b o e hx
    exact ⟨o', (hs.2 b (Nat.ne_of_lt (Nat.lt_of_lt_of_le (Heap.lt_size e) I.ok.above))).trans e1⟩
  · by_cases hj : j = i
    · subst hj
      rw [List.getElem?_set_self hiσ] at e2
      cases e2
    · rw [List.getElem?_set_ne (Ne.symm hj)] at e2
      obtain ⟨u', r', q⟩ := hlk j y v' e1 e2 e3
      refine ⟨u', r', ?_⟩
      rcases q with ⟨k, e⟩ | ⟨k, c, e, z⟩
      · refine .inl ⟨k, ?_⟩
        have : y ≠ n := fun e => hj (nodup_ix hN e1 (e ▸ hi))
        simp [this, e]
      · exact .inr ⟨k, c, e, z.sameBut hs (I.cne y c e)⟩
  · obtain ⟨w', z⟩ := I.cell y c e
    exact ⟨w', z.sameBut hs (I.cne y c e)⟩
  · obtain ⟨e, n, ne, nf, d⟩ := I.pin p hp
    exact ⟨(hs.2 p.1 ne).trans e, n, ne, nf, d⟩
/-- what is wanted behind the suite: the name is gone -/
def Ends.gone (D : Ends) (i : Nat) : Ends := { nx := fun σ H => D.nx (σ.set i none) H, rt := D.rt, bk := fun σ H => D.bk (σ.set i none) H, ct := fun σ H => D.ct (σ.set i none) H }
/-- try: .. except D as n: ..; in the suite all names but n are forgotten -/
def tTry (K : Frag) (N : List Str) (Dh : Addr) (i : Nat) (tb : XK → TS) (th : Addr → Addr → TS) : TS := fun D σ H =>
  tb (fun Cv _ H' => ∃ Ca, Cv = .ref Ca ∧ mroIn K Ca (.ref Dh) = some true ∧ ∀ ea, H' ea = none → th ea Ca (D.gone i) ((List.replicate N.length none).set i (some (.ref ea))) H') D σ H
theorem ps_try {x n : Str} {i : Nat} {Dh : Addr} {body suite : List Stmt} {b₀ : Stmt} {np hpos pos : Pos} {tb : XK → TS} {th : Addr → Addr → TS}
    (hN : X.N.Nodup) (hi : X.N[i]? = some n) (hl : X.env.kindOf n = some .local) (hg : Gl X x) (hm : X.mg x = some (.ref Dh)) (T : HCls X.K Dh)
    (hst : X.stack = X.env :: X.outer) (hfr : X.env.frame = some X.env.locals)
    (hb : ∀ (EK : XK) (pn : List (Addr × Obj)) (xe : Value → Shared → Prop), Passes (CXe X.prog X.w) (X.tryB pn xe) EK → PSs (X.tryB pn xe) body (tb EK))
    (hs : ∀ (pn : List (Addr × Obj)) (ea : Addr) (oe : Obj) (Ca : Addr), (ea, oe) ∈ pn → oe.cls = .ref Ca → PSs (X.exc pn ea) (b₀ :: suite) (th ea Ca))
    (hx : Loc X.env.scope n := by exact .inl rfl) (hfn : X.fn n = true ∨ X.env.scope.names.lookup n = some .local := by exact .inr rfl) (hd : (x == ("__debug__" : Str)) = false := by decide) :
    PS X (.Try body [.ExceptHandler (some (.Name x np)) (some n) (b₀ :: suite) hpos] [] [] pos) (tTry X.K X.N Dh i tb th) := by
  intro pins s σ H D I h
  let E0' : XK := fun Cv _ H' => ∃ Ca, Cv = .ref Ca ∧ mroIn X.K Ca (.ref Dh) = some true ∧ ∀ ea, H' ea = none → th ea Ca (D.gone i) ((List.replicate X.N.length none).set i (some (.ref ea))) H'
  let XE : Value → Shared → Prop := fun e s' => ∃ pins' σ' H1 s1, Inv (X.tryB (X.pn ++ pins) fun _ _ => False) pins' σ' H1 s1 ∧ CXe X.prog X.w X.stack H1 s1 E0' e s'
  have hB := hb E0' (X.pn ++ pins) XE (fun pins' σ' H1 s1 e s' I' q => ⟨pins', σ', H1, s1, I'.tryW, q⟩)
  refine wpAny_Try_except (wpAny_mono (hB [] s σ H D I.tryB h) (fun f s1 q => ?_) fun e s' q => ?_)
  · have q' := SP.untryB I.ok q
    cases f with
    | next => exact wpAny_execs_nil q'
    | brk => exact q'
    | cont => exact q'
    | ret u => exact q'
  · obtain ⟨pins', σ', H1, s1, I1, ea, t, Cv, vs, B, H', rfl, F, Ca, rfl, hsub, hth⟩ := q
    have hfly := F.fly
    have hst' : (X.tryB (X.pn ++ pins) fun _ _ => False).stack = X.env :: X.outer := hst
    rw [hst] at hfly
    refine wpAny_looks_onW (I.ok.frames.trans (by rw [hst])) hfr hfly fun h₄ hheld₄ hsm₄ => ?_
    refine wpAny_landsW hheld₄ fun h₅ hheld hsm₅' => ?_
    have I5 : Inv (X.tryB (X.pn ++ pins) fun _ _ => False) pins' σ' H' { s' with heap := h₅ } := land_inv I1 F hheld.1 (hsm₄.trans hsm₅')
    have I5e : Inv (X.exc [] ea) [] σ' H' { s' with heap := h₅ } := (I5.untryB I.ok).exc fun p hp => nomatch hp
    obtain ⟨ob, hob, hobc⟩ := hheld.there
    refine wpAny_handleBy_cons (codeAny_handlers_test (ld_glob I5e hg hm ?_ hd)) (by intro q; cases q)
    refine exc_matches I5e.kIn ⟨ob, hob, hobc⟩ T hsub (codeAny_handlers_suite_as ?_)
    refine lands_againW hheld fun h₆ hfl₆ hsm₆ => ?_
    have I6 : Inv (X.tryB (X.pn ++ pins) fun _ _ => False) pins' σ' H' { s' with heap := h₆ } := land_inv I1 F hfl₆.1 ((hsm₄.trans hsm₅').trans hsm₆)
    obtain ⟨oe, ws, hoe, hoec, hoed, hoe0⟩ := hfl₆.first
    have neL : ea ≠ X.env.locals := fun z => by
      obtain ⟨m, ⟨o, es, ep, ho, hdo, _⟩, _⟩ := I6.loc
      have ho' : h₆.get? ea = some o := by rw [z]; exact ho
      rw [hoe] at ho'
      cases ho'
      rw [hdo] at hoed
      cases hoed
    have nfs : ea ∉ X.fs := fun z => by
      obtain ⟨_, o, ho, hnf⟩ := I6.funs.mem z
      have ho' : h₆.get? ea = some o := ho
      rw [hoe] at ho'
      cases ho'
      exact hnf _ hoed
    have I7 : Inv (X.exc (X.pn ++ pins ++ [(ea, oe)]) ea) [] ((List.replicate X.N.length none)) H' { s' with heap := h₆ } := by
      refine Inv.weak (σ := σ') (Inv.exc (I6.untryB I.ok) fun p hp => ?_) (by rw [List.length_replicate]; exact I6.len.symm) (fun j v e => by rw [List.getElem?_replicate] at e; split at e <;> cases e)
      rcases List.mem_append.mp hp with hp | hp
      · exact I6.pin p (List.mem_append_left _ hp)
      · obtain rfl : p = (ea, oe) := by simpa using hp
        exact ⟨hoe, F.he, neL, nfs, fun v z => by rw [hoed] at z; cases z⟩
    refine store_ok (X := X.exc (X.pn ++ pins ++ [(ea, oe)]) ea) (v := .ref ea) I7 hN hi hx rfl (fun s7 I8 => ?_) hfn
    refine wpAny_mono (hs _ ea oe Ca (List.mem_append_right _ (List.mem_singleton.mpr rfl)) hoec [] s7 _ H' (D.gone i) I8 (hth ea F.he)) (fun f s8 q => ?_) fun _ _ z => z.elim
    have sub : ∀ p ∈ X.pn ++ pins, p ∈ X.pn ++ pins ++ [(ea, oe)] := fun p hp => List.mem_append_left _ hp
    cases f with
    | next => obtain ⟨σ9, H9, I9, q9⟩ := q; exact name_goes (I9.unexc I.ok sub) hN hi hl fun s9 I9' => ⟨_, H9, I9', q9⟩
    | brk => obtain ⟨σ9, H9, I9, q9⟩ := q; exact name_goes (I9.unexc I.ok sub) hN hi hl fun s9 I9' => ⟨_, H9, I9', q9⟩
    | cont => obtain ⟨σ9, H9, I9, q9⟩ := q; exact name_goes (I9.unexc I.ok sub) hN hi hl fun s9 I9' => ⟨_, H9, I9', q9⟩
    | ret u => obtain ⟨v, σ9, H9, I9, r9, q9⟩ := q; exact name_goes (I9.unexc I.ok sub) hN hi hl fun s9 I9' => ⟨v, _, H9, I9', r9, q9⟩
end
end L2

set_option maxRecDepth 100000
namespace L2
open PySem PySem.Spec PyProof.Rows PySem.W PySem.Calls
/-- what isinstance answers of an error of class Ca: one class, own or built-in, or a tuple of own ones -/
inductive KitV (K : Frag) (H : Hp) (Ca : Addr) : V → Bool → Prop where
  | own {D : Addr} {b : Bool} (e : kitOne K (.ref Ca) (.ref D) = some b) : KitV K H Ca (.ref D) b
  | ty {T : String} {b : Bool} (e : kitOne K (.ref Ca) (.type T) = some b) : KitV K H Ca (.ty T) b
  | tup {p : Addr} {ds : List Addr} {b : Bool} (h : H p = some (.tup (ds.map V.ref))) (e : kitAny K (.ref Ca) (ds.map Value.ref) = some b) : KitV K H Ca (.ref p) b
theorem vals_refs : ∀ {ds : List Addr} {us : List Value}, Vals (ds.map V.ref) us → us = ds.map Value.ref
  | [], _, .nil => rfl
  | d :: ds, u :: us, .cons r t => by
    have e : u = Value.ref d := r
    rw [e, vals_refs t]; rfl
theorem call_isx {X : Cx} {K : Frag} {ea Ca : Addr} {oe : Obj} (hm : (ea, oe) ∈ X.pn) (hc : oe.cls = .ref Ca) (hK : X.K = K := by rfl) :
    CallR X (.builtin "isinstance") (fun xs H Q => ∃ c b, xs = [.ref ea, c] ∧ XCls K Ca ∧ KitV K H Ca c b ∧ Q (.bl b) H) := by
  subst hK
  intro pins s σ H xs us Q I r h
  obtain ⟨c, b, rfl, C, kv, q⟩ := h
  have IA : ExAt ea Ca s.heap := ⟨oe, (I.pin _ (List.mem_append_left _ hm)).1, hc⟩
  cases r with
  | cons r1 r2 =>
    cases r2 with
    | cons r3 r4 =>
      cases r4
      cases (show _ = Value.ref ea from r1)
      cases kv with
      | own e =>
        cases (show _ = Value.ref _ from r3)
        exact kia_one (kitx_exc C) I.kIn IA e (fun z => nomatch z) fun tk => ⟨.bl b, H, I.tok tk, rfl, q⟩
      | ty e =>
        cases (show _ = Value.type _ from r3)
        exact kia_one (kitx_exc C) I.kIn IA e (fun z => nomatch z) fun tk => ⟨.bl b, H, I.tok tk, rfl, q⟩
      | @tup p ds b hp e =>
        cases (show _ = Value.ref _ from r3)
        obtain ⟨hz, us, r', o, ho, hcl, n, hd⟩ := (show ObjOk X.prog X.w H s.heap p (.tup (ds.map V.ref)) from I.hok p _ hp)
        obtain ⟨oc, od, oda, osl⟩ := o
        dsimp only at hcl hd
        subst hcl
        subst hd
        rw [vals_refs r'] at ho
        exact kia_tup (kitx_exc C) I.kIn IA ho e (fun z => nomatch z) fun tk => ⟨.bl b, H, I.tok tk, rfl, q⟩
/-- the def x keeps its promise sp, errors among it -/
structure CallOkE (P : Program) (w : World) (K : PySem.W.Frag) (mg : Str → Option Value) (base : Heap) (x : Str) (k : Nat) (sp : Sp) : Prop where
  ex : ∃ f fd ps, FnOk P w K mg base (CXe P w) k f fd ps sp ∧ mg x = some (.ref f) ∧ PySem.W.keepIn K (.ref f) = true ∧ Binds K fd ps []
theorem CallOkE.mono {P : Program} {w : World} {K : PySem.W.Frag} {mg : Str → Option Value} {base : Heap} {x : Str} {j k : Nat} {sp : Sp} (h : CallOkE P w K mg base x j sp) (hk : j ≤ k) : CallOkE P w K mg base x k sp :=
  let ⟨f, fd, ps, F, a, b, c⟩ := h.ex
  ⟨f, fd, ps, F.mono hk, a, b, c⟩
theorem CallOkE.imp {P : Program} {w : World} {K : PySem.W.Frag} {mg : Str → Option Value} {base : Heap} {x : Str} {k : Nat} {sp sp' : Sp} (h : CallOkE P w K mg base x k sp) (hi : ∀ vs H Q E, sp' vs H Q E → sp vs H Q E) : CallOkE P w K mg base x k sp' :=
  let ⟨f, fd, ps, F, a, b, c⟩ := h.ex
  ⟨f, fd, ps, F.imp hi, a, b, c⟩
theorem call_ofE {P : Program} {w : World} {K : PySem.W.Frag} {mg : Str → Option Value} {base : Heap} {x : Str} {st : Stmt} {N ps : List Str} {k : Nat} {sp : Sp} (D : DefAt K mg x st) (S : FnScope N ps (defScope st))
    (hb : ∀ (kV doc pm : Value) (an : Option Addr) (cdv ct : Value) (us : List Value), us.length = ps.length → bindArgs (PySem.W.fnOf x x (defArgs st) (defBody st) (defScope st) .none kV doc pm an cdv ct) ⟨us, []⟩ = pure (ps.zip us))
    (len : ∀ vs H Q E, sp vs H Q E → vs.length = ps.length)
    (hbody : ∀ (f : Addr) (cdv : Value) (A : Around) (outer : List Env) (s : Shared) (H : Hp) (vs : List V) (Q : VK) (E : XK), Room k (A.deeper (envOfC x (defScope st) s.heap.objs.size f cdv)) → sp vs H Q E →
      ∃ t, PSs (cxOf (CXe P w) P w K mg base N x (defScope st) f cdv A outer s H E) (defBody st) t ∧ t { nx := fun _ H' => Q .non H', rt := Q } (start N vs) H) : CallOkE P w K mg base x (k + 1) sp := by
  obtain ⟨f, fd, F, m⟩ := D.ex
  have FB := F.binds hb
  have kp := F.kp
  obtain ⟨oc, od, kV, doc, pm, an, cdv, ct, osl, rfl, lk, hcd⟩ := F.ex
  exact ⟨f, _, ps, fn_of lk hcd S len (hbody f cdv), m, kp, FB⟩
section
variable {X : Cx} {x : Str} {k : Nat} {sp : Sp} {e : Expr} {es : List Expr} {t : TA} {p pos : Pos} {E : XK}
theorem pass_none : Passes (CXe X.prog X.w) X E0 := fun _ _ _ _ _ _ _ q => by
  obtain ⟨ea, t, C, vs, B, H', _, _, z⟩ := q
  exact z.elim
theorem pe_callE (h : CallOkE X.prog X.w X.K X.mg X.base x k sp) (hr : Room k X.A) (hx : Passes (CXe X.prog X.w) X E) (ha : PA X (e :: es) t) (hg : Gl X x := by rfl)
    (hdb : (x == ("__debug__" : Str)) = false := by decide) (he : starEach (e :: es) X.env = (false, eval e X.env) :: starEach es X.env := by rfl) (hpl : (backTo pos (starEach es X.env)).any (·.1) = false := by rfl) :
    PE X (.Call (.Name x p) (e :: es) [] pos) (tCall sp [] E t) := by
  obtain ⟨f, fd, ps, F, a, b, c⟩ := h.ex
  exact pe_call F hr hg a b c .nil hx ha hdb he hpl
end
/-! ### what isinstance answers, by the mro -/
theorem cls_of_mro {K : Frag} {C : Addr} {b : Value} {r : Bool} (e : mroIn K C b = some r) : (clsIn K C).isSome = true := by
  unfold mroIn at e
  cases h : clsIn K C with
  | none => rw [h] at e; cases e
  | some cd => rfl
theorem kit_self (K : Frag) (a : Addr) : kitOne K (.ref a) (.ref a) = some true := by
  unfold kitOne
  rw [if_pos (beq_self_eq_true _)]
theorem kit_ty {K : Frag} {a : Addr} {T : String} {r : Bool} (hm : kitMeta T = true) (h : mroIn K a (.type T) = some r) : kitOne K (.ref a) (.type T) = some r := by
  unfold kitOne
  rw [if_neg (fun q => by cases beq_iff_eq.mp q)]
  show (if kitMeta T = true then subIn K (.ref a) (.type T) else none) = some r
  rw [if_pos hm]
  exact h
theorem kit_own {K : Frag} {a c : Addr} {r : Bool} (hne : a ≠ c) (ht : typeIn K (.ref c) = some (.type "type")) (hc : (clsIn K c).isSome = true) (h : mroIn K a (.ref c) = some r) : kitOne K (.ref a) (.ref c) = some r := by
  unfold kitOne
  rw [if_neg (fun q => hne (by cases beq_iff_eq.mp q; rfl))]
  show (if ((clsIn K c).isSome && typeIn K (.ref c) == some (.type "type")) = true then subIn K (.ref a) (.ref c) else none) = some r
  rw [if_pos (by rw [hc, ht]; decide)]
  exact h
theorem kit_no {K : Frag} {t c : Value} {cs : List Value} {r : Option Bool} (h : kitOne K t c = some false) (hs : kitAny K t cs = r) : kitAny K t (c :: cs) = r := by
  unfold kitAny
  rw [h]
  exact hs
theorem kit_yes {K : Frag} {t c : Value} {cs : List Value} (h : kitOne K t c = some true) : kitAny K t (c :: cs) = some true := by
  unfold kitAny
  rw [h]
end L2

set_option maxRecDepth 100000
namespace L2
open PySem PySem.Spec PyProof.Rows PySem.W
mutual
/-- a value, read to its depth -/
inductive DV (K : Frag) (H : Hp) : V → PyData → Prop
  | non : DV K H .non .none
  | bl (b : Bool) : DV K H (.bl b) (.bool b)
  | int (i : Int) : DV K H (.int i) (.int i)
  | str (x : Str) : DV K H (.str x) (.str x)
  | lst {a : Addr} {xs : List V} {ds : List PyData} (h : SqL K H a xs) (hs : DVs K H xs ds) : DV K H (.ref a) (.list ds)
  | tup {a : Addr} {xs : List V} {ds : List PyData} (h : SqT K H a xs) (hs : DVs K H xs ds) : DV K H (.ref a) (.tuple ds)
inductive DVs (K : Frag) (H : Hp) : List V → List PyData → Prop
  | nil : DVs K H [] []
  | cons {v : V} {d : PyData} {vs : List V} {ds : List PyData} (h : DV K H v d) (hs : DVs K H vs ds) : DVs K H (v :: vs) (d :: ds)
end
section
variable {X : Cx} {pins : List (Addr × Obj)} {σ : St} {H : Hp} {s : Shared}
mutual
theorem DV.reads (I : Inv X pins σ H s) : ∀ {v : V} {d : PyData} {u : Value}, DV X.K H v d → RelV v u → ∃ as, Reads s.heap u d as
  | _, _, _, .non, r => by cases r; exact ⟨_, .none⟩
  | _, _, _, .bl b, r => by cases r; exact ⟨_, .bool b⟩
  | _, _, _, .int i, r => by obtain ⟨t, rfl⟩ := r; exact ⟨_, .int i t⟩
  | _, _, _, .str x, r => by obtain ⟨t, rfl⟩ := r; exact ⟨_, .str x t⟩
  | _, _, _, .lst h hs, r => by
    cases r
    obtain ⟨its, r', ⟨o, n, e, hc, hd, hq⟩, _⟩ := I.list h
    obtain ⟨as, ra⟩ := DVs.reads I hs r'
    exact ⟨_, .list e hc hq (by simpa using ra)⟩
  | _, _, _, .tup h hs, r => by
    cases r
    obtain ⟨its, r', ⟨o, e, hc, n, hq⟩, _⟩ := I.tuple h
    obtain ⟨as, ra⟩ := DVs.reads I hs r'
    exact ⟨_, .tuple e hc hq (by simpa using ra)⟩
theorem DVs.reads (I : Inv X pins σ H s) : ∀ {vs : List V} {ds : List PyData} {us : List Value}, DVs X.K H vs ds → Vals vs us → ∃ as, ReadsAll s.heap us ds as
  | _, _, _, .nil, r => by cases r; exact ⟨_, .nil⟩
  | _, _, _, .cons h hs, r => by
    cases r with
    | cons r1 r2 =>
      obtain ⟨as, ra⟩ := DV.reads I h r1
      obtain ⟨bs, rb⟩ := DVs.reads I hs r2
      exact ⟨_, .cons ra rb⟩
end
/-- == and != of values read to their depth -/
def rEqD (K : Frag) (neg : Bool) : R2 := fun x y H Q => ∃ da db, DV K H x da ∧ DV K H y db ∧ (da.canLay0 = true ∧ db.canLay0 = true ∧ da.depth ≤ 100) ∧ Q (.bl (if neg then !PyData.eqv da db else PyData.eqv da db)) H
theorem op_eqD (hu : X.A.units + 200 < cLine) : OpR X (compareOp .Eq) (rEqD X.K false) := by
  intro pins s σ H x y v u Q I rx ry h
  obtain ⟨da, db, hx, hy, ⟨ca, cb, hd⟩, q⟩ := h
  obtain ⟨as, ra⟩ := hx.reads I rx
  obtain ⟨bs, rb⟩ := hy.reads I ry
  exact SeqAt.eqOverData _ _ _ _ _ _ _ _ _ _ _ _ ra rb ca cb (by omega) ⟨.bl _, H, I, rfl, q⟩
theorem op_neD (hu : X.A.units + 200 < cLine) : OpR X (compareOp .NotEq) (rEqD X.K true) := by
  intro pins s σ H x y v u Q I rx ry h
  obtain ⟨da, db, hx, hy, ⟨ca, cb, hd⟩, q⟩ := h
  obtain ⟨as, ra⟩ := hx.reads I rx
  obtain ⟨bs, rb⟩ := hy.reads I ry
  exact SeqAt.neOverData _ _ _ _ _ _ _ _ _ _ _ _ ra rb ca cb (by omega) ⟨.bl _, H, I, rfl, q⟩
theorem hu2 {A : Around} {k : Nat} (hr : Room k A) : A.units + 200 < cLine := by have := hr.un; omega
end
end L2

set_option maxRecDepth 100000
namespace L2
open PySem PySem.Spec PyProof.Rows
theorem vals_bls : ∀ {bs : List Bool} {us : List Value}, Vals (bs.map V.bl) us → us = bs.map Value.bool
  | [], _, .nil => rfl
  | b :: bs, u :: us, .cons r t => by
    have e : u = Value.bool b := r
    rw [e, vals_bls t]; rfl
theorem vals_intsA : ∀ {ns : List Int} {us : List Value}, Vals (ns.map V.int) us → IntsAre us ns
  | [], _, .nil => .nil
  | n :: ns, u :: us, .cons r t => by
    obtain ⟨tk, e⟩ := (show ∃ tk, u = Value.int n tk from r)
    rw [e]; exact .cons n tk (vals_intsA t)
theorem range_all {bs : List Bool} : (List.range bs.length).all (fun i => bs.getD i false) = bs.all id := by
  induction bs with
  | nil => rfl
  | cons b bs ih =>
    rw [List.length_cons, List.range_succ_eq_map, List.all_cons, List.all_map, List.all_cons, ← ih]
    rfl
theorem range_any {bs : List Bool} : (List.range bs.length).any (fun i => bs.getD i false) = bs.any id := by
  induction bs with
  | nil => rfl
  | cons b bs ih =>
    rw [List.length_cons, List.range_succ_eq_map, List.any_cons, List.any_map, List.any_cons, ← ih]
    rfl
section
variable {X : Cx}
theorem truth_bls {prog : Program} {w : World} {A : Around} {bs : List Bool} : TruthOf prog w A (fun i v => (bs.map Value.bool).toArray[i]? = some v) (fun i => bs.getD i false) := fun i v s Q E hP hQ => by
  have e : (bs.map Value.bool)[i]? = some v := by simpa using hP
  rw [List.getElem?_map] at e
  cases hb : bs[i]? with
  | none => rw [hb] at e; cases e
  | some b =>
    rw [hb] at e
    cases e
    have : bs.getD i false = b := by rw [List.getD_eq_getElem?_getD, hb]; rfl
    dsimp only at hQ
    rw [this] at hQ
    exact wpAny_pure hQ
theorem call_all (hc : X.calm = true) : CallR X (.builtin "all") (fun xs H Q => ∃ (p : Addr) (bs : List Bool), xs = [.ref p] ∧ SqL X.K H p (bs.map V.bl) ∧ Q (.bl (bs.all id)) H) := by
  intro pins s σ H xs us Q I r h
  obtain ⟨p, bs, rfl, hS, q⟩ := h
  obtain ⟨u, rfl, rx⟩ := vals1 r
  cases rx
  obtain ⟨its, rv, pl, hz⟩ := I.list hS
  have e := vals_bls rv
  subst e
  have hlt : p < s.heap.objs.size := by obtain ⟨_, e, _⟩ := pl.isList; exact Heap.lt_size e
  refine call_all_walk (wpAny_pyIter_list pl.isList ⟨s.heap.objs.size, _, _, _, _, _, fun i => bs.getD i false, rfl, Walks.list (A := X.A.in1) (I.ok.hd hc) _ p (Nat.ne_of_lt hlt) _, ⟨⟨_, Heap.get?_push_size _ rfl, rfl, rfl⟩, pl.isList.push _⟩, truth_bls, fun h' tk hk => ?_⟩)
  refine ⟨.bl _, H, I.kept (t' := tk) (fun b o e => hk b o ?_ (Heap.get?_push_of_some _ e)), rfl, ?_⟩
  · intro hm
    have := Heap.lt_size e
    have z : b = s.heap.objs.size := by simpa using hm
    rw [z] at this
    exact Nat.lt_irrefl _ this
  · rw [← range_all] at q
    simpa using q
theorem call_any (hc : X.calm = true) : CallR X (.builtin "any") (fun xs H Q => ∃ (p : Addr) (bs : List Bool), xs = [.ref p] ∧ SqL X.K H p (bs.map V.bl) ∧ Q (.bl (bs.any id)) H) := by
  intro pins s σ H xs us Q I r h
  obtain ⟨p, bs, rfl, hS, q⟩ := h
  obtain ⟨u, rfl, rx⟩ := vals1 r
  cases rx
  obtain ⟨its, rv, pl, hz⟩ := I.list hS
  have e := vals_bls rv
  subst e
  have hlt : p < s.heap.objs.size := by obtain ⟨_, e, _⟩ := pl.isList; exact Heap.lt_size e
  refine call_any_walk (wpAny_pyIter_list pl.isList ⟨s.heap.objs.size, _, _, _, _, _, fun i => bs.getD i false, rfl, Walks.list (A := X.A.in1) (I.ok.hd hc) _ p (Nat.ne_of_lt hlt) _, ⟨⟨_, Heap.get?_push_size _ rfl, rfl, rfl⟩, pl.isList.push _⟩, truth_bls, fun h' tk hk => ?_⟩)
  refine ⟨.bl _, H, I.kept (t' := tk) (fun b o e => hk b o ?_ (Heap.get?_push_of_some _ e)), rfl, ?_⟩
  · intro hm
    have := Heap.lt_size e
    have z : b = s.heap.objs.size := by simpa using hm
    rw [z] at this
    exact Nat.lt_irrefl _ this
  · rw [← range_any] at q
    simpa using q
theorem call_sum (hc : X.calm = true) : CallR X (.builtin "sum") (fun xs H Q => ∃ (p : Addr) (ns : List Int), xs = [.ref p] ∧ SqL X.K H p (ns.map V.int) ∧ Q (.int ns.sum) H) := by
  intro pins s σ H xs us Q I r h
  obtain ⟨p, ns, rfl, hS, q⟩ := h
  obtain ⟨u, rfl, rx⟩ := vals1 r
  cases rx
  obtain ⟨its, rv, pl, hz⟩ := I.list hS
  have hi := vals_intsA rv
  obtain ⟨xs, e⟩ := hi.allInts.items
  have hl := pl.isList
  rw [e] at hl
  refine sum_intListG (I.ok.hd hc) hl fun h' tk t' hk => ⟨.int ns.sum, H, I.kept (t' := tk) hk, ⟨t', ?_⟩, q⟩
  rw [preSum_eq, List.take_of_length_le (by simp), ← nums_intItems, ← e, show its.toArray.toList = its from rfl, hi.numsOf]
theorem bt_all : bootBuiltins "all" = some (.builtin "all") := by decide +kernel
theorem bt_any : bootBuiltins "any" = some (.builtin "any") := by decide +kernel
theorem bt_sum : bootBuiltins "sum" = some (.builtin "sum") := by decide +kernel
end
end L2

set_option maxRecDepth 100000
namespace L2
open PySem PySem.Spec PyProof.Rows
/-- a list (or, where b, a tuple) at l, and an iterator over it that has told k items -/
def SeqAt' (b : Bool) (h : Heap) (l : Addr) (xs : Array Value) : Prop := if b = true then h.IsTuple l xs else h.IsList l xs
def ItAt (b : Bool) (h : Heap) (it l : Addr) (k : Nat) : Prop := if b = true then h.IsTupleIter it l k else h.IsListIter it l k
def itName (b : Bool) : String := if b = true then "tuple_iterator" else "list_iterator"
theorem ItAt.look {b : Bool} {h : Heap} {it l : Addr} {k : Nat} (x : ItAt b h it l k) : ∃ o, h.get? it = some o ∧ o.cls = .type (itName b) ∧ o.data = .fields #[.ref l, .int k 0] := by
  cases b with
  | true => exact (show h.IsTupleIter it l k from x)
  | false => exact (show h.IsListIter it l k from x)
theorem ItAt.of {b : Bool} {h : Heap} {it l : Addr} {k : Nat} (x : ∃ o, h.get? it = some o ∧ o.cls = .type (itName b) ∧ o.data = .fields #[.ref l, .int k 0]) : ItAt b h it l k := by
  cases b with
  | true => exact x
  | false => exact x
theorem ItAt.to {b : Bool} {h h' : Heap} {it l : Addr} {k : Nat} (x : ItAt b h it l k) (e : ∀ o, h.get? it = some o → h'.get? it = some o) : ItAt b h' it l k := by
  obtain ⟨o, ho, q⟩ := x.look
  exact .of ⟨o, e o ho, q⟩
theorem SeqAt'.look {b : Bool} {h : Heap} {l : Addr} {xs : Array Value} (x : SeqAt' b h l xs) : ∃ o n, h.get? l = some o ∧ o.data = .seq xs n := by
  cases b with
  | true => obtain ⟨o, ho, _, n, hd⟩ := (show h.IsTuple l xs from x); exact ⟨o, n, ho, hd⟩
  | false => obtain ⟨o, ho, _, n, hd⟩ := (show h.IsList l xs from x); exact ⟨o, n, ho, hd⟩
theorem SeqAt'.to {b : Bool} {h h' : Heap} {l : Addr} {xs : Array Value} (x : SeqAt' b h l xs) (e : ∀ o, h.get? l = some o → h'.get? l = some o) : SeqAt' b h' l xs := by
  cases b with
  | true => obtain ⟨o, ho, q⟩ := (show h.IsTuple l xs from x); exact ⟨o, e o ho, q⟩
  | false => obtain ⟨o, ho, q⟩ := (show h.IsList l xs from x); exact ⟨o, e o ho, q⟩
section
variable {prog : Program} {w : World} {A : Around} {E : Value → Shared → Prop} {s : Shared}
theorem nextTup {it l : Addr} {k : Nat} {xs : Array Value} {Q : Value → Shared → Prop} (hi : s.heap.IsTupleIter it l k) (hl : s.heap.IsTuple l xs)
    (h1 : ∀ x h', xs[k]? = some x → h'.IsTupleIter it l (k + 1) → Heap.SameBut it s.heap h' → Q x { s with heap := h' })
    (h2 : xs[k]? = none → A.handled = none ∧ ∀ h' e, Heap.ExtBut it s.heap h' → (∃ o, h'.get? e = some o ∧ o.cls = .type "StopIteration") → E (.ref e) { s with heap := h' }) :
    wpAny (model prog w) A (Builtin.SmallTypes.nextOf (.ref it)) Q E s := by
  obtain ⟨oi, gi, ci, di⟩ := id hi
  obtain ⟨ol, gl, _, n, dl⟩ := hl
  unfold Builtin.SmallTypes.nextOf
  refine wpAny_bind (wpAny_callSpecial?_slot (name := Str.ofString "__next__") hi.typeIs F.slot_tuple_iterator_next (wpAny_call_entry F.slot_tuple_iterator_next hi.typeIs F.entry_tuple_iterator_next ?_ (F.args_tuple_iterator_next_1 _)))
  show wpAny _ _ (field (.ref it) 0 >>= _) _ _ s
  refine wpAny_bind (wpAny_field gi di (x := .ref l) rfl ?_)
  show wpAny _ _ (if (Value.ref l == Value.none) = true then _ else field (.ref it) 1 >>= _) _ _ s
  have ne : (Value.ref l == Value.none) = false := rfl
  simp only [ne, Bool.false_eq_true, if_false]
  refine wpAny_bind (wpAny_field gi di (x := .int k 0) rfl (wpAny_bind (wpAny_seqItems gl dl ?_)))
  cases hx : xs[k]? with
  | some x =>
    simp only [Int.toNat_natCast, hx]
    refine wpAny_bind (wpAny_setField gi di (by simp) (wpAny_pure ⟨x, rfl, wpAny_pure (h1 x _ hx ?_ (Heap.SameBut.update ..))⟩))
    refine ⟨_, Heap.get?_update_self _ gi (Obj.isFreed_of_fields (Obj.data_mapFields di _)), (Obj.cls_mapFields ..).trans ci, ?_⟩
    rw [Obj.data_mapFields di]
    simp [rawInt]
  | none =>
    obtain ⟨hh, h2⟩ := h2 hx
    simp only [Int.toNat_natCast, hx]
    refine wpAny_bind (wpAny_rule (wpAny_bind (wpAny_setField gi di (by simp) ?_)))
    show wpAny _ _ (newExc (.type "StopIteration") [] >>= _) _ _ _
    simp only [newExc, newTuple]
    refine wpAny_bind (wpAny_bind (wpAny_newObj_type (wpAny_bind (m := firstArgMember _ _) (wpAny_of_eq (a := Value.none) (by first | rfl | (simp only [firstArgMember]; rfl)) (wpAny_newObj_type ?_ (by size_fits)))) (by size_fits)))
    simp only [raiseNew]
    refine wpAny_bind (wpAny_handled ?_)
    rw [show A.in1.handled = none from hh]
    refine wpAny_bind (wpAny_pure (wpAny_throw ?_))
    exact h2 _ _ (((Heap.SameBut.update ..).extBut.push _).push _) ⟨_, Heap.get?_push_size _ rfl, rfl⟩
theorem next_seq {b : Bool} {it l : Addr} {k : Nat} {xs : Array Value} {Q : Value → Shared → Prop} (hi : ItAt b s.heap it l k) (hl : SeqAt' b s.heap l xs)
    (h1 : ∀ x h', xs[k]? = some x → ItAt b h' it l (k + 1) → Heap.SameBut it s.heap h' → Q x { s with heap := h' })
    (h2 : xs[k]? = none → A.handled = none ∧ ∀ h' e, Heap.ExtBut it s.heap h' → (∃ o, h'.get? e = some o ∧ o.cls = .type "StopIteration") → E (.ref e) { s with heap := h' }) :
    wpAny (model prog w) A (Builtin.SmallTypes.nextOf (.ref it)) Q E s := by
  cases b with
  | true => exact nextTup hi hl h1 h2
  | false =>
    have hi' : s.heap.IsListIter it l k := hi
    have hl' : s.heap.IsList l xs := hl
    cases hx : xs[k]? with
    | some x => exact wpAny_nextOf_list_item hi' hl' hx fun h' a b => h1 x h' hx a b
    | none => obtain ⟨hh, h2⟩ := h2 hx; exact wpAny_nextOf_list_end hh hi' hl' hx h2
/-- one turn of zip over two sequences, each a list or a tuple -/
theorem zip_turn {b1 b2 : Bool} {z TI TO i1 i2 l1 l2 : Addr} {k : Nat} {xs ys : Array Value} {a b : Value} {Q : Value → Shared → Prop} (D : ZipApart z TI TO i1 i2 l1 l2)
    (hz : IsZip s.heap z TI TO .none) (hTI : IsPair s.heap TI (.ref i1) (.ref i2)) (hTO : IsPair s.heap TO a b)
    (h1 : ItAt b1 s.heap i1 l1 k) (h2 : ItAt b2 s.heap i2 l2 k) (hl1 : SeqAt' b1 s.heap l1 xs) (hl2 : SeqAt' b2 s.heap l2 ys)
    (yes : ∀ x y h', xs[k]? = some x → ys[k]? = some y → IsZip h' z TI TO (rawInt s.heap.objs.size) → IsPair h' TO x y → ItAt b1 h' i1 l1 (k + 1) → ItAt b2 h' i2 l2 (k + 1) → IsPair h' s.heap.objs.size x y → h'.objs.size = s.heap.objs.size + 1 →
      (∀ c o, c ≠ z → c ≠ TO → c ≠ i1 → c ≠ i2 → s.heap.get? c = some o → h'.get? c = some o) → Q (.ref s.heap.objs.size) { s with heap := h' })
    (no : xs[k]? = none ∨ ys[k]? = none → A.handled = none ∧ ∀ h' e, (∀ c o, c ≠ z → c ≠ TO → c ≠ i1 → c ≠ i2 → s.heap.get? c = some o → h'.get? c = some o) → (∃ o, h'.get? e = some o ∧ o.cls = .type "StopIteration") → E (.ref e) { s with heap := h' }) :
    wpAny (model prog w) A (Builtin.«zip.__next__» ⟨[.ref z], []⟩) (fun fin s' => ∃ v, fin = .done (.ret v) ∧ Q v s') E s := by
  have notZ : ∀ {h : Heap} {e : Addr} {oe : Obj} {f : Value}, IsZip h z TI TO f → h.get? e = some oe → oe.cls = .type "StopIteration" → e ≠ z := fun {h e oe f} q ge ce u => by
    subst u; rw [q] at ge; cases ge; simp at ce
  show wpAny _ _ (field (.ref z) 2 >>= fun _ => _) _ _ _
  refine wpAny_bind (wpAny_field hz rfl (x := .bool false) rfl ?_)
  show wpAny _ _ (field (.ref z) 3 >>= fun _ => _) _ _ _
  refine wpAny_bind (wpAny_field hz rfl (x := .ref TI) rfl (wpAny_bind (wpAny_seqItems hTI rfl ?_)))
  show wpAny _ _ (Builtin.SmallTypes.ownedTupleIsFree (.ref z) >>= fun _ => _) _ _ _
  unfold Builtin.SmallTypes.ownedTupleIsFree
  refine wpAny_bind (wpAny_bind (wpAny_field hz rfl (x := .none) rfl (wpAny_pure ?_)))
  simp only [if_true]
  refine wpAny_bind (wpAny_rule (wpAny_bind (wpAny_field hz rfl (x := .ref TO) rfl (wpAny_bind (wpAny_setField_rec hz (by simp) fun g1 y1 k1 => ?_)))))
  have z1 : IsZip g1 z TI TO .ellipsis := y1
  simp only [List.zipIdx_cons, List.zipIdx_nil, List.forIn_cons, List.forIn_nil]
  refine wpAny_bind (wpAny_bind (wpAny_bind (wpAny_onRaise ?_)))
  show wpAny _ _ (Builtin.SmallTypes.nextOf (.ref i1) >>= fun _ => _) _ _ _
  refine wpAny_bind (next_seq (h1.to fun o e => k1.extBut _ _ D.i1z e) (hl1.to fun o e => k1.extBut _ _ D.l1z e) (fun x g2 hx t2 k2 => wpAny_pure ?_) (fun hx => ⟨(no (.inl hx)).1, fun g2 e k2 ⟨oe, ge, ce⟩ => ?_⟩))
  · have p2 : IsPair g2 TO a b := k2.extBut _ _ D.TOi1 (k1.extBut _ _ D.TOz hTO)
    refine wpAny_bind (wpAny_seqItems p2 rfl (wpAny_bind (wpAny_updateSeq_pair p2 fun g3 q3 k3 => ?_)))
    have p3 : IsPair g3 TO x b := q3
    refine wpAny_bind (wpAny_letGo (wpAny_pure (wpAny_bind (wpAny_bind (wpAny_onRaise ?_)))))
    show wpAny _ _ (Builtin.SmallTypes.nextOf (.ref i2) >>= fun _ => _) _ _ _
    have to3 : ∀ c o, c ≠ z → c ≠ i1 → c ≠ TO → s.heap.get? c = some o → g3.get? c = some o := fun c o c1 c2 c3 e => k3.extBut _ _ c3 (k2.extBut _ _ c2 (k1.extBut _ _ c1 e))
    refine wpAny_bind (next_seq (h2.to fun o e => to3 _ o D.i2z D.i12.symm D.TOi2.symm e) (hl2.to fun o e => to3 _ o D.l2z D.l2i1 D.l2TO e) (fun y g4 hy t4 k4 => wpAny_pure ?_) (fun hy => ⟨(no (.inr hy)).1, fun g4 e k4 ⟨oe, ge, ce⟩ => ?_⟩))
    · have p4 : IsPair g4 TO x b := k4.extBut _ _ D.TOi2 p3
      refine wpAny_bind (wpAny_seqItems p4 rfl (wpAny_bind (wpAny_updateSeq_pair p4 fun g5 q5 k5 => ?_)))
      have p5 : IsPair g5 TO x y := q5
      refine wpAny_bind (wpAny_letGo (wpAny_pure (wpAny_pure (wpAny_bind (wpAny_seqItems p5 rfl (wpAny_bind (wpAny_newTuple ?_)))))))
      have sz : g5.objs.size = s.heap.objs.size := by rw [k5.1, k4.1, k3.1, k2.1, k1.1]
      have z5 : IsZip g5 z TI TO .ellipsis := k5.extBut _ _ D.TOz.symm (k4.extBut _ _ D.i2z.symm (k3.extBut _ _ D.TOz.symm (k2.extBut _ _ D.i1z.symm z1)))
      have to5 : ∀ c o, c ≠ z → c ≠ TO → c ≠ i1 → c ≠ i2 → s.heap.get? c = some o → g5.get? c = some o := fun c o c1 c2 c3 c4 e => k5.extBut _ _ c2 (k4.extBut _ _ c4 (to3 c o c1 c3 c2 e))
      show wpAny _ _ (Builtin.SmallTypes.ownedTupleHandOut (.ref z) (.ref g5.objs.size) >>= fun _ => _) _ _ _
      unfold Builtin.SmallTypes.ownedTupleHandOut
      refine wpAny_bind (wpAny_bind (wpAny_setField_rec (show IsZip (g5.push { cls := .type "tuple", data := .seq #[x, y] }) z TI TO .ellipsis from Heap.get?_push_of_some _ z5) (by simp) fun g7 y7 k7 => ?_))
      have z7 : IsZip g7 z TI TO (rawInt g5.objs.size) := y7
      refine wpAny_setField_rec z7 (by simp) fun g8 y8 k8 => ?_
      have z8 : IsZip g8 z TI TO (rawInt g5.objs.size) := y8
      have up : ∀ c o, c ≠ z → (g5.push { cls := .type "tuple", data := .seq #[x, y] }).get? c = some o → g8.get? c = some o := fun c o c1 e => k8.extBut _ _ c1 (k7.extBut _ _ c1 e)
      have up5 : ∀ c o, c ≠ z → g5.get? c = some o → g8.get? c = some o := fun c o c1 e => up c o c1 (Heap.get?_push_of_some _ e)
      have p8 : IsPair g8 g5.objs.size x y := up _ _ (Nat.ne_of_gt (Heap.lt_size z5)) (Heap.get?_push_size _ rfl)
      have s8 : g8.objs.size = g5.objs.size + 1 := by rw [k8.1, k7.1, Heap.size_push]
      rw [sz] at z8 p8 s8
      refine wpAny_pure ⟨_, rfl, ?_⟩
      show Q (.ref g5.objs.size) { s with heap := g8 }
      rw [sz]
      have e1 : ItAt b1 g8 i1 l1 (k + 1) := t2.to fun o e => up5 _ o D.i1z (k5.extBut _ _ D.TOi1.symm (k4.extBut _ _ D.i12 (k3.extBut _ _ D.TOi1.symm e)))
      have e2 : ItAt b2 g8 i2 l2 (k + 1) := t4.to fun o e => up5 _ o D.i2z (k5.extBut _ _ D.TOi2.symm e)
      exact yes x y g8 hx hy z8 (up5 _ _ D.TOz p5) e1 e2 p8 s8 fun c o c1 c2 c3 c4 e => up5 c o c1 (to5 c o c1 c2 c3 c4 e)
    · have z4 : IsZip g4 z TI TO .ellipsis := k4 _ _ D.i2z.symm (k3.extBut _ _ D.TOz.symm (k2.extBut _ _ D.i1z.symm z1))
      refine wpAny_setField_rec z4 (by simp) fun g5 _ k5 => (no (.inr hy)).2 g5 e (fun c o c1 c2 c3 c4 q => k5.extBut _ _ c1 (k4 _ _ c4 (to3 c o c1 c3 c2 q))) ⟨oe, k5.extBut _ _ (notZ z4 ge ce) ge, ce⟩
  · have z2 : IsZip g2 z TI TO .ellipsis := k2 _ _ D.i1z.symm z1
    refine wpAny_setField_rec z2 (by simp) fun g3 _ k3 => (no (.inl hx)).2 g3 e (fun c o c1 c2 c3 c4 q => k3.extBut _ _ c1 (k2 _ _ c3 (k1.extBut _ _ c1 q))) ⟨oe, k3.extBut _ _ (notZ z2 ge ce) ge, ce⟩
/-- next of a zip -/
theorem next_zip {b1 b2 : Bool} {z TI TO i1 i2 l1 l2 : Addr} {k : Nat} {xs ys : Array Value} {a b : Value} {Q : Option Value → Shared → Prop} (D : ZipApart z TI TO i1 i2 l1 l2)
    (hz : IsZip s.heap z TI TO .none) (hTI : IsPair s.heap TI (.ref i1) (.ref i2)) (hTO : IsPair s.heap TO a b)
    (h1 : ItAt b1 s.heap i1 l1 k) (h2 : ItAt b2 s.heap i2 l2 k) (hl1 : SeqAt' b1 s.heap l1 xs) (hl2 : SeqAt' b2 s.heap l2 ys)
    (yes : ∀ x y h', xs[k]? = some x → ys[k]? = some y → IsZip h' z TI TO (rawInt s.heap.objs.size) → IsPair h' TO x y → ItAt b1 h' i1 l1 (k + 1) → ItAt b2 h' i2 l2 (k + 1) → IsPair h' s.heap.objs.size x y → h'.objs.size = s.heap.objs.size + 1 →
      (∀ c o, c ≠ z → c ≠ TO → c ≠ i1 → c ≠ i2 → s.heap.get? c = some o → h'.get? c = some o) → Q (some (.ref s.heap.objs.size)) { s with heap := h' })
    (no : xs[k]? = none ∨ ys[k]? = none → A.handled = none ∧ ∀ h', (∀ c o, c ≠ z → c ≠ TO → c ≠ i1 → c ≠ i2 → s.heap.get? c = some o → h'.get? c = some o) → Q none { s with heap := h' }) :
    wpAny (model prog w) A (pyNext (.ref z)) Q E s := by
  have ty : s.TypeIs (.ref z) "zip" := ⟨_, hz, rfl⟩
  unfold pyNext
  refine wpAny_bind (wpAny_attempt (wpAny_callSpecial?_slot (name := Str.ofString "__next__") ty F.slot_zip_next (wpAny_call_entry F.slot_zip_next ty F.entry_zip_next
    (zip_turn D hz hTI hTO h1 h2 hl1 hl2 (fun x y h' u1 u2 u3 u4 u5 u6 u7 u8 u9 => wpAny_pure (yes x y h' u1 u2 u3 u4 u5 u6 u7 u8 u9)) fun q => ⟨(no q).1, fun h' e hk ⟨o, ho, hc⟩ => ?_⟩) (F.args_zip_next_1 _))))
  exact wpAny_bind (wpAny_isInstance (T := "StopIteration") (b := true) ⟨o, ho, hc⟩ isSubtype_stop (wpAny_pure ((no q).2 h' hk)))
theorem iter_seq {b : Bool} {l : Addr} {xs : Array Value} {Q : Value → Shared → Prop} (hl : SeqAt' b s.heap l xs)
    (h : Q (.ref s.heap.objs.size) { s with heap := s.heap.push { cls := .type (itName b), data := .fields #[.ref l, .int 0 0] } }) : wpAny (model prog w) A (pyIter (.ref l)) Q E s := by
  cases b with
  | true => exact wpAny_pyIter_tuple (show s.heap.IsTuple l xs from hl) h
  | false => exact wpAny_pyIter_list (show s.heap.IsList l xs from hl) h
end
abbrev zo (b : Bool) (l : Addr) : Obj := { cls := .type (itName b), data := .fields #[.ref l, .int 0 0] }
abbrev zt (x y : Value) : Obj := { cls := .type "tuple", data := .seq #[x, y] }
abbrev zz (p q : Addr) : Obj := { cls := .type "zip", data := .fields #[.none, .bool false, .bool false, .ref p, .ref q] }
/-- the five objects of a zip that was just made -/
abbrev zipHeap (b1 b2 : Bool) (h : Heap) (l1 l2 : Addr) : Heap :=
  ((((h.push (zo b1 l1)).push (zo b2 l2)).push (zt (.ref h.objs.size) (.ref (h.push (zo b1 l1)).objs.size))).push (zt .none .none)).push
    (zz ((h.push (zo b1 l1)).push (zo b2 l2)).objs.size (((h.push (zo b1 l1)).push (zo b2 l2)).push (zt (.ref h.objs.size) (.ref (h.push (zo b1 l1)).objs.size))).objs.size)
section
variable {prog : Program} {w : World} {A : Around} {E : Value → Shared → Prop} {s : Shared}
theorem meets_zip (b1 b2 : Bool) (l1 l2 : Addr) (xs ys : Array Value) : Meets (Builtin.«zip.__new__» ⟨[.type "zip", .ref l1, .ref l2], []⟩) (fun _ R s => SeqAt' b1 s.heap l1 xs ∧ SeqAt' b2 s.heap l2 ys ∧
    R (.ok (.ret (.ref ((((s.heap.push (zo b1 l1)).push (zo b2 l2)).push (zt (.ref s.heap.objs.size) (.ref (s.heap.push (zo b1 l1)).objs.size))).push (zt .none .none)).objs.size))) { s with heap := zipHeap b1 b2 s.heap l1 l2 }) := by
  refine .of_wp fun prog w A R s h => ?_
  obtain ⟨hp, g, d, tk, os⟩ := s
  obtain ⟨a1, a2, hR⟩ := h
  have sz := sub_zip
  have q1 : SeqAt' b1 (Shared.heap ⟨hp, g, d, tk, os⟩) l1 xs := a1
  have q2 : SeqAt' b2 (Shared.heap ⟨hp.push (zo b1 l1), g, d, tk, os⟩) l2 ys := a2.to fun o e => Heap.get?_push_of_some _ e
  wp_walk using iter_seq q1, iter_seq q2
  exact ⟨_, rfl, hR⟩
theorem call_zip {b1 b2 : Bool} {l1 l2 : Addr} {xs ys : Array Value} {Q : Value → Shared → Prop} (hl1 : SeqAt' b1 s.heap l1 xs) (hl2 : SeqAt' b2 s.heap l2 ys)
    (h : ∀ h', IsZip h' (s.heap.objs.size + 4) (s.heap.objs.size + 2) (s.heap.objs.size + 3) .none → IsPair h' (s.heap.objs.size + 2) (.ref s.heap.objs.size) (.ref (s.heap.objs.size + 1)) → IsPair h' (s.heap.objs.size + 3) .none .none →
      ItAt b1 h' s.heap.objs.size l1 0 → ItAt b2 h' (s.heap.objs.size + 1) l2 0 → h'.objs.size = s.heap.objs.size + 5 → (∀ c o, s.heap.get? c = some o → h'.get? c = some o) → Q (.ref (s.heap.objs.size + 4)) { s with heap := h' }) :
    wpAny (model prog w) A (call (.type "zip") [.ref l1, .ref l2]) Q E s := by
  refine callType_new F.called_zip (by decide) (F.typeCall_zip_2 _ _) (F.newCall_zip_2 _ _) (fun obj => F.args_object_init_3 obj _ _) F.entry_zip_new (meets_zip b1 b2 l1 l2 xs ys) ⟨hl1, hl2, ?_⟩
  generalize hn : s.heap.objs.size = n at *
  have n1 : (s.heap.push (zo b1 l1)).objs.size = n + 1 := by rw [Heap.size_push, hn]
  have n2 : ((s.heap.push (zo b1 l1)).push (zo b2 l2)).objs.size = n + 2 := by rw [Heap.size_push, n1]
  generalize hg2 : (s.heap.push (zo b1 l1)).push (zo b2 l2) = g2 at *
  have k2 : ∀ c o, s.heap.get? c = some o → g2.get? c = some o := fun c o e => by rw [← hg2]; exact Heap.get?_push_of_some _ (Heap.get?_push_of_some _ e)
  have t1 : g2.get? n = some (zo b1 l1) := by rw [← hg2, ← hn]; exact Heap.get?_push_of_some _ (Heap.get?_push_size _ rfl)
  have t2 : g2.get? (n + 1) = some (zo b2 l2) := by rw [← hg2, ← n1]; exact Heap.get?_push_size _ rfl
  have n3 : (g2.push (zt (.ref n) (.ref (n + 1)))).objs.size = n + 3 := by rw [Heap.size_push, n2]
  have n4 : ((g2.push (zt (.ref n) (.ref (n + 1)))).push (zt .none .none)).objs.size = n + 4 := by rw [Heap.size_push, n3]
  have eH : zipHeap b1 b2 s.heap l1 l2 = ((g2.push (zt (.ref n) (.ref (n + 1)))).push (zt .none .none)).push (zz (n + 2) (n + 3)) := by
    unfold zipHeap
    rw [hn, n1, hg2, n2, n3]
  rw [eH, n1, n4]
  have p3 : (g2.push (zt (.ref n) (.ref (n + 1)))).get? (n + 2) = some (zt (.ref n) (.ref (n + 1))) := by rw [← n2]; exact Heap.get?_push_size _ rfl
  have p4 : ((g2.push (zt (.ref n) (.ref (n + 1)))).push (zt .none .none)).get? (n + 3) = some (zt .none .none) := by rw [← n3]; exact Heap.get?_push_size _ rfl
  have p5 : (((g2.push (zt (.ref n) (.ref (n + 1)))).push (zt .none .none)).push (zz (n + 2) (n + 3))).get? (n + 4) = some (zz (n + 2) (n + 3)) := by rw [← n4]; exact Heap.get?_push_size _ rfl
  have up : ∀ c o, g2.get? c = some o → (((g2.push (zt (.ref n) (.ref (n + 1)))).push (zt .none .none)).push (zz (n + 2) (n + 3))).get? c = some o := fun c o e => Heap.get?_push_of_some _ (Heap.get?_push_of_some _ (Heap.get?_push_of_some _ e))
  exact ⟨⟨_, p5, rfl⟩, h _ p5 (Heap.get?_push_of_some _ (Heap.get?_push_of_some _ p3)) (Heap.get?_push_of_some _ p4) (.of ⟨_, up _ _ t1, rfl, rfl⟩) (.of ⟨_, up _ _ t2, rfl, rfl⟩) (by rw [Heap.size_push, n4]) fun c o e => up c o (k2 c o e)⟩
end
end L2

set_option maxRecDepth 100000
namespace L2
open PySem PySem.Spec PyProof.Rows
/-- some untracked records of ours have turned -/
theorem Inv.turnedL {X : Cx} {pins : List (Addr × Obj)} {σ : St} {H : Hp} {s : Shared} {h' : Heap} {t' : Nat} {ch : List Addr} (I : Inv X pins σ H s) (k : ∀ b o, b ∉ ch → s.heap.get? b = some o → h'.get? b = some o) (hf : ∀ b ∈ ch, FpOk X pins H b) :
    Inv X pins σ H { s with heap := h', toks := t' } := by
  have nit : ∀ b u, H b = some u → b ∉ ch := fun b u e z => by rw [(hf b z).1] at e; cases e
  refine I.step (g' := s.gens) (d' := s.drawn) (ch := ch) (fun b hb => let ⟨_, f1, _, f3, f4, f5⟩ := hf b hb; ⟨f3, f1, f4, f5⟩) (fun b o _ _ hc e _ => k b o hc e) (fun b o _ _ hc e _ => ⟨o.slots, k b o hc e⟩) (fun _ _ _ _ n => n)
    (fun b o hc e => ⟨o, k b o hc e⟩) (fun _ _ e => e) (fun _ _ _ e => e) (fun b ps e => ⟨#[], by rw [e]; simp⟩) (fun m hm => ?_) (fun b u e => ?_) I.bare
  · obtain ⟨o, es, ep, ho, r⟩ := hm
    exact ⟨o, es, ep, k _ o (fun z => (hf _ z).2.1 rfl) ho, r⟩
  · refine (I.hok b u e).stay (fun c v hc q => k c v ?_ q) (fun _ q => q) fun _ _ q => q
    rcases hc with z | z
    · rw [z]; exact nit b u e
    · exact nit c _ z
def SqB (K : PySem.W.Frag) (H : Hp) (b : Bool) (a : Addr) (xs : List V) : Prop := if b = true then SqT K H a xs else SqL K H a xs
theorem Inv.seqB {X : Cx} {pins : List (Addr × Obj)} {σ : St} {H : Hp} {s : Shared} {b : Bool} {a : Addr} {xs : List V} (I : Inv X pins σ H s) (h : SqB X.K H b a xs) : ∃ its : List Value, Vals xs its ∧ SeqAt' b s.heap a its.toArray ∧ xs.length ≤ sizeLine := by
  cases b with
  | true => obtain ⟨its, r, p, z⟩ := I.tuple (show SqT X.K H a xs from h); exact ⟨its, r, p, z⟩
  | false => obtain ⟨its, r, p, z⟩ := I.list (show SqL X.K H a xs from h); exact ⟨its, r, p.isList, z⟩
theorem Inv.seqB_inj {X : Cx} {pins : List (Addr × Obj)} {σ : St} {H : Hp} {s : Shared} {b : Bool} {a : Addr} {xs ys : List V} (I : Inv X pins σ H s) (h : SqB X.K H b a xs) (h' : SqB X.K H b a ys) : xs = ys := by
  cases b with
  | true => exact I.tuple_inj h h'
  | false => exact I.list_inj h h'
/-- two sequences side by side: a new pair at each turn -/
def Itz (K : PySem.W.Frag) (b1 b2 : Bool) (l1 l2 : Addr) : It :=
  ⟨fun i H => ∃ xs ys x y, SqB K H b1 l1 xs ∧ SqB K H b2 l2 ys ∧ xs[i]? = some x ∧ ys[i]? = some y,
   fun i H v H' => ∃ p x y, v = .ref p ∧ H p = none ∧ H' = upd H p (.tup [x, y]) ∧ (∀ xs, SqB K H b1 l1 xs → xs[i]? = some x) ∧ ∀ ys, SqB K H b2 l2 ys → ys[i]? = some y,
   fun i H => ∃ xs ys, SqB K H b1 l1 xs ∧ SqB K H b2 l2 ys ∧ (xs.length ≤ i ∨ ys.length ≤ i)⟩
theorem turn_zip {P : Program} {w : World} {K : PySem.W.Frag} {elts : List Expr} {x1} {pos : Pos} {b1 b2 : Bool} {z TI TO i1 i2 l1 l2 : Addr} (D : ZipApart z TI TO i1 i2 l1 l2) :
    Turn P w K (.Tuple elts x1 pos) (Itz K b1 b2 l1 l2) [z, TI, TO, i1, i2] z (fun i h => IsZip h z TI TO .none ∧ IsPair h TI (.ref i1) (.ref i2) ∧ (∃ a b, IsPair h TO a b) ∧ ItAt b1 h i1 l1 i ∧ ItAt b2 h i2 l2 i) where
  mem := by simp
  obj := fun i h st b hb => by
    obtain ⟨hz, hTI, ⟨a, c, hTO⟩, h1, h2⟩ := st
    have mem : b = z ∨ b = TI ∨ b = TO ∨ b = i1 ∨ b = i2 := by simpa using hb
    rcases mem with rfl | rfl | rfl | rfl | rfl
    · exact ⟨_, hz, fun v q => by cases q⟩
    · exact ⟨_, hTI, fun v q => by cases q⟩
    · exact ⟨_, hTO, fun v q => by cases q⟩
    · obtain ⟨o, e, _, d⟩ := h1.look; exact ⟨o, e, fun v q => by rw [d] at q; cases q⟩
    · obtain ⟨o, e, _, d⟩ := h2.look; exact ⟨o, e, fun v q => by rw [d] at q; cases q⟩
  keep := fun i h h' st k => by
    obtain ⟨hz, hTI, ⟨a, c, hTO⟩, h1, h2⟩ := st
    exact ⟨k z (by simp) _ hz, k TI (by simp) _ hTI, ⟨a, c, k TO (by simp) _ hTO⟩, h1.to fun o e => k i1 (by simp) o e, h2.to fun o e => k i2 (by simp) o e⟩
  item := by
    intro X hP hw hK hc i pins s σ H E I hf st hg
    subst hP hw hK
    obtain ⟨hz, hTI, ⟨a, c, hTO⟩, h1, h2⟩ := st
    obtain ⟨xs, ys, x, y, q1, q2, e1, e2⟩ := hg
    obtain ⟨us, r1, p1, z1⟩ := I.seqB q1
    obtain ⟨vs, r2, p2, z2⟩ := I.seqB q2
    obtain ⟨u, gu, ru⟩ := r1.get e1
    obtain ⟨v, gv, rv⟩ := r2.get e2
    have FT := I.fpOk (b := s.heap.objs.size) (Nat.le_refl _) (I.hok.fresh (Nat.le_refl _))
    refine next_zip D hz hTI hTO h1 h2 p1 p2 (fun u' v' h' gu' gv' a1 a2 a3 a4 a5 a6 hk => ?_) fun q => ?_
    · have eu : u' = u := by
        have : us[i]? = some u' := by simpa using gu'
        rw [gu] at this; cases this; rfl
      have ev : v' = v := by
        have : vs[i]? = some v' := by simpa using gv'
        rw [gv] at this; cases this; rfl
      subst eu
      subst ev
      refine ⟨_, rfl, wpAny_letOwnedTupleGo_zip a1 fun h'' hz'' sb => ?_⟩
      have zT : s.heap.objs.size ≠ z := Nat.ne_of_gt (Heap.lt_size hz)
      have I1 : Inv X pins σ H { s with heap := h'' } := I.turnedL (t' := s.toks) (ch := [z, TO, i1, i2]) (fun b o hb e => sb.extBut _ _ (fun q => hb (by simp [q])) (hk b o (fun q => hb (by simp [q])) (fun q => hb (by simp [q])) (fun q => hb (by simp [q])) (fun q => hb (by simp [q])) e))
        (fun b hb => hf b (by
          have mem : b = z ∨ b = TO ∨ b = i1 ∨ b = i2 := by simpa using hb
          rcases mem with rfl | rfl | rfl | rfl <;> simp))
      have gT : h''.get? s.heap.objs.size = some { cls := .type "tuple", data := .seq #[u', v'] } := sb.extBut _ _ zT a5
      have I2 : Inv X pins σ (upd H s.heap.objs.size (.tup [x, y])) { s with heap := h'' } := I1.track FT.1 FT.2.2.2.1 FT.2.1 FT.2.2.2.2.1 FT.2.2.2.2.2
        ⟨by show 2 ≤ sizeLine; decide, [u', v'], .cons ru (.cons rv .nil), ⟨_, gT, rfl, _, rfl⟩⟩
      have lt : ∀ {b o}, s.heap.get? b = some o → upd H s.heap.objs.size (.tup [x, y]) b = H b := fun {b o} e => upd_ne (Nat.ne_of_lt (Heap.lt_size e))
      refine ⟨.ref s.heap.objs.size, _, I2, rfl, ⟨_, x, y, rfl, FT.1, rfl, fun xs' h => by rw [I.seqB_inj h q1]; exact e1, fun ys' h => by rw [I.seqB_inj h q2]; exact e2⟩, ?_, fun b hb => ?_⟩
      · have k2 : ∀ c o, c ≠ z → h'.get? c = some o → h''.get? c = some o := fun c o c1 e => sb.extBut _ _ c1 e
        exact ⟨hz'', k2 _ _ D.TIz (hk _ _ D.TIz D.TITO D.TIi1 D.TIi2 hTI), ⟨_, _, k2 _ _ D.TOz a2⟩, a3.to fun o e => k2 _ o D.i1z e, a4.to fun o e => k2 _ o D.i2z e⟩
      · have mem : b = z ∨ b = TI ∨ b = TO ∨ b = i1 ∨ b = i2 := by simpa using hb
        have hn := (hf b hb).1
        obtain ⟨o1, g1, _⟩ := h1.look
        obtain ⟨o2, g2, _⟩ := h2.look
        rcases mem with rfl | rfl | rfl | rfl | rfl
        · rw [lt hz]; exact hn
        · rw [lt hTI]; exact hn
        · rw [lt hTO]; exact hn
        · rw [lt g1]; exact hn
        · rw [lt g2]; exact hn
    · exfalso
      have m1 : us.toArray[i]? = some u := by simpa using gu
      have m2 : vs.toArray[i]? = some v := by simpa using gv
      rcases q with q | q
      · rw [m1] at q; cases q
      · rw [m2] at q; cases q
  done := by
    intro X hP hw hK hc i pins s σ H E I hf st hg
    subst hP hw hK
    obtain ⟨hz, hTI, ⟨a, c, hTO⟩, h1, h2⟩ := st
    obtain ⟨xs, ys, q1, q2, hl⟩ := hg
    obtain ⟨us, r1, p1, z1⟩ := I.seqB q1
    obtain ⟨vs, r2, p2, z2⟩ := I.seqB q2
    have n1 := r1.length
    have n2 := r2.length
    have fpc : ∀ b ∈ [z, TO, i1, i2], FpOk X pins H b := fun b hb => hf b (by
      have mem : b = z ∨ b = TO ∨ b = i1 ∨ b = i2 := by simpa using hb
      rcases mem with rfl | rfl | rfl | rfl <;> simp)
    refine next_zip D hz hTI hTO h1 h2 p1 p2 (fun u' v' h' gu' gv' a1 a2 a3 a4 a5 a6 hk => ?_) fun q => ⟨I.ok.hd hc, fun h' hk => ⟨rfl, I.turnedL (t' := s.toks) (ch := [z, TO, i1, i2]) (fun b o hb e => hk b o (fun q => hb (by simp [q])) (fun q => hb (by simp [q])) (fun q => hb (by simp [q])) (fun q => hb (by simp [q])) e) fpc⟩⟩
    exfalso
    have m1 : i < us.length := by
      have : us[i]? = some u' := by simpa using gu'
      exact (List.getElem?_eq_some_iff.mp this).1
    have m2 : i < vs.length := by
      have : vs[i]? = some v' := by simpa using gv'
      exact (List.getElem?_eq_some_iff.mp this).1
    omega
  self := fun _ _ _ _ _ st h => wpAny_pyIter_zip st.1 h
theorem bt_zip : bootBuiltins "zip" = some (.type "zip") := by decide +kernel
section
variable {X : Cx}
def iZip (K : PySem.W.Frag) (b1 b2 : Bool) (ta : TA) : TI := fun σ H R => ta σ H fun vs H1 => ∃ l1 l2, vs = [.ref l1, .ref l2] ∧ (∃ xs, SqB K H1 b1 l1 xs) ∧ (∃ ys, SqB K H1 b2 l2 ys) ∧ R (Itz K b1 b2 l1 l2) H1
theorem pi_zip {b1 b2 : Bool} {elts : List Expr} {x1} {tpos : Pos} {a b : Expr} {ta : TA} {p pos : Pos} (hg : Gl X "zip") (hm : X.mg "zip" = none) (ha : PA X [a, b] ta) (hs : starEach [a, b] X.env = [(false, eval a X.env), (false, eval b X.env)] := by rfl)
    (hs2 : starEach [b] X.env = [(false, eval b X.env)] := by rfl) : PI X (.Tuple elts x1 tpos) (.Call (.Name "zip" p) [a, b] [] pos) (iZip X.K b1 b2 ta) := by
  intro pins s σ H R I h
  refine Call_ (ld_blt I hg hm bt_zip (PyProof.Rows.callWith_type1 (thn (ha pos pins s σ H _ I h) fun us s1 ⟨vs, H1, I1, r1, q1⟩ => ?_) (by rw [hs, hs2]) (by rw [hs2]; rfl)))
  obtain ⟨l1, l2, rfl, ⟨xs, q1⟩, ⟨ys, q2⟩, q⟩ := q1
  obtain ⟨u1, u2, rfl, e1, e2⟩ := vals2 r1
  cases e1
  cases e2
  obtain ⟨us, rv1, p1, _⟩ := I1.seqB q1
  obtain ⟨ws, rv2, p2, _⟩ := I1.seqB q2
  have lt1 : l1 < s1.heap.objs.size := by obtain ⟨o, n, e, _⟩ := p1.look; exact Heap.lt_size e
  have lt2 : l2 < s1.heap.objs.size := by obtain ⟨o, n, e, _⟩ := p2.look; exact Heap.lt_size e
  refine call_zip p1 p2 fun h' hz hTI hTO i1 i2 hsz hk => ?_
  refine wpAny_pyIter_zip hz ?_
  refine ⟨_, _, _, _, H1, rfl, I1.kept (t' := s1.toks) hk, turn_zip (zipApart_new lt1 lt2), ⟨hz, hTI, ⟨_, _, hTO⟩, i1, i2⟩, fun b hb => ?_, q⟩
  have mem : b = s1.heap.objs.size + 4 ∨ b = s1.heap.objs.size + 2 ∨ b = s1.heap.objs.size + 3 ∨ b = s1.heap.objs.size ∨ b = s1.heap.objs.size + 1 := by simpa using hb
  have ge : s1.heap.objs.size ≤ b := by rcases mem with rfl | rfl | rfl | rfl | rfl <;> omega
  exact I1.fpOk ge (I1.hok.fresh ge)
end
end L2

set_option maxRecDepth 100000
namespace L2
open PySem PySem.Spec PyProof.Rows
theorem same_updN {H : Hp} {p : Addr} {o : HO} (h : H p = none) : Same H (upd H p o) := fun b u e => by rw [upd_ne (ne_of_none e h)]; exact e
theorem Same.seqT {K : PySem.W.Frag} {H H' : Hp} {a : Addr} {xs : List V} (e : Same H H') (h : SqT K H a xs) : SqT K H' a xs := by
  rcases h with (h | ⟨o, h⟩) | h
  · exact .inl (.inl (e _ _ h))
  · exact .inl (.inr ⟨o, e _ _ h⟩)
  · exact .inr h
/-- what a comprehension's block must have, looked at by the names alone -/
def lcLook (N0 : List Str) (sc0 scope : Scope) (N : List Str) (ix : List (Option Nat)) : Bool :=
  scope.kind == .function && scope.names.all (fun y => !(y.2 == NameKind.cell)) && scope.names.all (fun y => !(y.2 == NameKind.local) || scope.names.lookup y.1 == some .local) &&
  scope.names.all (fun y => !(y.2 == NameKind.free) || sc0.names.lookup y.1 == some .cell) && N.length == ix.length &&
  (List.range N.length).all (fun i => match ix[i]?, N[i]? with
    | some (some j), some x => N0[j]? == some x && scope.names.lookup x == some .free && sc0.names.lookup x == some .cell
    | _, _ => true)
theorem lcok {X : Cx} {scope : Scope} {N : List Str} {ix : List (Option Nat)} (hX : ∀ x, X.env.scope.names.lookup x = some .cell → ∃ c, X.env.cells.lookup x = some c) (h : lcLook X.N X.env.scope scope N ix = true) : LCOk X scope N ix := by
  unfold lcLook at h
  simp only [Bool.and_eq_true] at h
  obtain ⟨⟨⟨⟨⟨h1, h2⟩, h3⟩, h4⟩, h5⟩, h6⟩ := h
  refine ⟨by simpa using h1, fun y hy e => ?_, fun y hy e => ?_, fun y hy e => ?_, by simpa using h5, fun i j x e1 e2 => ?_⟩
  · have := List.all_eq_true.mp h2 y hy
    rw [e] at this
    exact absurd this (by decide)
  · have := List.all_eq_true.mp h3 y hy
    rw [e] at this
    simpa using this
  · have := List.all_eq_true.mp h4 y hy
    rw [e] at this
    exact hX _ (by simpa using this)
  · have hi : i < N.length := (List.getElem?_eq_some_iff.mp e1).1
    have := List.all_eq_true.mp h6 i (List.mem_range.mpr hi)
    rw [e1, e2] at this
    simp only [Bool.and_eq_true, beq_iff_eq] at this
    obtain ⟨⟨a, b⟩, c⟩ := this
    exact ⟨a, b, .inr (.inl c), fun z => by
      have z' : X.env.scope.names.lookup x = some .local := z
      rw [c] at z'; cases z'⟩
theorem cells_of {CX : CXT} {P : Program} {w : World} {K : PySem.W.Frag} {mg : Str → Option Value} {base : Heap} {N : List Str} {qual : Str} {scope : Scope} {f : Addr} {cd : Value} {A : Around} {outer : List Env} {s : Shared} {H : Hp} {E : XK} :
    ∀ x, (cxOf CX P w K mg base N qual scope f cd A outer s H E).env.scope.names.lookup x = some .cell → ∃ c, (cxOf CX P w K mg base N qual scope f cd A outer s H E).env.cells.lookup x = some c := fun _ h => cell_has h
theorem keeps_pair {K : PySem.W.Frag} {ix : List (Option Nat)} {k l : Nat} (hk : ix[k]? = some none) (hl : ix[l]? = some none) : KeepsG ix (gTup K 2 (gCons (gName k) (gCons (gName l) gNil))) := by
  rintro x σ1 H Q ⟨a, xs, e1, hq, hn, v, r, e2, v', r', e3, e4, q⟩
  refine ⟨a, xs, e1, hq, hn, v, r, e2, v', r', e3, e4, fun i j e => ?_, q⟩
  have n1 : k ≠ i := by rintro rfl; rw [hk] at e; cases e
  have n2 : l ≠ i := by rintro rfl; rw [hl] at e; cases e
  rw [List.getElem?_set_ne n2, List.getElem?_set_ne n1]
section
variable {ix : List (Option Nat)} {g : TG} {tt : TT} {te : TE} {σ : St} {Q : VK} {H1 : Hp} {J : It}
/-- a comprehension by an invariant: n turns -/
theorem lc_by {n : Nat} (P : Nat → List V → Hp → Prop) (h0 : P 0 [] H1) (go : ∀ i ys H, i < n → P i ys H → J.go i H) (stop : ∀ ys H, P n ys H → J.stop n H) (len : ∀ i ys H, i < n → P i ys H → ys.length < sizeLine)
    (step : ∀ i ys H x H', i < n → P i ys H → J.yld i H x H' → ∀ R : List V → Hp → Prop, (∀ zs H'', P (i + 1) zs H'' → R zs H'') → g x (pull ix σ) H' fun σ2 H2 => tt σ2 H2 fun b H3 => if b = true then te σ2 H3 fun y H4 => R (ys ++ [y]) H4 else R ys H3)
    (fin : ∀ ys H, P n ys H → ∀ D, H D = none → Q (.ref D) (upd H D (.lst ys))) :
    LCW J ix g tt te σ H1 Q := by
  refine ⟨fun i m ys H => m = n - i ∧ i ≤ n ∧ P i ys H, ⟨n, by simp, Nat.zero_le _, h0⟩, ?_⟩
  rintro i m ys H ⟨rfl, hi, p⟩
  by_cases hlt : i < n
  · exact .inr ⟨go i ys H hlt p, len i ys H hlt p, fun x H' y => step i ys H x H' hlt p y (fun zs H'' => ∃ m', m' < n - i ∧ m' = n - (i + 1) ∧ i + 1 ≤ n ∧ P (i + 1) zs H'') fun zs H'' q => ⟨n - (i + 1), by omega, rfl, hlt, q⟩⟩
  · have e : i = n := by omega
    subst e
    exact .inl ⟨stop ys H p, fin ys H p⟩
/-- a comprehension without tests, whose items make nothing but new objects: ys item by item -/
theorem lc_map (ys : List V) (hz : ys.length ≤ sizeLine) (go : ∀ i H, i < ys.length → Same H1 H → J.go i H) (stop : ∀ H, Same H1 H → J.stop ys.length H)
    (step : ∀ (i : Nat) y H x H', ys[i]? = some y → Same H1 H → J.yld i H x H' → ∀ R : V → Hp → Prop, (∀ H'', Same H1 H'' → R y H'') → g x (pull ix σ) H' fun σ2 H2 => te σ2 H2 R)
    (fin : ∀ H, Same H1 H → ∀ D, H D = none → Q (.ref D) (upd H D (.lst ys))) :
    LCW J ix g tYes te σ H1 Q := by
  refine lc_by (n := ys.length) (fun i zs H => zs = ys.take i ∧ Same H1 H) ⟨by simp, Same.refl _⟩ (fun i _ H hi p => go i H hi p.2) (fun _ H p => stop H p.2) (fun i zs H hi p => ?_) (fun i zs H x H' hi p y R hR => ?_) (fun zs H p D hD => ?_)
  · rw [p.1, List.length_take]
    omega
  · obtain ⟨rfl, sm⟩ := p
    have e : ys[i]? = some ys[i] := List.getElem?_eq_getElem hi
    have q := step i ys[i] H x H' e sm y (fun v H4 => R (ys.take i ++ [v]) H4) fun H'' s2 => hR _ _ ⟨by rw [List.take_add_one, e]; rfl, s2⟩
    have fe : (fun σ2 H2 => tYes σ2 H2 fun b H3 => if b = true then te σ2 H3 fun y H4 => R (ys.take i ++ [y]) H4 else R (ys.take i) H3) = fun σ2 H2 => te σ2 H2 fun v H4 => R (ys.take i ++ [v]) H4 := by
      funext σ2 H2
      unfold tYes
      dsimp only
      exact if_pos rfl
    rw [fe]
    exact q
  · obtain ⟨rfl, sm⟩ := p
    rw [List.take_length]
    exact fin H sm D hD
end
section
variable {ix : List (Option Nat)} {g : TG} {te : TE} {σ : St} {Q : VK} {H1 : Hp} {K : PySem.W.Frag}
theorem lc_tup {a : Addr} {xs : List V} (hS : SqT K H1 a xs) (ys : List V) (hl : ys.length = xs.length) (hz : ys.length ≤ sizeLine)
    (step : ∀ (i : Nat) x y H, xs[i]? = some x → ys[i]? = some y → Same H1 H → ∀ R : V → Hp → Prop, (∀ H'', Same H1 H'' → R y H'') → g x (pull ix σ) H fun σ2 H2 => te σ2 H2 R)
    (fin : ∀ H, Same H1 H → ∀ D, H D = none → Q (.ref D) (upd H D (.lst ys))) : LCW (Itt K a) ix g tYes te σ H1 Q := by
  refine lc_map ys hz (fun i H hi sm => ⟨xs, xs[i]'(by omega), sm.seqT hS, List.getElem?_eq_getElem (by omega)⟩) (fun H sm => ⟨xs, sm.seqT hS, by omega⟩) (fun i y H x H' e sm yl R hR => ?_) fin
  obtain ⟨rfl, hx⟩ := yl
  exact step i x y H' (hx xs (sm.seqT hS)) e sm R hR
theorem lc_lst {a : Addr} {xs : List V} (hS : SqL K H1 a xs) (ys : List V) (hl : ys.length = xs.length) (hz : ys.length ≤ sizeLine)
    (step : ∀ (i : Nat) x y H, xs[i]? = some x → ys[i]? = some y → Same H1 H → ∀ R : V → Hp → Prop, (∀ H'', Same H1 H'' → R y H'') → g x (pull ix σ) H fun σ2 H2 => te σ2 H2 R)
    (fin : ∀ H, Same H1 H → ∀ D, H D = none → Q (.ref D) (upd H D (.lst ys))) : LCW (Itl K a) ix g tYes te σ H1 Q := by
  refine lc_map ys hz (fun i H hi sm => ⟨xs, xs[i]'(by omega), sm.seq hS, List.getElem?_eq_getElem (by omega)⟩) (fun H sm => ⟨xs, sm.seq hS, by omega⟩) (fun i y H x H' e sm yl R hR => ?_) fin
  obtain ⟨rfl, hx⟩ := yl
  exact step i x y H' (hx xs (sm.seq hS)) e sm R hR
theorem lc_rng {lo : Int} {n : Nat} (ys : List V) (hl : ys.length = n) (hz : ys.length ≤ sizeLine)
    (step : ∀ (i : Nat) y H, ys[i]? = some y → Same H1 H → ∀ R : V → Hp → Prop, (∀ H'', Same H1 H'' → R y H'') → g (.int (lo + i)) (pull ix σ) H fun σ2 H2 => te σ2 H2 R)
    (fin : ∀ H, Same H1 H → ∀ D, H D = none → Q (.ref D) (upd H D (.lst ys))) : LCW (Itr lo n) ix g tYes te σ H1 Q := by
  refine lc_map ys hz (fun i H hi sm => by show i < n; omega) (fun H sm => by show n ≤ ys.length; omega) (fun i y H x H' e sm yl R hR => ?_) fin
  obtain ⟨rfl, rfl⟩ := yl
  exact step i y H' e sm R hR
theorem lc_zip {b1 b2 : Bool} {l1 l2 : Addr} {xs zs : List V} (h1 : ∀ H, Same H1 H → SqB K H b1 l1 xs) (h2 : ∀ H, Same H1 H → SqB K H b2 l2 zs) (ys : List V) (hl : ys.length = min xs.length zs.length) (hz : ys.length ≤ sizeLine)
    (step : ∀ (i : Nat) x z y H p, xs[i]? = some x → zs[i]? = some z → ys[i]? = some y → Same H1 (upd H p (.tup [x, z])) → ∀ R : V → Hp → Prop, (∀ H'', Same H1 H'' → R y H'') → g (.ref p) (pull ix σ) (upd H p (.tup [x, z])) fun σ2 H2 => te σ2 H2 R)
    (fin : ∀ H, Same H1 H → ∀ D, H D = none → Q (.ref D) (upd H D (.lst ys))) : LCW (Itz K b1 b2 l1 l2) ix g tYes te σ H1 Q := by
  refine lc_map ys hz (fun i H hi sm => ⟨xs, zs, xs[i]'(by omega), zs[i]'(by omega), h1 H sm, h2 H sm, List.getElem?_eq_getElem (by omega), List.getElem?_eq_getElem (by omega)⟩) (fun H sm => ⟨xs, zs, h1 H sm, h2 H sm, by omega⟩) (fun i y H x H' e sm yl R hR => ?_) fin
  obtain ⟨p, x, z, rfl, hp, rfl, hx, hz'⟩ := yl
  exact step i x z y H p (hx xs (h1 H sm)) (hz' zs (h2 H sm)) e (sm.trans (same_updN hp)) R hR
end
end L2

set_option maxRecDepth 100000
namespace L2
open PySem PySem.Spec PyProof.Rows
section
variable {X : Cx}
/-- t + u, whatever they are: a tuple of both -/
def rCatA (K : PySem.W.Frag) : R2 := fun x y H Q => ∃ a b xs ys, x = .ref a ∧ y = .ref b ∧ SqT K H a xs ∧ SqT K H b ys ∧ xs.length + ys.length ≤ sizeLine ∧ ∀ p H', Same H H' → SqT K H' p (xs ++ ys) → Q (.ref p) H'
theorem op_catA : OpR X (binaryOp .Add) (rCatA X.K) := by
  intro pins s σ H x y v u Q I rx ry h
  obtain ⟨a, b, xs, ys, rfl, rfl, ha, hb, hz, q⟩ := h
  by_cases hx : xs = []
  · subst hx
    cases rx
    cases ry
    obtain ⟨its, r1, p1, _⟩ := I.tuple ha
    obtain ⟨its2, r2, p2, _⟩ := I.tuple hb
    cases r1
    obtain ⟨⟨c1, d1, e1, s1⟩, g1, k1, n1, q1⟩ := id p1
    obtain ⟨⟨c2, d2, e2, s2⟩, g2, k2, n2, q2⟩ := id p2
    dsimp only at k1 q1 k2 q2
    subst k1 q1 k2 q2
    exact concat_meets ⟨_, g1, rfl⟩ ⟨_, g2, rfl⟩ noFill_tuple_add seq_tuple_add PySem.F.slot_tuple_add PySem.F.entry_tuple_add (PySem.F.args_tuple_add_2 _ _) (tuple_addW0 a b _ _ n1 n2 d1 d2 s1 s2 (by simp)) ⟨g1, g2, ⟨.ref b, H, I, rfl, q b H (Same.refl H) hb⟩⟩
  · refine op_catT pins s σ H _ _ v u Q I rx ry ⟨a, b, xs, ys, rfl, rfl, ha, hb, hx, hz, fun e => q a H (Same.refl H) (by rw [e, List.append_nil]; exact ha), fun _ p hp => q p _ (same_updN hp) (SqT.of upd_same)⟩
end
/-- for over two sequences side by side -/
theorem for_zip {K : PySem.W.Frag} {b1 b2 : Bool} {l1 l2 : Addr} {xs zs : List V} {g : TG} {tb : TS} {D : Ends} {σ : St} {H : Hp} (Pv : Nat → St → Hp → Prop) (h0 : Pv 0 σ H) (h1 : ∀ i σ H, Pv i σ H → SqB K H b1 l1 xs) (h2 : ∀ i σ H, Pv i σ H → SqB K H b2 l2 zs)
    (hs : ∀ (i : Nat) x z σ H p, xs[i]? = some x → zs[i]? = some z → H p = none → Pv i σ H → g (.ref p) σ (upd H p (.tup [x, z])) fun σ2 H2 => tb { D with nx := Pv (i + 1), ct := Pv (i + 1), bk := D.nx } σ2 H2) (hd : ∀ σ H, Pv (min xs.length zs.length) σ H → D.nx σ H) :
    ∃ W : Nat → Nat → St → Hp → Prop, (∃ m, W 0 m σ H) ∧ ∀ i m σ H, W i m σ H →
      ((Itz K b1 b2 l1 l2).stop i H ∧ D.nx σ H) ∨ ((Itz K b1 b2 l1 l2).go i H ∧ ∃ N : St → Hp → Prop, (∀ σ' H', N σ' H' → ∃ m', m' < m ∧ W (i + 1) m' σ' H') ∧ ∀ x H', (Itz K b1 b2 l1 l2).yld i H x H' → g x σ H' fun σ2 H2 => tb { D with nx := N, ct := N, bk := D.nx } σ2 H2) := by
  refine ⟨fun i m σ H => m = min xs.length zs.length - i ∧ i ≤ min xs.length zs.length ∧ Pv i σ H, ⟨min xs.length zs.length, by simp, Nat.zero_le _, h0⟩, ?_⟩
  rintro i m σ H ⟨rfl, hi, p⟩
  by_cases hlt : i < min xs.length zs.length
  · refine .inr ⟨⟨xs, zs, xs[i]'(by omega), zs[i]'(by omega), h1 i σ H p, h2 i σ H p, List.getElem?_eq_getElem (by omega), List.getElem?_eq_getElem (by omega)⟩, Pv (i + 1), fun σ' H' p' => ⟨min xs.length zs.length - (i + 1), by omega, rfl, hlt, p'⟩, fun x H' y => ?_⟩
    obtain ⟨q, x', z', rfl, hq, rfl, e1, e2⟩ := y
    exact hs i x' z' σ H q (e1 xs (h1 i σ H p)) (e2 zs (h2 i σ H p)) hq p
  · have e : i = min xs.length zs.length := by omega
    subst e
    exact .inl ⟨⟨xs, zs, h1 _ σ H p, h2 _ σ H p, by omega⟩, hd σ H p⟩
end L2
namespace L2
open PySem PySem.Spec PyProof.Rows
section
variable {X : Cx} {K : PySem.W.Frag}
/-- within a comprehension's block: the written part by its own name -/
theorem IxR.toK {r : PySem.W.Frag → R2} (h : IxR X (r X.K)) (hK : X.K = K := by rfl) : IxR X (r K) := hK ▸ h
theorem OpR.toK {f : Value → Value → Sem Value} {r : PySem.W.Frag → R2} (h : OpR X f (r X.K)) (hK : X.K = K := by rfl) : OpR X f (r K) := hK ▸ h
theorem CallR.toK {f : Value} {r : PySem.W.Frag → List V → Hp → VK → Prop} (h : CallR X f (r X.K)) (hK : X.K = K := by rfl) : CallR X f (r K) := hK ▸ h
theorem SlR.toK {r : PySem.W.Frag → V → Option Int → Option Int → Hp → VK → Prop} (h : SlR X (r X.K)) (hK : X.K = K := by rfl) : SlR X (r K) := hK ▸ h
def rLen (K : PySem.W.Frag) : List V → Hp → VK → Prop := fun xs H Q => ∃ p ys, xs = [.ref p] ∧ (SqL K H p ys ∨ SqT K H p ys) ∧ Q (.int ys.length) H
theorem call_lenK (hK : X.K = K := by rfl) : CallR X (.builtin "len") (rLen K) := CallR.toK (r := rLen) call_len_seq hK
theorem pg_tupK {es : List Expr} {k : Nat} {pos : Pos} {t : TGs} {n : Nat} (hc : X.calm = true) (h : PGs X es t) (hK : X.K = K := by rfl)
    (hn : (assignEach es X.env).length = n := by rfl) (hst : (assignEach es X.env).findIdx? (·.1) = none := by rfl) : PG X (.Tuple es k pos) (gTup K n t) := hK ▸ pg_tup hc h hn hst
end
end L2
namespace L2
open PySem PySem.Spec PyProof.Rows
/-! ### classes by name -/
structure MDefAt (K : PySem.W.Frag) (C : Addr) (m qual : Str) (st : Stmt) : Prop where
  ex : ∃ f fd, Fun K m qual st f fd ∧ Meth K C m f
structure MethOk (P : Program) (w : World) (K : PySem.W.Frag) (mg : Str → Option Value) (base : Heap) (C : Addr) (m : Str) (k : Nat) (sp : Sp) : Prop where
  cl : Cls K C
  ex : ∃ f fd ps, FnOk P w K mg base CX0 k f fd ps sp ∧ Meth K C m f ∧ Binds K fd ps []
theorem MethOk.mono {P : Program} {w : World} {K : PySem.W.Frag} {mg : Str → Option Value} {base : Heap} {C : Addr} {x : Str} {j k : Nat} {sp : Sp} (h : MethOk P w K mg base C x j sp) (hk : j ≤ k) : MethOk P w K mg base C x k sp :=
  let ⟨f, fd, ps, F, a, b⟩ := h.ex
  ⟨h.cl, f, fd, ps, F.mono hk, a, b⟩
theorem meth_of {P : Program} {w : World} {K : PySem.W.Frag} {mg : Str → Option Value} {base : Heap} {C : Addr} {m qual : Str} {st : Stmt} {N ps : List Str} {k : Nat} {sp : Sp} (cl : Cls K C) (D : MDefAt K C m qual st) (S : FnScope N ps (defScope st))
    (hb : ∀ (kV doc pm : Value) (an : Option Addr) (cdv ct : Value) (us : List Value), us.length = ps.length → bindArgs (PySem.W.fnOf m qual (defArgs st) (defBody st) (defScope st) .none kV doc pm an cdv ct) ⟨us, []⟩ = pure (ps.zip us))
    (len : ∀ vs H Q E, sp vs H Q E → vs.length = ps.length)
    (hbody : ∀ (f : Addr) (cdv : Value) (A : Around) (outer : List Env) (s : Shared) (H : Hp) (vs : List V) (Q : VK) (E : XK), Room k (A.deeper (envOfC qual (defScope st) s.heap.objs.size f cdv)) → sp vs H Q E →
      ∃ t, PSs (cxOf CX0 P w K mg base N qual (defScope st) f cdv A outer s H E).nox (defBody st) t ∧ t { nx := fun _ H' => Q .non H', rt := Q } (start N vs) H) : MethOk P w K mg base C m (k + 1) sp := by
  obtain ⟨f, fd, F, m⟩ := D.ex
  exact ⟨cl, f, fd, ps, F.ok S len (hbody f), m, F.binds hb⟩
structure MkOk (P : Program) (w : World) (K : PySem.W.Frag) (mg : Str → Option Value) (base : Heap) (x : Str) (C : Addr) (k : Nat) (sp : Sp) : Prop where
  ex : ∃ f fd ps, FnOk P w K mg base CX0 k f fd ps sp ∧ Mk K C f ∧ Binds K fd ps []
  mgx : mg x = some (.ref C)
theorem MkOk.mono {P : Program} {w : World} {K : PySem.W.Frag} {mg : Str → Option Value} {base : Heap} {C : Addr} {x : Str} {j k : Nat} {sp : Sp} (h : MkOk P w K mg base x C j sp) (hk : j ≤ k) : MkOk P w K mg base x C k sp :=
  let ⟨f, fd, ps, F, a, b⟩ := h.ex
  ⟨⟨f, fd, ps, F.mono hk, a, b⟩, h.mgx⟩
section
variable {X : Cx} {x m : Str} {C : Addr} {k : Nat} {sp : Sp} {e o : Expr} {es : List Expr} {t : TA} {ta : TE} {p pos apos : Pos}
theorem pe_mk (h : MkOk X.prog X.w X.K X.mg X.base x C k sp) (hr : Room (k + 1) X.A) (ha : PA X (e :: es) t) (hg : Gl X x := by rfl)
    (hdb : (x == ("__debug__" : Str)) = false := by decide) (he : starEach (e :: es) X.env = (false, eval e X.env) :: starEach es X.env := by rfl) (hpl : (backTo pos (starEach es X.env)).any (·.1) = false := by rfl) :
    PE X (.Call (.Name x p) (e :: es) [] pos) (tMake C sp [] E0 t) := by
  obtain ⟨f, fd, ps, F, a, b⟩ := h.ex
  exact pe_make a F hr hg h.mgx b .nil pass0 ha hdb he hpl
theorem pe_mt {pl : Sem Bool} (h : MethOk X.prog X.w X.K X.mg X.base C m k sp) (hr : Room k X.A) (ho : PE X o ta) (ha : PA X (e :: es) t)
    (hst : starEach (e :: es) X.env = (false, eval e X.env) :: starEach es X.env := by rfl) (hpl : (backTo pos (starEach es X.env)).any (·.1) = false := by rfl)
    (ht : eval (.Call (.Attribute o m apos) (e :: es) [] pos) X.env = (do
      let ov ← eval o X.env
      standAt apos.atName
      let (f, first) ← holding [ov] (getMethod ov m pl)
      callWith pos f first (backTo pos (starEach (e :: es) X.env)) (backToKw pos (keywordEach [] X.env))) := by rfl) :
    PE X (.Call (.Attribute o m apos) (e :: es) [] pos) (tMeth C m sp [] E0 ta t) := by
  obtain ⟨f, fd, ps, F, a, b⟩ := h.ex
  exact pe_meth ho h.cl a F hr b .nil pass0 ha hst hpl ht
theorem pe_mt0 {pl : Sem Bool} (h : MethOk X.prog X.w X.K X.mg X.base C m k sp) (hr : Room k X.A) (ho : PE X o ta)
    (ht : eval (.Call (.Attribute o m apos) [] [] pos) X.env = (do
      let ov ← eval o X.env
      standAt apos.atName
      let (f, first) ← holding [ov] (getMethod ov m pl)
      callWith pos f first (backTo pos (starEach [] X.env)) (backToKw pos (keywordEach [] X.env))) := by rfl) :
    PE X (.Call (.Attribute o m apos) [] [] pos) (tMeth C m sp [] E0 ta tNil) := by
  obtain ⟨f, fd, ps, F, a, b⟩ := h.ex
  exact pe_meth0 ho h.cl a F hr b .nil pass0 ht
end
end L2
namespace L2
/-- a cut between two statements: what holds there -/
theorem seq_by {t u : TS} {D : Ends} {σ : St} {H : Hp} (P : St → Hp → Prop) (h1 : ∀ R : St → Hp → Prop, (∀ σ' H', P σ' H' → R σ' H') → t { D with nx := R } σ H) (h2 : ∀ σ' H', P σ' H' → u D σ' H') : tSeq t u D σ H := h1 (u D) h2
end L2
namespace L2
theorem if_by {c : TT} {t u r : TS} {D : Ends} {σ : St} {H : Hp} (P : St → Hp → Prop) (h1 : ∀ R : St → Hp → Prop, (∀ σ' H', P σ' H' → R σ' H') → tIfS c t u { D with nx := R } σ H) (h2 : ∀ σ' H', P σ' H' → r D σ' H') : tSeq (tIfS c t u) r D σ H := h1 (r D) h2
end L2
namespace L2
theorem name_if {k : Nat} {x : V} {c : TT} {t u r : TS} {D : Ends} {σ : St} {H : Hp} (h : tSeq (tIfS c t u) r D (σ.set k (some x)) H) : gName k x σ H (tSeq (tIfS c t u) r D) := h
end L2
namespace L2
open PySem PySem.Spec PyProof.Rows
/-- x = [elt for tg in iter if ..], where the list is stored within the comprehension -/
theorem ps_setLC {X : Cx} {tg elt iter : Expr} {ifs : List Expr} {scope : Scope} {pos spos py : Pos} {N : List Str} {ix : List (Option Nat)} {wi : TI} {g : TG} {tt : TT} {te : TE} {i : Nat} {y : Str} (hN : X.N.Nodup) (hy : X.N[i]? = some y) (hx : Loc X.env.scope y)
    (hc : X.calm = true) (hi : PI X tg iter wi) (L : LCOk X scope N ix) (hgk : KeepsG ix g)
    (blk : ∀ C s₃ H ex pn, PG (cxLC X N scope C s₃ H ex pn) tg g ∧ PIfs (cxLC X N scope C s₃ H ex pn) ifs tt ∧ PE (cxLC X N scope C s₃ H ex pn) elt te)
    (hf : X.fn y = true ∨ X.env.scope.names.lookup y = some .local := by first | exact .inl rfl | exact .inr rfl)
    (hsw : swapsWith (.ListComp elt [⟨tg, iter, ifs, 0⟩] scope pos) (some (.Name y py)) spos.line X.env = pure true := by rfl)
    (hs : ∀ x, foldedSetIterable iter X.env x = pure x := by intro _; rfl) : PS X (.Assign [.Name y py] (.ListComp elt [⟨tg, iter, ifs, 0⟩] scope pos) spos) (tAsg (tLC ix wi g tt te) (gName i)) := by
  intro pins s σ H D I h
  rw [exec_Assign_Name_used _ _ _ _ hsw]
  refine wpAny_bind (wpAny_standAt (wpAny_bind ?_))
  rw [arm_evalThenUse_ListComp]
  refine wpAny_bind (thn (wpAny_comprehension_free (use := some (assign (.Name y py) X.env)) (Q := fun _ s' => SP X pins D .next s') rfl hs (closureFor_of L.fre) L.kind L.names (thn (hi pins s σ H _ I h) fun v s1 h1 => thn h1 fun itv s2 h2 => ?_)) fun _ s' q => wpAny_pure (wpAny_pure q))
  obtain ⟨it, fp, tn, J, H2, e, I2, T, st2, f2, W, ⟨m0, w0⟩, turn⟩ := h2
  subst e
  refine lc_core (Q := fun x H1 => gName i x σ H1 D.nx) (RR := fun acc C => compPost (model X.prog X.w) X.A X.xe (some (assign (.Name y py) X.env)) (fun _ s' => SP X pins D .next s') acc C) hc L hgk blk I2 T st2 f2 w0 turn fun E0 C m H' s' hn f I' q => ?_
  refine wpAny_assign_Name (store_ok2 (v := .ref E0) I' hN hy hx rfl (fun s3 I3 hch => ?_) hf)
  obtain ⟨a, sb, ha⟩ := hch
  have ne : C ≠ a := by
    rcases ha with z | z
    · rw [z]; exact f.2.1
    · exact fun w => f.2.2.2.2.1 y a z w.symm
  exact ⟨m, hn.sameBut sb ne, fun h' sb' => ⟨_, H', I3.turned (t' := s3.toks) (fun b o hb e => sb'.extBut b o hb e) f.1 f.2.1 f.2.2.2.1 f.2.2.2.2.1 f.2.2.2.2.2, q⟩⟩
end L2

namespace Cu
/-- the greatest common divisor, as an int -/
def G (a b : Int) : Int := (Int.gcd a b : Nat)
theorem G_turn (a b : Int) : G b (Int.fmod a b) = G a b := by
  unfold G
  have e : Int.fmod a b = a - b * Int.fdiv a b := Int.fmod_def a b
  rw [e]
  congr 1
  apply Nat.dvd_antisymm
  · apply Int.dvd_gcd
    · have h1 := Int.gcd_dvd_left b (a - b * Int.fdiv a b)
      have h2 := Int.gcd_dvd_right b (a - b * Int.fdiv a b)
      have h3 := Int.dvd_add h2 (Int.dvd_mul_of_dvd_left (c := Int.fdiv a b) h1)
      have h4 : a - b * Int.fdiv a b + b * Int.fdiv a b = a := by omega
      rw [h4] at h3
      exact h3
    · exact Int.gcd_dvd_left b _
  · apply Int.dvd_gcd
    · exact Int.gcd_dvd_right a b
    · exact Int.dvd_sub (Int.gcd_dvd_left a b) (Int.dvd_mul_of_dvd_left (Int.gcd_dvd_right a b))
theorem fmod_less (a b : Int) (h : b ≠ 0) : (Int.fmod a b).natAbs < b.natAbs := by
  rcases Int.lt_or_gt_of_ne h with h' | h'
  · have h1 := Int.fmod_nonneg_of_pos (-a) (show 0 < -b by omega)
    have h2 := Int.fmod_lt_of_pos (-a) (show 0 < -b by omega)
    rw [Int.neg_fmod_neg] at h1 h2
    omega
  · have h1 := Int.fmod_nonneg_of_pos a h'
    have h2 := Int.fmod_lt_of_pos a h'
    omega
theorem G_abs (a b : Int) : G (a.natAbs : Int) (b.natAbs : Int) = G a b := by
  unfold G Int.gcd
  rw [Int.natAbs_natCast, Int.natAbs_natCast]
theorem G_zero (a : Int) : G a 0 = (a.natAbs : Int) := by
  unfold G; rw [Int.gcd_zero_right]
theorem G_nonneg (a b : Int) : 0 ≤ G a b := Int.natCast_nonneg _
theorem G_pos (a b : Int) (h : b ≠ 0) : 0 < G a b := by
  have : 0 < Int.gcd a b := Int.gcd_pos_of_ne_zero_right a h
  unfold G; omega
theorem G_dvd_left (a b : Int) : G a b ∣ a := Int.gcd_dvd_left a b
theorem G_dvd_right (a b : Int) : G a b ∣ b := Int.gcd_dvd_right a b
theorem G_le (a b : Int) (h : b ≠ 0) : G a b ≤ (b.natAbs : Int) := by
  have := Int.natAbs_dvd_natAbs.mpr (G_dvd_right a b)
  have h2 := Nat.le_of_dvd (by omega) this
  have := G_nonneg a b
  omega
/-- p/q is t/b in lowest terms -/
structure Low (t b p q : Int) : Prop where
  pos : 0 < q
  one : G p q = 1
  is : p * b = t * q
theorem low_of_dvd {t b g p q : Int} (hb : b ≠ 0) (hg : g ≠ 0) (hG : g = G t b ∨ g = - G t b) (hs : 0 < q) (ht : t = g * p) (hb' : b = g * q) : Low t b p q := by
  refine ⟨hs, ?_, ?_⟩
  · have h1 : Int.gcd t b = g.natAbs * Int.gcd p q := by
      rw [ht, hb', Int.gcd_mul_left]
    have h2 : g.natAbs = Int.gcd t b := by
      unfold G at hG
      omega
    rw [h2] at h1
    have h3 : 0 < Int.gcd t b := Int.gcd_pos_of_ne_zero_right t hb
    have h4 : Int.gcd p q = 1 := by
      have : Int.gcd t b * 1 = Int.gcd t b * Int.gcd p q := by rw [← h1, Nat.mul_one]
      exact (Nat.eq_of_mul_eq_mul_left h3 this).symm
    unfold G; rw [h4]; rfl
  · have : p * (g * q) = g * p * q := by rw [← Int.mul_assoc, Int.mul_comm p g]
    rw [← hb', ← ht] at this
    exact this
theorem fdiv_of_mul (g p : Int) (hg : g ≠ 0) : Int.fdiv (g * p) g = p := by
  exact Int.mul_fdiv_cancel_left p hg
/-- what made answers -/
theorem made_low (t b : Int) (hb : b ≠ 0) : Low t b (Int.fdiv t (if b < 0 then - G t b else G t b)) (Int.fdiv b (if b < 0 then - G t b else G t b)) := by
  have hG := G_pos t b hb
  obtain ⟨p, hp⟩ := G_dvd_left t b
  obtain ⟨q, hq⟩ := G_dvd_right t b
  by_cases h : b < 0
  · rw [if_pos h]
    have ht : t = (-G t b) * (-p) := by rw [Int.neg_mul_neg]; exact hp
    have hb' : b = (-G t b) * (-q) := by rw [Int.neg_mul_neg]; exact hq
    have e1 : Int.fdiv t (-G t b) = -p := by
      have := fdiv_of_mul (-G t b) (-p) (by omega)
      rw [← ht] at this; exact this
    have e2 : Int.fdiv b (-G t b) = -q := by
      have := fdiv_of_mul (-G t b) (-q) (by omega)
      rw [← hb'] at this; exact this
    rw [e1, e2]
    refine low_of_dvd (g := -G t b) hb (by omega) (Or.inr rfl) ?_ ht hb'
    by_cases hq' : 0 < -q
    · exact hq'
    · exfalso
      have : 0 ≤ q := by omega
      have := Int.mul_nonneg (Int.le_of_lt hG) this
      omega
  · rw [if_neg h]
    have e1 : Int.fdiv t (G t b) = p := by
      have := fdiv_of_mul (G t b) p (by omega)
      rw [← hp] at this; exact this
    have e2 : Int.fdiv b (G t b) = q := by
      have := fdiv_of_mul (G t b) q (by omega)
      rw [← hq] at this; exact this
    rw [e1, e2]
    refine low_of_dvd (g := G t b) hb (by omega) (Or.inl rfl) ?_ hp hq
    by_cases hq' : 0 < q
    · exact hq'
    · exfalso
      have : 0 ≤ -q := by omega
      have := Int.mul_nonneg (Int.le_of_lt hG) this
      rw [Int.mul_neg] at this
      omega
theorem low_same {t b p q t' b' p' q' : Int} (hb : b ≠ 0) (hb' : b' ≠ 0) (h : Low t b p q) (h' : Low t' b' p' q') (e : t * b' = t' * b) : p = p' ∧ q = q' := by
  -- p * q' = p' * q
  have hx : p * q' = p' * q := by
    have h1 : (p * q') * (b * b') = (p' * q) * (b * b') := by
      have a1 : (p * q') * (b * b') = (p * b) * (q' * b') := by ac_rfl
      have a2 : (p' * q) * (b * b') = (p' * b') * (q * b) := by ac_rfl
      have a3 : (t * q) * (q' * b') = (t * b') * (q * q') := by ac_rfl
      have a4 : (t' * q') * (q * b) = (t' * b) * (q * q') := by ac_rfl
      rw [a1, a2, h.is, h'.is, a3, a4, e]
    exact Int.eq_of_mul_eq_mul_right (Int.mul_ne_zero hb hb') h1
  have c1 : Int.gcd q p = 1 := by
    have := h.one; unfold G at this; rw [Int.gcd_comm]; omega
  have c2 : Int.gcd q' p' = 1 := by
    have := h'.one; unfold G at this; rw [Int.gcd_comm]; omega
  have d1 : q ∣ q' := by
    have : q ∣ p * q' := ⟨p', by rw [hx, Int.mul_comm]⟩
    have h5 := Int.dvd_gcd_mul_iff_dvd_mul.mpr this
    rw [c1] at h5
    simpa using h5
  have d2 : q' ∣ q := by
    have : q' ∣ p' * q := ⟨p, by rw [← hx, Int.mul_comm]⟩
    have h5 := Int.dvd_gcd_mul_iff_dvd_mul.mpr this
    rw [c2] at h5
    simpa using h5
  have eq : q = q' := Int.dvd_antisymm (Int.le_of_lt h.pos) (Int.le_of_lt h'.pos) d1 d2
  subst eq
  refine ⟨Int.eq_of_mul_eq_mul_right (by have := h.pos; omega) hx, rfl⟩
end Cu

namespace Cu
open PySem PyProof.Rows
open PySem.Builtin.Int (intBits)
theorem bits_G {a b : Int} {m : Nat} (hb : b ≠ 0) (h : intBits b ≤ m) : intBits (G a b) ≤ m := by
  refine bits_of_natAbs_le ?_ h
  have h1 := G_le a b hb
  have h2 := G_nonneg a b
  omega
theorem noPy {x y : Int} {m : Nat} (h : intBits y ≤ m) (hm : m ≤ 8000) : PySem.Builtin.divisionGoesByPylong x y = false := by
  refine PyProof.noPylong_of_log2 ?_
  rcases Nat.eq_zero_or_pos y.natAbs with h0 | hp
  · rw [h0]; decide
  · refine (Nat.log2_lt (Nat.ne_of_gt hp)).mpr ?_
    exact lt_pow_of_bits h (by omega)
/-- floors and ceilings -/
theorem floor_in (p q : Int) (hq : 0 < q) : p.fdiv q * q ≤ p ∧ p < p.fdiv q * q + q := by
  have h1 := Int.fmod_nonneg_of_pos p hq
  have h2 := Int.fmod_lt_of_pos p hq
  have h3 : p.fmod q = p - q * p.fdiv q := Int.fmod_def p q
  have h4 : p.fdiv q * q = q * p.fdiv q := Int.mul_comm _ _
  omega
theorem ceil_in (p q : Int) (hq : 0 < q) : -((-p).fdiv q) * q - q < p ∧ p ≤ -((-p).fdiv q) * q := by
  have h := floor_in (-p) q hq
  have h4 : -((-p).fdiv q) * q = -((-p).fdiv q * q) := Int.neg_mul _ _
  omega
theorem both_one (p q : Int) (hq : 0 < q) (hg : G p q = 1) : p.fdiv q = -((-p).fdiv q) ↔ q = 1 := by
  constructor
  · intro e
    have h1 := floor_in p q hq
    have h2 := ceil_in p q hq
    rw [← e] at h2
    have e2 : p = q * p.fdiv q := by rw [Int.mul_comm]; omega
    have hd : q ∣ G p q := by
      have : ((q.natAbs : Nat) : Int) = q := by omega
      have hp : q ∣ p := ⟨_, e2⟩
      unfold G
      exact Int.dvd_coe_gcd hp (Int.dvd_refl q)
    rw [hg] at hd
    exact Int.eq_one_of_dvd_one (Int.le_of_lt hq) hd
  · intro e
    subst e
    rw [Int.fdiv_one, Int.fdiv_one]
    omega
end Cu
namespace L2
open PySem PySem.Spec PyProof.Rows
/-- isinstance of a built-in class -/
theorem call_isi {X : Cx} : CallR X (.builtin "isinstance") (fun xs H Q => ∃ x T t b, xs = [x, .ty T] ∧ TyOf X.K H x t ∧ PySem.W.kitOne X.K t (.type T) = some b ∧ Q (.bl b) H) := by
  intro pins s σ H xs us Q I r h
  obtain ⟨x, T, t, b, rfl, ty, e, q⟩ := h
  cases r with
  | cons r1 r2 =>
    cases r2 with
    | cons r3 r4 =>
      cases r4
      cases (show _ = Value.type T from r3)
      exact isinst_ok I r1 ty e fun tk => ⟨.bl b, H, I.tok tk, rfl, q⟩
/-- the built-in names that the text leaves alone -/
structure Bl (mg : Str → Option Value) : Prop where
  abs : mg "abs" = none
  isi : mg "isinstance" = none
  int : mg "int" = none
  bool : mg "bool" = none
  len : mg "len" = none
  range : mg "range" = none
  tuple : mg "tuple" = none
theorem bt_isi : bootBuiltins "isinstance" = some (.builtin "isinstance") := by decide +kernel
theorem bt_abs : bootBuiltins "abs" = some (.builtin "abs") := by decide +kernel
theorem bt_int : bootBuiltins "int" = some (.type "int") := by decide +kernel
theorem bt_bool : bootBuiltins "bool" = some (.type "bool") := by decide +kernel
theorem bt_tuple : bootBuiltins "tuple" = some (.type "tuple") := by decide +kernel
theorem bt_len : bootBuiltins "len" = some (.builtin "len") := by decide +kernel
end L2
namespace L2
open PySem PySem.W PySem.Spec PyProof.Rows
/-- the head with the bits of the script's numbers -/
theorem walk_bits {l : PySem.W.OpenLaw} {n k : Nat} {q : Program} {loose : List Str} {XP : (Str → Option Value) → Heap → Prop} {YP : World → Heap → Prop} {d : DefRec} {K : Params → PySem.W.Frag} {CX : CXT} {sp : PySem.W.Frag → Sp} {x : Str}
    (hn : l.most = some n) (hn2 : n ≤ sizeLine) (hdf : d.params.defaults = []) (hr : Room k callerA)
    (hY : ∀ (w : World) (h : Heap), YP w h → (K w.params).In h)
    (F : ∀ (w : World) (mg : Str → Option Value) (fa : Addr) (h : Heap), (K w.params).In h → h.Ns mainGlobals mg → mg d.name = some (.ref fa) →
      ∃ fd : FuncData, (∀ (s : Shared) (u : Value), BindsTo s fd ⟨[u], []⟩ [(x, u)]) ∧
        ∀ base : Heap, (K w.params).In base → base.Ns mainGlobals mg → FnOk l.prog w (K w.params) mg base CX k fa fd [x] (sp (K w.params)))
    (hsp : ∀ (K : PySem.W.Frag) (H : Hp) (a : Addr) (ns : List Int), ns.length ≤ n → (∀ z ∈ ns, PySem.Builtin.Int.intBits z ≤ 2 ^ 20) → Only H → SqL K H a (ns.map V.int) → sp K [.ref a] H (fun v _ => v = .bl true) fun _ _ _ => False)
    (hCX : ∀ (H : Hp) (s : Shared) (e : Value) (s' : Shared), CX [] H s (fun _ _ _ => False) e s' → False) :
    PySem.W.WalkO q loose XP YP l.row.toRowW d [] (fun f vs => PySem.call f vs) := by
  intro w s₀ s₁ mg mb G Y fa o pm cd doc dV kV ho hd hcd hD hmg hg args vals as hpre hlay hrd hwl hlo
  obtain rfl : dV = .none := Dflts.none hD hdf
  obtain rfl : kV = .none := Dflts.noKw hD
  obtain ⟨a, vs, ns, rfl, rfl, hobj, hints, hlen⟩ := Att.script_of hn hpre hwl
  have hb : ∀ z ∈ ns, PySem.Builtin.Int.intBits z ≤ 2 ^ 20 := fun z hz => by
    have h1 := (layW_cons hlay).1
    have h2 := layableW_item h1 (WData.int z) (List.mem_map.mpr ⟨z, hz, rfl⟩)
    exact PyData.bits_of_layable (layable_int h2)
  have KX := hY w _ Y
  obtain ⟨fd, hbd, hF⟩ := F w mg fa _ KX G.T.g hmg
  refine enter_call (codeAny_mono (law_call KX G.T.g G.T.b G.T.builtins G.T.nolimit hg hobj hints (Nat.le_trans hlen hn2) hr hF hbd (fun H hO hS => hsp _ H a ns hlen hb hO hS) fun H e s' => hCX H s₁ e s') fun r s' hq => ?_)
  obtain ⟨rfl, h2, h3, h4⟩ := hq
  exact ⟨.inl ⟨.bool true, .bool true, [], rfl, fun _ => rfl, .bool true, Att.post_true l _, fun _ => ⟨List.Pairwise.nil, fun _ hm => (nomatch hm)⟩⟩, h2, h3, h4⟩
theorem mem_cutV {xs : List V} {lo hi : Option Int} {v : V} (h : v ∈ cutV xs lo hi) : v ∈ xs := List.mem_of_mem_drop (List.mem_of_mem_take h)
end L2
namespace Cu
open PySem PyProof.Rows
open PySem.Builtin.Int (intBits)
theorem t_pos : (0 : Int) < 10 ^ 59 := by decide +kernel
theorem bits_t {n : Int} (h1 : -(10 ^ 59) ≤ n) (h2 : n ≤ 10 ^ 59) : intBits n ≤ 200 := by
  refine intBits_le ?_
  have h3 : ((10 : Int) ^ 59) = (((10 ^ 59 : Nat)) : Int) := by decide +kernel
  have h4 : (10 ^ 59 : Nat) < 2 ^ 200 := by decide +kernel
  rw [h3] at h1 h2
  generalize (10 ^ 59 : Nat) = T at h1 h2 h4
  omega
end Cu
namespace L2
theorem iteP {c A B : Prop} [Decidable c] (h : c) (ha : A) : if c then A else B := by rw [if_pos h]; exact ha
end L2
namespace Cu
open PySem PyProof.Rows
open PySem.Builtin.Int (intBits)
theorem low_pos {t b : Int} (hb : 0 < b) : Low t b (t.fdiv (G t b)) (b.fdiv (G t b)) := by
  have h := made_low t b (by omega)
  rw [if_neg (by omega)] at h
  exact h
theorem bits_b {n : Int} (h1 : -(10 ^ 59) ≤ n) (h2 : n ≤ 10 ^ 59) : intBits (1 + (if n < 0 then -n else n)) ≤ 200 := by
  refine intBits_le ?_
  have h3 : ((10 : Int) ^ 59) = (((10 ^ 59 : Nat)) : Int) := by decide +kernel
  have h4 : (10 ^ 59 : Nat) + 1 < 2 ^ 200 := by decide +kernel
  rw [h3] at h1 h2
  generalize (10 ^ 59 : Nat) = T at h1 h2 h4
  split <;> omega
theorem G_one (n : Int) : G n 1 = 1 := by
  have h1 := G_pos n 1 (by decide)
  have h2 := G_le n 1 (by decide)
  have : ((1 : Int).natAbs : Int) = 1 := rfl
  omega
end Cu
namespace L2
open PySem PySem.Spec PyProof.Rows
theorem iteN {c A B : Prop} [Decidable c] (h : ¬ c) (hb : B) : if c then A else B := by rw [if_neg h]; exact hb
theorem same_upd {H : Hp} {p : Addr} {o : HO} (h : H p = none) : Same H (upd H p o) := fun b u e => by rw [upd_ne (ne_of_none e h)]; exact e
/-- False is not False -/
theorem op_isnotF {X : Cx} : OpR X (compareOp .IsNot) (fun x y H Q => x = .bl false ∧ y = .bl false ∧ Q (.bl false) H) := by
  intro pins s σ H x y v u Q I rx ry h
  obtain ⟨rfl, rfl, q⟩ := h
  cases rx
  cases ry
  exact wpAny_isNot_self rfl ⟨.bl false, H, I, rfl, q⟩
theorem Same.tup {K : PySem.W.Frag} {H H' : Hp} {a : Addr} {xs : List V} (s : Same H H') (h : H a = some (.tup xs)) : SqT K H' a xs := SqT.of (s _ _ h)
end L2

namespace C4
/-- both go the same ways: all crosswise products alike -/
def Par (c e : List Int) : Prop := ∀ i j, i < c.length → j < c.length → c.getD i 0 * e.getD j 0 = c.getD j 0 * e.getD i 0
theorem par_symm {c e : List Int} (hl : e.length = c.length) (h : Par c e) : Par e c := fun i j hi hj => by
  have := h j i (by omega) (by omega)
  rw [Int.mul_comm, this, Int.mul_comm]
/-- by one place that is not nought -/
theorem par_of_place {c e : List Int} {p : Nat} (hp : c.getD p 0 ≠ 0) (h : ∀ i, i < c.length → c.getD i 0 * e.getD p 0 = e.getD i 0 * c.getD p 0) : Par c e := fun i j hi hj => by
  have h1 := h i hi
  have h2 := h j hj
  refine Int.eq_of_mul_eq_mul_right hp ?_
  have a1 : c.getD i 0 * e.getD j 0 * c.getD p 0 = c.getD i 0 * (e.getD j 0 * c.getD p 0) := Int.mul_assoc _ _ _
  have a2 : c.getD j 0 * e.getD i 0 * c.getD p 0 = c.getD j 0 * (e.getD i 0 * c.getD p 0) := Int.mul_assoc _ _ _
  rw [a1, a2, ← h1, ← h2, ← Int.mul_assoc, ← Int.mul_assoc, Int.mul_comm (c.getD i 0) (c.getD j 0)]
theorem place_of_par {c e : List Int} {p : Nat} (hp : p < c.length) (h : Par c e) : ∀ i, i < c.length → c.getD i 0 * e.getD p 0 = e.getD i 0 * c.getD p 0 := fun i hi => by
  rw [h i p hi hp, Int.mul_comm]
/-- by the pairs j < k alone -/
theorem par_of_below {c e : List Int} (h : ∀ k j, k < c.length → j < k → c.getD k 0 * e.getD j 0 = c.getD j 0 * e.getD k 0) : Par c e := fun i j hi hj => by
  rcases Nat.lt_trichotomy i j with q | q | q
  · exact (h j i hj q).symm
  · rw [q]
  · exact h i j hi q
/-- some number of the first d is not nought -/
def Real (d : Nat) (c : List Int) : Prop := ∃ p, p < d ∧ c.getD p 0 ≠ 0
/-- what is left of a spot at a cut: top and bottom, part by part -/
def stepLB (n : Int) (f : Int × Int) (lb : Int × Int) : Int × Int := (lb.1 * f.2 + n * f.1 * lb.2, lb.2 * f.2)
def leftLB : List Int → List (Int × Int) → Int × Int → Int × Int
  | n :: c, f :: sp, lb => leftLB c sp (stepLB n f lb)
  | _, _, lb => lb
def sideV (d : Nat) (c : List Int) (sp : List (Int × Int)) : Int := (leftLB (c.take d) sp (-(c.getD d 0), 1)).1
def sgn (n : Int) : Int := if n > 0 then 1 else if n < 0 then -1 else 0
end C4

namespace K4
open PySem L2
open PySem.Builtin.Int (intBits)
def top (i : Nat) : Stmt := PySem.Challenge.pw_cutlands_k04_cuttings_told.main.body.getD i (.Pass ⟨0, 0, 0, 0⟩)
theorem bt_list : bootBuiltins "list" = some (.type "list") := by decide +kernel
structure Bs (mg : Str → Option Value) : Prop where
  abs : mg "abs" = none
  isi : mg "isinstance" = none
  int : mg "int" = none
  bool : mg "bool" = none
  len : mg "len" = none
  range : mg "range" = none
  tuple : mg "tuple" = none
  list : mg "list" = none
  all : mg "all" = none
  any : mg "any" = none
  sum : mg "sum" = none
  zip : mg "zip" = none
structure Er (mg : Str → Option Value) (tD tC : Tok) : Prop where
  mDims : mg "MOST_DIMS" = some (.int 3 tD)
  mCuts : mg "MOST_CUTS" = some (.int 7 tC)
def IsCut (H : Hp) (v : V) (c : List Int) : Prop := ∃ a, v = .ref a ∧ H a = some (.tup (c.map V.int))
def IsFr (H : Hp) (v : V) (f : Int × Int) : Prop := ∃ a, v = .ref a ∧ H a = some (.tup [.int f.1, .int f.2])
def IsSpot (H : Hp) (v : V) (sp : List (Int × Int)) : Prop := ∃ a vs, v = .ref a ∧ H a = some (.tup vs) ∧ Paired (IsFr H) vs sp
theorem IsCut.same {H H' : Hp} {v : V} {c : List Int} (h : IsCut H v c) (s : Same H H') : IsCut H' v c := let ⟨a, e, q⟩ := h; ⟨a, e, s _ _ q⟩
theorem IsFr.same {H H' : Hp} {v : V} {c : Int × Int} (h : IsFr H v c) (s : Same H H') : IsFr H' v c := let ⟨a, e, q⟩ := h; ⟨a, e, s _ _ q⟩
theorem frs_same {H H' : Hp} {vs : List V} {sp : List (Int × Int)} (h : Paired (IsFr H) vs sp) (s : Same H H') : Paired (IsFr H') vs sp := Paired.mono (fun _ _ q => q.same s) h
theorem cuts_same {H H' : Hp} {vs : List V} {cs : List (List Int)} (h : Paired (IsCut H) vs cs) (s : Same H H') : Paired (IsCut H') vs cs := Paired.mono (fun _ _ q => q.same s) h
theorem IsSpot.same {H H' : Hp} {v : V} {c : List (Int × Int)} (h : IsSpot H v c) (s : Same H H') : IsSpot H' v c := let ⟨a, vs, e, q, r⟩ := h; ⟨a, vs, e, s _ _ q, frs_same r s⟩
theorem pairedGet {α β : Type} {F : α → β → Prop} : ∀ {xs : List α} {ys : List β} {i : Nat} {x : α}, Paired F xs ys → xs[i]? = some x → ∃ y, ys[i]? = some y ∧ F x y
  | _, _, 0, x, .cons h t, e => by cases e; exact ⟨_, rfl, h⟩
  | _, _, i + 1, x, .cons h t, e => by simpa using pairedGet t (i := i) (by simpa using e)
theorem pairedGetR {α β : Type} {F : α → β → Prop} : ∀ {xs : List α} {ys : List β} {i : Nat} {y : β}, Paired F xs ys → ys[i]? = some y → ∃ x, xs[i]? = some x ∧ F x y
  | _, _, 0, x, .cons h t, e => by cases e; exact ⟨_, rfl, h⟩
  | _, _, i + 1, x, .cons h t, e => by simpa using pairedGetR t (i := i) (by simpa using e)
theorem intAt {c : List Int} {i : Nat} {x : V} (h : (c.map V.int)[i]? = some x) : i < c.length ∧ x = .int (c.getD i 0) := by
  rw [List.getElem?_map] at h
  cases e : c[i]? with
  | none => rw [e] at h; cases h
  | some z => rw [e] at h; cases h; exact ⟨(List.getElem?_eq_some_iff.mp e).1, by rw [List.getD_eq_getElem?_getD, e]; rfl⟩
theorem intGet {c : List Int} {i : Nat} (h : i < c.length) : (c.map V.int)[i]? = some (.int (c.getD i 0)) := by
  rw [List.getElem?_map, List.getD_eq_getElem?_getD, List.getElem?_eq_getElem h]; rfl
theorem intAtI {c : List Int} {i : Nat} (h : i < c.length) : atI (c.map V.int) (i : Int) = some (.int (c.getD i 0)) := atI_nat (intGet h)
theorem mapR {n : Nat} {f : Nat → V} {i : Nat} {y : V} (h : ((List.range n).map f)[i]? = some y) : i < n ∧ y = f i := by
  rw [List.getElem?_map] at h
  cases e : (List.range n)[i]? with
  | none => rw [e] at h; cases h
  | some z =>
    rw [e] at h; cases h
    obtain ⟨h1, h2⟩ := List.getElem?_eq_some_iff.mp e
    rw [List.length_range] at h1
    rw [List.getElem_range] at h2
    exact ⟨h1, by rw [h2]⟩
theorem mok {x y : Int} {m n : Nat} (hx : intBits x ≤ m) (hy : intBits y ≤ n) (h : m + n ≤ 134217728) : PySem.IntMulOk x y := PyProof.Rows.mulOk_of_bits hx hy h
def spWhole : Sp := fun vs H Q _ => ∃ i, vs = [.int i] ∧ Q (.bl true) H
def spNum : Sp := fun vs H Q _ => ∃ k m, vs = [.int k, .int m] ∧ 0 ≤ k ∧ k < m ∧ Q (.bl true) H
def spSign : Sp := fun vs H Q _ => ∃ n, vs = [.int n] ∧ Q (.int (C4.sgn n)) H
def spCommon : Sp := fun vs H Q _ => ∃ a b, vs = [.int a, .int b] ∧ Q (.int (Cu.G a b)) H
def spFrac : Sp := fun vs H Q _ => ∃ v f, vs = [v] ∧ IsFr H v f ∧ 0 < f.2 ∧ Cu.G f.1 f.2 = 1 ∧ Q (.bl true) H
def spDims : Sp := fun vs H Q _ => ∃ d, vs = [.int d] ∧ 1 ≤ d ∧ d ≤ 3 ∧ Q (.bl true) H
def GoodSpot (sp : List (Int × Int)) : Prop := ∀ f ∈ sp, 0 < f.2 ∧ Cu.G f.1 f.2 = 1
def spSpot : Sp := fun vs H Q _ => ∃ (d : Nat) (v : V) (sp : List (Int × Int)), vs = [.int d, v] ∧ IsSpot H v sp ∧ sp.length = d ∧ d ≤ 3 ∧ GoodSpot sp ∧ ∀ H', Same H H' → Q (.bl true) H'
def spCut : Sp := fun vs H Q _ => ∃ (d : Nat) (v : V) (c : List Int), vs = [.int d, v] ∧ IsCut H v c ∧ c.length = d + 1 ∧ d ≤ 3 ∧ C4.Real d c ∧ ∀ H', Same H H' → Q (.bl true) H'
def spFirst : Sp := fun vs H Q _ => ∃ v c, vs = [v] ∧ IsCut H v c ∧ (∃ p, p < c.length ∧ c.getD p 0 ≠ 0) ∧ ∀ p : Nat, p < c.length → c.getD p 0 ≠ 0 → Q (.int p) H
def spSame : Sp := fun vs H Q _ => ∃ v u c e, vs = [v, u] ∧ IsCut H v c ∧ IsCut H u e ∧ c.length = e.length ∧ c.length ≤ 4 ∧ (∃ p, p < c.length ∧ c.getD p 0 ≠ 0) ∧ (∀ z ∈ c, intBits z ≤ 300) ∧ (∀ z ∈ e, intBits z ≤ 300) ∧
  ∀ H' b, Same H H' → (b = true ↔ C4.Par c e) → Q (.bl b) H'
section
variable {P : Program} {w : World} {K : PySem.W.Frag} {mg : Str → Option Value} {base : Heap} {tD tC : Tok} {aC : Addr}
theorem sc_whole : FnScope ["thing"] ["thing"] (defScope (top 6)) := ⟨rfl, rfl, rfl, by decide +kernel, rfl, by decide +kernel, by decide +kernel⟩
theorem ok_whole (D : DefAt K mg "is_whole" (top 6)) (B : Bs mg) : CallOk P w K mg base "is_whole" 1 spWhole := by
  refine call_of D sc_whole (fun _ _ _ _ _ _ us hl => match us, hl with | [_], _ => rfl) (fun vs H Q E h => ?_) (fun f cdv A outer s H vs Q E hr h => ?_)
  · obtain ⟨i, rfl, k⟩ := h
    rfl
  · obtain ⟨i, rfl, k⟩ := h
    refine ⟨_, (pss_one (ps_ret (pe_and (pe_callB call_isi (by rfl) B.isi bt_isi (pa_cons (pv 0) (pa_cons (pe_bltn (v := .ty "int") (by rfl) B.int bt_int rfl) pa_nil))) (pe_one (pe_not (pe_callB call_isi (by rfl) B.isi bt_isi (pa_cons (pv 0) (pa_cons (pe_bltn (v := .ty "bool") (by rfl) B.bool bt_bool rfl) pa_nil)))))))), ?_⟩
    refine ⟨_, rfl, _, "int", _, true, rfl, TyOf.int i, rfl, true, rfl, ?_⟩
    exact iteT ⟨_, rfl, _, "bool", _, false, rfl, TyOf.int i, rfl, false, rfl, k⟩
theorem sc_num : FnScope ["thing", "many"] ["thing", "many"] (defScope (top 7)) := ⟨rfl, rfl, rfl, by decide +kernel, rfl, by decide +kernel, by decide +kernel⟩
theorem ok_num (D : DefAt K mg "is_number_of" (top 7)) (C_is_whole : CallOk P w K mg base "is_whole" 1 spWhole) : CallOk P w K mg base "is_number_of" 2 spNum := by
  refine call_of D sc_num (fun _ _ _ _ _ _ us hl => match us, hl with | [_, _], _ => rfl) (fun vs H Q E h => ?_) (fun f cdv A outer s H vs Q E hr h => ?_)
  · obtain ⟨i, m, rfl, h0, h1, k⟩ := h
    rfl
  · obtain ⟨i, m, rfl, h0, h1, k⟩ := h
    refine ⟨_, (pss_one (ps_ret (pe_and (pe_callD C_is_whole hr (pa_cons (pv 0) pa_nil)) (pe_one (pe_chain op_le op_lt pe_int (pv 0) (pv 1)))))), ?_⟩
    refine ⟨_, rfl, i, rfl, true, rfl, iteT ⟨_, rfl, _, _, rfl, rfl, _, rfl, ?_⟩⟩
    rw [if_pos (decide_eq_true h0)]
    refine ⟨_, rfl, _, _, rfl, rfl, ?_⟩
    show Q (.bl (decide (i < m))) H
    rw [decide_eq_true h1]
    exact k
theorem sc_sign : FnScope ["number"] ["number"] (defScope (top 8)) := ⟨rfl, rfl, rfl, by decide +kernel, rfl, by decide +kernel, by decide +kernel⟩
theorem ok_sign (D : DefAt K mg "sign_of" (top 8))  : CallOk P w K mg base "sign_of" 1 spSign := by
  refine call_of D sc_sign (fun _ _ _ _ _ _ us hl => match us, hl with | [_], _ => rfl) (fun vs H Q E h => ?_) (fun f cdv A outer s H vs Q E hr h => ?_)
  · obtain ⟨n, rfl, k⟩ := h
    rfl
  · obtain ⟨n, rfl, k⟩ := h
    refine ⟨_, (pss_cons (ps_if (pt_cmpR op_gt (pv 0) pe_int (nomark _)) (pss_one (ps_ret pe_int)) pss_nil)
      (pss_cons (ps_if (pt_cmpR op_lt (pv 0) pe_int (nomark _)) (pss_one (ps_ret (pe_un un_neg pe_int))) pss_nil)
      (pss_one (ps_ret pe_int)))), ?_⟩
    unfold C4.sgn at k
    refine ⟨_, rfl, _, _, rfl, rfl, _, rfl, ite2 (fun hc => ?_) (fun hc => ?_)⟩
    · rw [if_pos (of_decide_eq_true hc)] at k; exact k
    · rw [if_neg (fun z => hc (decide_eq_true z))] at k
      refine ⟨_, rfl, _, _, rfl, rfl, _, rfl, ite2 (fun hd => ?_) (fun hd => ?_)⟩
      · rw [if_pos (of_decide_eq_true hd)] at k; exact ⟨_, rfl, k⟩
      · rw [if_neg (fun z => hd (decide_eq_true z))] at k; exact k
theorem sc9 : FnScope ["one", "other", "rest"] ["one", "other"] (defScope (top 9)) := ⟨rfl, rfl, rfl, by decide +kernel, rfl, by decide +kernel, by decide +kernel⟩
theorem ok_cd (D : DefAt K mg "common_divisor" (top 9)) (B : Bs mg) : CallOk P w K mg base "common_divisor" 1 spCommon := by
  refine call_of D sc9 (fun _ _ _ _ _ _ us hl => match us, hl with | [_, _], _ => rfl) (fun vs H Q E h => ?_) (fun f cdv A outer s H vs Q E hr h => ?_)
  · obtain ⟨a, b, rfl, _⟩ := h
    rfl
  · obtain ⟨a, b, rfl, k⟩ := h
    refine ⟨_, pss_cons (ps_while PassesOwn.never (pt_cmpR op_ne (pv 1) pe_int (nomark _)) (pss_cons (ps_set (i := 2) sc9.nd rfl (Or.inl rfl) (pe_op op_modN (pv 0) (pv 1)))
      (pss_cons (ps_set (i := 0) sc9.nd rfl (Or.inl rfl) (pv 1)) (pss_one (ps_set (i := 1) sc9.nd rfl (Or.inl rfl) (pv 2))))))
      (pss_one (ps_ret (pe_callB call_abs rfl B.abs bt_abs (pa_cons (pv 0) pa_nil)))), ?_⟩
    refine while_by (fun σ H' => H' = H ∧ ∃ (x y : Int) (z : Option V), σ = [some (.int x), some (.int y), z] ∧ Cu.G x y = Cu.G a b) (fun σ _ => match σ with | [_, some (.int y), _] => y.natAbs | _ => 0)
      ⟨rfl, _, _, _, rfl, rfl⟩ ?_ ?_
    · rintro σ H' ⟨rfl, x, y, z, rfl, hg⟩
      refine ⟨_, rfl, rfl, _, rfl, ?_⟩
      by_cases hy : y = 0
      · refine iteNS (by rw [hy]) ?_
        subst hy
        rw [Cu.G_zero] at hg
        have e2 : (if x < 0 then -x else x) = Cu.G a b := by split <;> omega
        refine ⟨_, rfl, _, rfl, ?_⟩
        rw [← e2] at k
        exact k
      · refine iteP (by rw [decide_eq_false (fun e => hy (by injection e))]; rfl) ?_
        refine ⟨_, rfl, _, rfl, _, _, rfl, rfl, hy, _, rfl, _, rfl, ⟨rfl, _, _, _, rfl, ?_⟩, Cu.fmod_less x y hy⟩
        rw [Cu.G_turn]
        exact hg
    · rintro σ H' Q1 Q2 hm ⟨v, hv, hs, k', e3, q⟩
      exact ⟨v, hv, hs, k', e3, hm _ _ q⟩
theorem sc_frac : FnScope ["thing"] ["thing"] (defScope (top 11)) := ⟨rfl, rfl, rfl, by decide +kernel, rfl, by decide +kernel, by decide +kernel⟩
theorem ok_frac (D : DefAt K mg "is_fraction" (top 11)) (B : Bs mg) (C_is_whole : CallOk P w K mg base "is_whole" 1 spWhole) (C_common_divisor : CallOk P w K mg base "common_divisor" 1 spCommon) : CallOk P w K mg base "is_fraction" 2 spFrac := by
  refine call_of D sc_frac (fun _ _ _ _ _ _ us hl => match us, hl with | [_], _ => rfl) (fun vs H Q E h => ?_) (fun f cdv A outer s H vs Q E hr h => ?_)
  · obtain ⟨v, f, rfl, ⟨a, rfl, ht⟩, hy, hg, k⟩ := h
    rfl
  · obtain ⟨v, f, rfl, ⟨a, rfl, ht⟩, hy, hg, k⟩ := h
    refine ⟨_, (pss_cons (ps_if (PW.pt (pw_or (pt_not (pt_val (pe_callB call_isi (by rfl) B.isi bt_isi (pa_cons (pv 0) (pa_cons (pe_bltn (v := .ty "tuple") (by rfl) B.tuple bt_tuple rfl) pa_nil))))) (pw_or1 (pt_cmpR op_ne (pe_callB call_len_seq (by rfl) B.len bt_len (pa_cons (pv 0) pa_nil)) pe_int (nomark _))))) (pss_one (ps_ret pe_bl)) pss_nil)
      (pss_cons (ps_if (PW.pt (pw_or (pt_not (pt_val (pe_callD C_is_whole hr (pa_cons (pe_ix ix_tup (pv 0) pe_int (fun _ _ => rfl)) pa_nil)))) (pw_or1 (pt_not (pt_val (pe_callD C_is_whole hr (pa_cons (pe_ix ix_tup (pv 0) pe_int (fun _ _ => rfl)) pa_nil))))))) (pss_one (ps_ret pe_bl)) pss_nil)
      (pss_one (ps_ret (pe_and (pe_cmpR op_ge (pe_ix ix_tup (pv 0) pe_int (fun _ _ => rfl)) pe_int (nomark _)) (pe_one (pe_cmpR op_eq (pe_callD C_common_divisor hr (pa_cons (pe_ix ix_tup (pv 0) pe_int (fun _ _ => rfl)) (pa_cons (pe_ix ix_tup (pv 0) pe_int (fun _ _ => rfl)) pa_nil))) pe_int (nomark _)))))))), ?_⟩
    refine ⟨_, rfl, _, "tuple", _, true, rfl, TyOf.tup ht, rfl, true, rfl, iteF ⟨_, rfl, a, _, rfl, .inr (SqT.of ht), rfl, _, rfl, iteNS rfl ?_⟩⟩
    refine ⟨_, rfl, a, _, _, _, rfl, rfl, SqT.of ht, rfl, _, rfl, true, rfl, iteF ⟨_, rfl, a, _, _, _, rfl, rfl, SqT.of ht, rfl, _, rfl, true, rfl, iteF ?_⟩⟩
    refine ⟨_, rfl, a, _, _, _, rfl, rfl, SqT.of ht, rfl, _, _, rfl, rfl, _, rfl, iteP (decide_eq_true (by show (1 : Int) ≤ f.2; omega)) ?_⟩
    refine ⟨_, rfl, a, _, _, _, rfl, rfl, SqT.of ht, rfl, _, rfl, a, _, _, _, rfl, rfl, SqT.of ht, rfl, _, _, rfl, rfl, ?_⟩
    rw [show decide (V.int (Cu.G f.1 f.2) = V.int 1) = true from decide_eq_true (by rw [hg])]
    exact k
theorem sc_dims : FnScope ["thing"] ["thing"] (defScope (top 15)) := ⟨rfl, rfl, rfl, by decide +kernel, rfl, by decide +kernel, by decide +kernel⟩
theorem ok_dims (D : DefAt K mg "is_dims" (top 15)) (ER : Er mg tD tC) (C_is_whole : CallOk P w K mg base "is_whole" 1 spWhole) : CallOk P w K mg base "is_dims" 2 spDims := by
  refine call_of D sc_dims (fun _ _ _ _ _ _ us hl => match us, hl with | [_], _ => rfl) (fun vs H Q E h => ?_) (fun f cdv A outer s H vs Q E hr h => ?_)
  · obtain ⟨d, rfl, h1, h2, k⟩ := h
    rfl
  · obtain ⟨d, rfl, h1, h2, k⟩ := h
    refine ⟨_, (pss_one (ps_ret (pe_and (pe_callD C_is_whole hr (pa_cons (pv 0) pa_nil)) (pe_one (pe_chain op_le op_le pe_int (pv 0) (pe_glob (v := .int 3) rfl ER.mDims ⟨_, rfl⟩)))))), ?_⟩
    refine ⟨_, rfl, d, rfl, true, rfl, iteT ⟨_, rfl, _, _, rfl, rfl, _, rfl, ?_⟩⟩
    rw [if_pos (decide_eq_true h1)]
    refine ⟨_, _, rfl, rfl, ?_⟩
    show Q (.bl (decide (d ≤ 3))) H
    rw [decide_eq_true h2]
    exact k
theorem sc_spot : FnScope ["dims", "thing"] ["dims", "thing"] (defScope (top 16)) := ⟨rfl, rfl, rfl, by decide +kernel, rfl, by decide +kernel, by decide +kernel⟩
theorem ok_spot (D : DefAt K mg "is_spot" (top 16)) (B : Bs mg) (C_is_fraction : CallOk P w K mg base "is_fraction" 2 spFrac) : CallOk P w K mg base "is_spot" 3 spSpot := by
  refine call_of D sc_spot (fun _ _ _ _ _ _ us hl => match us, hl with | [_, _], _ => rfl) (fun vs H Q E h => ?_) (fun f cdv A outer s H vs Q E hr h => ?_)
  · obtain ⟨d, v, sp, rfl, ⟨a, us, rfl, ht, hp⟩, hl, hd, hgood, k⟩ := h
    rfl
  · obtain ⟨d, v, sp, rfl, ⟨a, us, rfl, ht, hp⟩, hl, hd, hgood, k⟩ := h
    refine ⟨_, (pss_cons (ps_if (PW.pt (pw_or (pt_not (pt_val (pe_callB call_isi (by rfl) B.isi bt_isi (pa_cons (pv 1) (pa_cons (pe_bltn (v := .ty "tuple") (by rfl) B.tuple bt_tuple rfl) pa_nil))))) (pw_or1 (pt_cmpR op_ne (pe_callB call_len_seq (by rfl) B.len bt_len (pa_cons (pv 1) pa_nil)) (pv 0) (nomark _))))) (pss_one (ps_ret pe_bl)) pss_nil)
      (pss_one (ps_ret (pe_callB (call_all rfl) (by rfl) B.all bt_all (pa_cons (pe_lc (N := ["part"]) (ix := [none]) rfl (pi_tup (pv 1)) (lcok (fun _ h => cell_has h) (by rfl)) (keeps_name rfl) (fun _ _ _ _ _ => ⟨(pg_name (i := 0) (show List.Nodup (α := Str) ["part"] by decide) rfl (Or.inl rfl)), pif_nil, (pe_callD C_is_fraction hr (pa_cons (pv 0) pa_nil))⟩)) pa_nil))))), ?_⟩
    have hn := hp.length
    have hsz : (1000 : Nat) ≤ sizeLine := by decide
    refine ⟨_, rfl, _, "tuple", _, true, rfl, TyOf.tup ht, rfl, true, rfl, iteF ⟨_, rfl, a, _, rfl, .inr (SqT.of ht), _, rfl, rfl, _, rfl, iteNS (by rw [hn, hl]) ?_⟩⟩
    refine ⟨_, rfl, a, rfl, ⟨us, SqT.of ht⟩, ?_⟩
    refine lc_tup (SqT.of ht) ((List.replicate us.length true).map V.bl) (by simp) (by simp; omega) (fun i x y H1 e1 e2 sm R hR => ?_) (fun H1 sm D hD => ⟨D, _, rfl, SqL.of upd_same, ?_⟩)
    · obtain ⟨f, ef, hf⟩ := pairedGet hp e1
      have hm := hgood f (List.mem_of_getElem? ef)
      have ey : y = .bl true := by
        rw [List.getElem?_map, List.getElem?_replicate] at e2
        split at e2 <;> cases e2
        rfl
      refine ⟨_, rfl, x, f, rfl, hf.same sm, hm.1, hm.2, ?_⟩
      rw [← ey]
      exact hR _ sm
    · rw [show (List.replicate us.length true).all id = true by simp]
      exact k _ (sm.trans (same_updN hD))
end
end K4

namespace K4
open PySem L2
open PySem.Builtin.Int (intBits)
theorem cut_take {xs : List V} {k : Nat} (h : k ≤ xs.length) : cutV xs none (some (k : Int)) = xs.take k := by
  unfold cutV
  rw [HT.sIx_nat, HT.sIx_none, List.drop_zero, Nat.sub_zero, Nat.min_eq_left h]
theorem cut_last {xs : List V} (h : 1 ≤ xs.length) : cutV xs none (some (-1)) = xs.take (xs.length - 1) := by
  unfold cutV
  rw [HT.sIx_none, List.drop_zero, Nat.sub_zero]
  have e : HT.sIx xs.length xs.length (some (-1)) = xs.length - 1 := by
    show (if (-1 : Int) < 0 then ((-1 : Int) + (xs.length : Int)).toNat else min (-1 : Int).toNat xs.length) = _
    rw [if_pos (by decide)]
    omega
  rw [e]
theorem whole_take {n k : Nat} (h : k < n) : ¬ (HT.sIx n 0 none = 0 ∧ HT.sIx n n (some (k : Int)) = n) := fun z => by
  have := z.2
  rw [HT.sIx_nat] at this
  omega
theorem whole_last {n : Nat} (h : 1 ≤ n) : ¬ (HT.sIx n 0 none = 0 ∧ HT.sIx n n (some (-1)) = n) := fun z => by
  have := z.2
  have e : HT.sIx n n (some (-1)) = n - 1 := by
    show (if (-1 : Int) < 0 then ((-1 : Int) + (n : Int)).toNat else min (-1 : Int).toNat n) = _
    rw [if_pos (by decide)]
    omega
  omega
theorem same_over {H H' : Hp} {q : Addr} {o : HO} (s : Same H H') (h : H q = none) : Same H (upd H' q o) := fun b u e => by rw [upd_ne (ne_of_none e h)]; exact s b u e
def GoodCut (d : Nat) (c : List Int) : Prop := c.length = d + 1 ∧ C4.Real d c ∧ ∀ z ∈ c, intBits z ≤ 300
def BitsSpot (sp : List (Int × Int)) : Prop := ∀ f ∈ sp, intBits f.1 ≤ 300 ∧ intBits f.2 ≤ 300
def spSide : Sp := fun vs H Q _ => ∃ (d : Nat) (v u : V) (c : List Int) (sp : List (Int × Int)), vs = [v, u] ∧ IsCut H v c ∧ IsSpot H u sp ∧ sp.length = d ∧ d ≤ 3 ∧ c.length = d + 1 ∧ (∀ z ∈ c, intBits z ≤ 300) ∧ BitsSpot sp ∧ ∀ H', Same H H' → Q (.int (C4.sgn (C4.sideV d c sp))) H'
def spStand : Sp := fun vs H Q _ => ∃ (d : Nat) (l : Addr) (v : V) (us : List V) (cs : List (List Int)) (c : List Int), vs = [.int d, .ref l, v] ∧ H l = some (.lst us) ∧ Paired (IsCut H) us cs ∧ IsCut H v c ∧ cs.length < 7 ∧ d ≤ 3 ∧ GoodCut d c ∧ (∀ e ∈ cs, GoodCut d e ∧ ¬ C4.Par e c) ∧ ∀ H', Same H H' → Q (.bl true) H'
/-- cuts that may stand together -/
structure Set' (d : Nat) (cs : List (List Int)) : Prop where
  good : ∀ e ∈ cs, GoodCut d e
  few : cs.length ≤ 7
  pw : cs.Pairwise fun a b => ¬ C4.Par a b
theorem Set'.apart {d : Nat} {cs : List (List Int)} (h : Set' d cs) (i j : Nat) (hij : i < j) (a b : List Int) (ha : cs[i]? = some a) (hb : cs[j]? = some b) : ¬ C4.Par a b := by
  obtain ⟨h1, e1⟩ := List.getElem?_eq_some_iff.mp ha
  obtain ⟨h2, e2⟩ := List.getElem?_eq_some_iff.mp hb
  have := List.pairwise_iff_getElem.mp h.pw i j h1 h2 hij
  rw [e1, e2] at this
  exact this
def spChecked : Sp := fun vs H Q _ => ∃ (d : Nat) (l : Addr) (us : List V) (cs : List (List Int)), vs = [.int d, .ref l] ∧ 1 ≤ d ∧ d ≤ 3 ∧ H l = some (.lst us) ∧ Paired (IsCut H) us cs ∧ Set' d cs ∧ ∀ p H', Same H H' → H' p = some (.tup us) → Q (.ref p) H'
section
variable {P : Program} {w : World} {K : PySem.W.Frag} {mg : Str → Option Value} {base : Heap} {tD tC : Tok} {aC : Addr}
theorem sc_cut : FnScope ["dims", "thing"] ["dims", "thing"] (defScope (top 17)) := ⟨rfl, rfl, rfl, by decide +kernel, rfl, by decide +kernel, by decide +kernel⟩
theorem ok_cut (D : DefAt K mg "is_cut" (top 17)) (B : Bs mg) (C_is_whole : CallOk P w K mg base "is_whole" 1 spWhole) : CallOk P w K mg base "is_cut" 2 spCut := by
  refine call_of D sc_cut (fun _ _ _ _ _ _ us hl => match us, hl with | [_, _], _ => rfl) (fun vs H Q E h => ?_) (fun f cdv A outer s H vs Q E hr h => ?_)
  · obtain ⟨d, v, c, rfl, ⟨a, rfl, ht⟩, hl, hd, hreal, k⟩ := h
    rfl
  · obtain ⟨d, v, c, rfl, ⟨a, rfl, ht⟩, hl, hd, hreal, k⟩ := h
    refine ⟨_, (pss_cons (ps_if (PW.pt (pw_or (pt_not (pt_val (pe_callB call_isi (by rfl) B.isi bt_isi (pa_cons (pv 1) (pa_cons (pe_bltn (v := .ty "tuple") (by rfl) B.tuple bt_tuple rfl) pa_nil))))) (pw_or1 (pt_cmpR op_ne (pe_callB call_len_seq (by rfl) B.len bt_len (pa_cons (pv 1) pa_nil)) (pe_op op_add (pv 0) pe_int) (nomark _))))) (pss_one (ps_ret pe_bl)) pss_nil)
      (pss_cons (ps_if (pt_not (pt_val (pe_callB (call_all rfl) (by rfl) B.all bt_all (pa_cons (pe_lc (N := ["number"]) (ix := [none]) rfl (pi_tup (pv 1)) (lcok (fun _ h => cell_has h) (by rfl)) (keeps_name rfl) (fun _ _ _ _ _ => ⟨(pg_name (i := 0) (show List.Nodup (α := Str) ["number"] by decide) rfl (Or.inl rfl)), pif_nil, (pe_callD C_is_whole hr (pa_cons (pv 0) pa_nil))⟩)) pa_nil)))) (pss_one (ps_ret pe_bl)) pss_nil)
      (pss_one (ps_ret (pe_callB (call_any rfl) (by rfl) B.any bt_any (pa_cons (pe_lc (N := ["number"]) (ix := [none]) rfl (pi_tup (pe_slice sl_tup (pv 1) po_none (po_some (pv 0)))) (lcok (fun _ h => cell_has h) (by rfl)) (keeps_name rfl) (fun _ _ _ _ _ => ⟨(pg_name (i := 0) (show List.Nodup (α := Str) ["number"] by decide) rfl (Or.inl rfl)), pif_nil, (pe_cmpR op_ne (pv 0) pe_int (nomark _))⟩)) pa_nil)))))), ?_⟩
    have hsz : (1000 : Nat) ≤ sizeLine := by decide
    have hcl : (c.map V.int).length = d + 1 := by rw [List.length_map, hl]
    refine ⟨_, rfl, _, "tuple", _, true, rfl, TyOf.tup ht, rfl, true, rfl, iteF ⟨_, rfl, a, _, rfl, .inr (SqT.of ht), _, rfl, _, _, rfl, rfl, rfl, _, rfl, iteNS (congrArg V.int (by rw [hcl]; rfl)) ?_⟩⟩
    refine ⟨_, rfl, a, rfl, ⟨_, SqT.of ht⟩, ?_⟩
    refine lc_tup (SqT.of ht) ((List.replicate (c.map V.int).length true).map V.bl) (by simp) (by simp; omega) (fun i x y H1 e1 e2 sm R hR => ?_) (fun H1 sm D hD => ⟨D, _, rfl, SqL.of upd_same, _, rfl, ?_⟩)
    · have ey : y = .bl true := by
        rw [List.getElem?_map, List.getElem?_replicate] at e2
        split at e2 <;> cases e2
        rfl
      obtain ⟨_, rfl⟩ := intAt e1
      refine ⟨_, rfl, _, rfl, ?_⟩
      rw [← ey]
      exact hR _ sm
    · rw [show (List.replicate (c.map V.int).length true).all id = true by simp]
      have s1 := sm.trans (same_updN (o := .lst ((List.replicate (c.map V.int).length true).map V.bl)) hD)
      refine iteF ⟨_, rfl, _, rfl, _, rfl, a, _, rfl, SqT.of (s1 _ _ ht), whole_take (by rw [hcl]; omega), fun p hp => ?_⟩
      have ec : cutV (c.map V.int) none (some (d : Int)) = (c.take d).map V.int := by rw [cut_take (by rw [hcl]; omega), List.map_take]
      rw [ec]
      refine ⟨p, rfl, ⟨_, SqT.of upd_same⟩, ?_⟩
      refine lc_tup (SqT.of upd_same) (((c.take d).map fun z => !decide (V.int z = V.int 0)).map V.bl) (by simp) (by simp; omega) (fun i x y H2 e1 e2 sm2 R hR => ?_) (fun H2 sm2 E2 hE => ⟨E2, _, rfl, SqL.of upd_same, ?_⟩)
      · obtain ⟨hi, rfl⟩ := intAt e1
        have ey : y = .bl (!decide (V.int ((c.take d).getD i 0) = V.int 0)) := by
          rw [List.getElem?_map, List.getElem?_map, List.getElem?_eq_getElem hi] at e2
          cases e2
          rw [List.getD_eq_getElem?_getD, List.getElem?_eq_getElem hi]; rfl
        refine ⟨_, rfl, rfl, ?_⟩
        rw [← ey]
        exact hR _ sm2
      · have ha : ((c.take d).map fun z => !decide (V.int z = V.int 0)).any id = true := by
          obtain ⟨q, hq, hn⟩ := hreal
          rw [List.any_eq_true]
          have hq2 : q < (c.take d).length := by rw [List.length_take]; omega
          refine ⟨true, List.mem_map.mpr ⟨(c.take d)[q], List.getElem_mem hq2, ?_⟩, rfl⟩
          have ne : (c.take d)[q] ≠ 0 := by
            rw [List.getElem_take]
            rw [List.getD_eq_getElem?_getD, List.getElem?_eq_getElem (by omega)] at hn
            exact hn
          rw [decide_eq_false (fun z => ne (by injection z))]
          rfl
        rw [ha]
        exact k _ (s1.trans ((same_updN hp).trans (sm2.trans (same_updN hE))))
theorem sc_first : FnScope ["cut", "place"] ["cut"] (defScope (top 18)) := ⟨rfl, rfl, rfl, by decide +kernel, rfl, by decide +kernel, by decide +kernel⟩
theorem ok_first (D : DefAt K mg "first_place" (top 18))  : CallOk P w K mg base "first_place" 1 spFirst := by
  refine call_of D sc_first (fun _ _ _ _ _ _ us hl => match us, hl with | [_], _ => rfl) (fun vs H Q E h => ?_) (fun f cdv A outer s H vs Q E hr h => ?_)
  · obtain ⟨v, c, rfl, ⟨a, rfl, ht⟩, ⟨q, hq, hn⟩, k⟩ := h
    rfl
  · obtain ⟨v, c, rfl, ⟨a, rfl, ht⟩, ⟨q, hq, hn⟩, k⟩ := h
    refine ⟨_, (pss_cons (ps_set (i := 1) sc_first.nd rfl (Or.inl rfl) pe_int)
      (pss_cons (ps_while PassesOwn.never (pt_cmpR op_eq (pe_ix ix_tup (pv 0) (pv 1) (fun _ _ => rfl)) pe_int (nomark _)) (pss_one (ps_set (i := 1) sc_first.nd rfl (Or.inl rfl) (pe_op op_add (pv 1) pe_int))))
      (pss_one (ps_ret (pv 1))))), ?_⟩
    refine while_by (fun σ H' => H' = H ∧ ∃ p : Nat, σ = [some (.ref a), some (.int p)] ∧ p ≤ q) (fun σ _ => match σ with | [_, some (.int p)] => q + 1 - p.toNat | _ => 0) ⟨rfl, 0, rfl, Nat.zero_le _⟩ ?_ ?_
    · rintro σ H' ⟨rfl, p, rfl, hp⟩
      refine ⟨_, rfl, _, rfl, a, _, _, _, rfl, rfl, SqT.of ht, intAtI (by omega), rfl, _, rfl, ite2 (fun hc => ?_) (fun hc => ?_)⟩
      · have hz : c.getD p 0 = 0 := by have e := of_decide_eq_true hc; injection e
        have hlt : p < q := by
          rcases Nat.lt_or_eq_of_le hp with z | z
          · exact z
          · rw [z] at hz; exact absurd hz hn
        refine ⟨_, rfl, _, _, rfl, rfl, ⟨rfl, p + 1, rfl, hlt⟩, ?_⟩
        show q + 1 - ((p : Int) + 1).toNat < q + 1 - (p : Int).toNat
        omega
      · have hz : c.getD p 0 ≠ 0 := fun e => hc (decide_eq_true (by rw [e]))
        exact ⟨_, rfl, k p (by omega) hz⟩
    · rintro σ H' Q1 Q2 hm ⟨v, hv, v2, hv2, p, xs, i, z, e1, e2, hS, hat, hs, kk, e3, q⟩
      exact ⟨v, hv, v2, hv2, p, xs, i, z, e1, e2, hS, hat, hs, kk, e3, hm _ _ q⟩
theorem sc_same : FnScope ["one", "other", "place"] ["one", "other"] (defScope (top 19)) := ⟨rfl, rfl, rfl, by decide +kernel, rfl, by decide +kernel, by decide +kernel⟩
theorem ok_same (D : DefAt K mg "same_spots" (top 19)) (B : Bs mg) (C_first_place : CallOk P w K mg base "first_place" 1 spFirst) : CallOk P w K mg base "same_spots" 2 spSame := by
  refine call_of D sc_same (fun _ _ _ _ _ _ us hl => match us, hl with | [_, _], _ => rfl) (fun vs H Q E h => ?_) (fun f cdv A outer s H vs Q E hr h => ?_)
  · obtain ⟨v, u, c, e, rfl, ⟨a, rfl, ha⟩, ⟨b, rfl, hb⟩, hl, h4, hne, bc, be, k⟩ := h
    rfl
  · obtain ⟨v, u, c, e, rfl, ⟨a, rfl, ha⟩, ⟨b, rfl, hb⟩, hl, h4, hne, bc, be, k⟩ := h
    refine ⟨_, (pss_cons (ps_set (i := 2) sc_same.nd rfl (Or.inr rfl) (pe_callD C_first_place hr (pa_cons (pv 0) pa_nil)))
      (pss_one (ps_ret (pe_callB (call_all rfl) (by rfl) B.all bt_all (pa_cons (pe_lc (N := ["mine", "theirs", "other", "place", "one"]) (ix := [none, none, some 1, some 2, some 0]) rfl (pi_zip (b1 := true) (b2 := true) rfl B.zip (pa_cons (pv 0) (pa_cons (pv 1) pa_nil))) (lcok (fun _ h => cell_has h) (by rfl)) (keeps_pair rfl rfl) (fun _ _ _ _ _ => ⟨(pg_tupK (K := K) rfl (pgs_cons (pg_name (i := 0) (show List.Nodup (α := Str) ["mine", "theirs", "other", "place", "one"] by decide) rfl (Or.inl rfl)) (pgs_cons (pg_name (i := 1) (show List.Nodup (α := Str) ["mine", "theirs", "other", "place", "one"] by decide) rfl (Or.inl rfl)) pgs_nil))), pif_nil, (pe_cmpR op_eq (pe_op op_mulB (pv 0) (pe_ix (IxR.toK (K := K) (r := rIxT) ix_tup) (pv 2) (pv 3) (fun _ _ => rfl))) (pe_op op_mulB (pv 1) (pe_ix (IxR.toK (K := K) (r := rIxT) ix_tup) (pv 4) (pv 3) (fun _ _ => rfl))) (nomark _))⟩)) pa_nil))))), ?_⟩
    have hsz : (1000 : Nat) ≤ sizeLine := by decide
    have cb : ∀ i, i < c.length → intBits (c.getD i 0) ≤ 300 := fun i hi => bc _ (by rw [List.getD_eq_getElem?_getD, List.getElem?_eq_getElem hi]; exact List.getElem_mem hi)
    have eb : ∀ i, i < c.length → intBits (e.getD i 0) ≤ 300 := fun i hi => be _ (by rw [List.getD_eq_getElem?_getD, List.getElem?_eq_getElem (by omega)]; exact List.getElem_mem (by omega))
    refine ⟨_, rfl, _, c, rfl, ⟨a, rfl, ha⟩, hne, fun p hp hpn => ?_⟩
    refine ⟨_, rfl, _, rfl, a, b, rfl, ⟨c.map V.int, SqT.of ha⟩, ⟨e.map V.int, SqT.of hb⟩, ?_⟩
    refine lc_zip (xs := c.map V.int) (zs := e.map V.int) (fun H1 sm => SqT.of (sm _ _ ha)) (fun H1 sm => SqT.of (sm _ _ hb)) (((List.range c.length).map fun i => decide (V.int (c.getD i 0 * e.getD p 0) = V.int (e.getD i 0 * c.getD p 0))).map V.bl) (by simp; omega) (by simp; omega) (fun i x z y H1 r e1 e2 e3 sm R hR => ?_) (fun H1 sm D hD => ⟨D, _, rfl, SqL.of upd_same, ?_⟩)
    · obtain ⟨i1, rfl⟩ := intAt e1
      obtain ⟨i2, rfl⟩ := intAt e2
      rw [List.map_map] at e3
      obtain ⟨_, rfl⟩ := mapR e3
      refine ⟨r, _, rfl, SqT.of upd_same, rfl, _, _, rfl, _, _, rfl, rfl, ?_⟩
      exact ⟨_, rfl, _, rfl, _, rfl, b, _, _, _, rfl, rfl, SqT.of (sm _ _ hb), intAtI (by omega), _, _, rfl, rfl, mok (cb i i1) (eb p hp) (by decide), _, rfl, _, rfl, _, rfl, a, _, _, _, rfl, rfl, SqT.of (sm _ _ ha), intAtI hp, _, _, rfl, rfl, mok (eb i i1) (cb p hp) (by decide), rfl, hR _ sm⟩
    · refine k _ _ (sm.trans (same_updN hD)) ⟨fun h => ?_, fun h => ?_⟩
      · refine C4.par_of_place hpn fun i hi => ?_
        have := List.all_eq_true.mp h _ (List.mem_map.mpr ⟨i, List.mem_range.mpr hi, rfl⟩)
        have e := of_decide_eq_true this
        injection e
      · refine List.all_eq_true.mpr fun x hx => ?_
        obtain ⟨i, hi, rfl⟩ := List.mem_map.mp hx
        exact decide_eq_true (by rw [C4.place_of_par hp h i (List.mem_range.mp hi)])
end
end K4

namespace K4
open PySem L2
open PySem.Builtin.Int (intBits)
theorem intLast {c : List Int} {d : Nat} (h : c.length = d + 1) : atI (c.map V.int) (-1) = some (.int (c.getD d 0)) := by
  have e : c.map V.int = (c.take d).map V.int ++ [V.int (c.getD d 0)] := by
    have : c = c.take d ++ [c.getD d 0] := by
      have e1 : c.take (d + 1) = c.take d ++ c[d]?.toList := List.take_add_one
      rw [List.take_of_length_le (by omega), List.getElem?_eq_getElem (by omega)] at e1
      rw [List.getD_eq_getElem?_getD, List.getElem?_eq_getElem (by omega)]
      exact e1
    rw [← List.map_singleton, ← List.map_append]
    exact congrArg (List.map V.int) this
  rw [e]
  exact atI_last _ _
theorem getD_mem {c : List Int} {i : Nat} (h : i < c.length) : c.getD i 0 ∈ c := by
  rw [List.getD_eq_getElem?_getD, List.getElem?_eq_getElem h]
  exact List.getElem_mem h
theorem paired_take {α β : Type} {F : α → β → Prop} : ∀ (n : Nat) {xs : List α} {ys : List β}, Paired F xs ys → Paired F (xs.take n) (ys.take n)
  | 0, _, _, _ => by simpa using Paired.nil
  | n + 1, _, _, .nil => by simpa using Paired.nil
  | n + 1, _, _, .cons h t => by simpa using Paired.cons h (paired_take n t)
theorem paired_drop {α β : Type} {F : α → β → Prop} : ∀ (n : Nat) {xs : List α} {ys : List β}, Paired F xs ys → Paired F (xs.drop n) (ys.drop n)
  | 0, _, _, h => by simpa using h
  | n + 1, _, _, .nil => by simpa using Paired.nil
  | n + 1, _, _, .cons h t => by simpa using paired_drop n t
theorem paired_append {α β : Type} {F : α → β → Prop} : ∀ {xs xs' : List α} {ys ys' : List β}, Paired F xs ys → Paired F xs' ys' → Paired F (xs ++ xs') (ys ++ ys')
  | _, _, _, _, .nil, h => h
  | _, _, _, _, .cons h t, h' => .cons h (paired_append t h')
section
variable {P : Program} {w : World} {K : PySem.W.Frag} {mg : Str → Option Value} {base : Heap} {tD tC : Tok} {aC : Addr}
theorem sc_side : FnScope ["cut", "spot", "left", "bottom", "number", "part"] ["cut", "spot"] (defScope (top 20)) := ⟨rfl, rfl, rfl, by decide +kernel, rfl, by decide +kernel, by decide +kernel⟩
theorem ok_side (D : DefAt K mg "side_of" (top 20)) (B : Bs mg) (C_sign_of : CallOk P w K mg base "sign_of" 1 spSign) : CallOk P w K mg base "side_of" 2 spSide := by
  refine call_of D sc_side (fun _ _ _ _ _ _ us hl => match us, hl with | [_, _], _ => rfl) (fun vs H Q E h => ?_) (fun f cdv A outer s H vs Q E hr h => ?_)
  · obtain ⟨d, v, u, c, sp, rfl, ⟨a, rfl, ha⟩, ⟨s2, us, rfl, hs, hp⟩, hl, hd, hc, bc, bs, k⟩ := h
    rfl
  · obtain ⟨d, v, u, c, sp, rfl, ⟨a, rfl, ha⟩, ⟨s2, us, rfl, hs, hp⟩, hl, hd, hc, bc, bs, k⟩ := h
    refine ⟨_, (pss_cons (ps_set (i := 2) sc_side.nd rfl (Or.inl rfl) (pe_un un_neg (pe_ix ix_tup (pv 0) (pe_un un_neg pe_int) (fun _ _ => rfl))))
      (pss_cons (ps_set (i := 3) sc_side.nd rfl (Or.inl rfl) pe_int)
      (pss_cons (ps_for PassesOwn.never rfl (pi_zip (b1 := true) (b2 := true) rfl B.zip (pa_cons (pe_slice sl_tup (pv 0) po_none (po_some (pe_un un_neg pe_int))) (pa_cons (pv 1) pa_nil))) (pg_tup rfl (pgs_cons (pg_name (i := 4) sc_side.nd rfl (Or.inl rfl)) (pgs_cons (pg_name (i := 5) sc_side.nd rfl (Or.inl rfl)) pgs_nil))) (pss_cons (ps_set (i := 2) sc_side.nd rfl (Or.inl rfl) (pe_op op_add (pe_op op_mulB (pv 2) (pe_ix ix_tup (pv 5) pe_int (fun _ _ => rfl))) (pe_op op_mulB (pe_op op_mulB (pv 4) (pe_ix ix_tup (pv 5) pe_int (fun _ _ => rfl))) (pv 3))))
      (pss_one (ps_set (i := 3) sc_side.nd rfl (Or.inl rfl) (pe_op op_mulB (pv 3) (pe_ix ix_tup (pv 5) pe_int (fun _ _ => rfl)))))))
      (pss_one (ps_ret (pe_callD C_sign_of hr (pa_cons (pv 2) pa_nil))))))), ?_⟩
    have hn := hp.length
    have hcl : (c.map V.int).length = d + 1 := by rw [List.length_map, hc]
    refine ⟨_, rfl, _, rfl, a, _, _, _, rfl, rfl, SqT.of ha, intLast hc, _, rfl, ?_⟩
    refine ⟨_, rfl, _, rfl, _, rfl, a, _, rfl, SqT.of ha, whole_last (by rw [hcl]; omega), fun p0 hp0 => ?_⟩
    have ec : cutV (c.map V.int) none (some (-1)) = (c.take d).map V.int := by rw [cut_last (by rw [hcl]; omega), hcl, Nat.add_sub_cancel, List.map_take]
    rw [ec]
    generalize hHs : upd H p0 (.tup ((c.take d).map V.int)) = Hs
    have sm0 : Same H Hs := by rw [← hHs]; exact same_updN hp0
    have hp0' : Hs p0 = some (.tup ((c.take d).map V.int)) := by rw [← hHs]; exact upd_same
    clear hHs
    refine ⟨_, rfl, p0, s2, rfl, ⟨_, SqT.of hp0'⟩, ⟨_, SqT.of (sm0 _ _ hs)⟩, ?_⟩
    refine for_zip (xs := (c.take d).map V.int) (zs := us) (fun i σ H' => Same Hs H' ∧ ∃ (l b : Int) (v4 v5 : Option V), σ = [some (.ref a), some (.ref s2), some (.int l), some (.int b), v4, v5] ∧ C4.leftLB ((c.take d).drop i) (sp.drop i) (l, b) = C4.leftLB (c.take d) sp (-(c.getD d 0), 1) ∧ intBits l ≤ 1000 * (i + 1) ∧ intBits b ≤ 1000 * (i + 1))
      ⟨Same.refl _, _, _, _, _, rfl, rfl, Nat.le_trans (PyProof.Rows.bits_neg (bc _ (getD_mem (by omega)))) (by omega), by decide⟩ (fun i σ H' q => SqT.of (q.1 _ _ hp0')) (fun i σ H' q => SqT.of (q.1 _ _ (sm0 _ _ hs))) ?_ ?_
    · rintro i x z σ H' p e1 e2 hpn ⟨sm, l, b, v4, v5, rfl, he, bl, bb⟩
      obtain ⟨hi, rfl⟩ := intAt e1
      obtain ⟨f, ef, q, rfl, hq⟩ := pairedGet hp e2
      have hi' : i < d := by rw [List.length_take] at hi; omega
      have smp := sm.trans (same_updN (o := .tup [V.int ((c.take d).getD i 0), V.ref q]) hpn)
      have hq := smp _ _ (sm0 _ _ hq)
      have bf := bs f (List.mem_of_getElem? ef)
      have bn : intBits ((c.take d).getD i 0) ≤ 300 := bc _ (List.mem_of_mem_take (getD_mem hi))
      have m1 := PyProof.Rows.bits_mul bl bf.2
      have m2 := PyProof.Rows.bits_mul bn bf.1
      have m3 := PyProof.Rows.bits_mul m2 bb
      have m4 := PyProof.Rows.bits_mul bb bf.2
      have i3 : i ≤ 3 := by omega
      refine ⟨p, _, rfl, SqT.of upd_same, rfl, _, _, rfl, _, _, rfl, rfl, ?_⟩
      refine ⟨_, rfl, _, rfl, q, _, _, _, rfl, rfl, SqT.of hq, rfl, _, _, rfl, rfl, mok bl bf.2 (by omega), _, rfl, _, rfl, q, _, _, _, rfl, rfl, SqT.of hq, rfl, _, _, rfl, rfl, mok bn bf.1 (by decide), _, rfl, _, _, rfl, rfl, mok m2 bb (by omega), _, _, rfl, rfl, ?_⟩
      refine ⟨_, rfl, _, rfl, q, _, _, _, rfl, rfl, SqT.of hq, rfl, _, _, rfl, rfl, mok bb bf.2 (by omega), ?_⟩
      refine ⟨smp, _, _, _, _, rfl, ?_, Nat.le_trans (PyProof.Rows.bits_add m1 m3) (by omega), Nat.le_trans m4 (by omega)⟩
      rw [← he]
      have d1 : (c.take d).drop i = (c.take d).getD i 0 :: (c.take d).drop (i + 1) := by
        rw [List.drop_eq_getElem_cons hi, List.getD_eq_getElem?_getD, List.getElem?_eq_getElem hi]; rfl
      have hj : i < sp.length := (List.getElem?_eq_some_iff.mp ef).1
      have d2 : sp.drop i = f :: sp.drop (i + 1) := by
        rw [List.drop_eq_getElem_cons hj]
        have : sp[i] = f := by rw [List.getElem?_eq_getElem hj] at ef; exact Option.some.inj ef
        rw [this]
      rw [d1, d2]
      rfl
    · rintro σ H' ⟨sm, l, b, v4, v5, rfl, he, bl, bb⟩
      have e0 : (c.take d).drop (min ((c.take d).map V.int).length us.length) = [] := by
        refine List.drop_of_length_le ?_
        rw [List.length_map, List.length_take]
        omega
      rw [e0] at he
      have : l = C4.sideV d c sp := by
        unfold C4.sideV
        rw [← he]
        rfl
      rw [← this] at k
      exact ⟨_, rfl, l, rfl, k _ (sm0.trans sm)⟩
theorem sc_stand : FnScope ["dims", "ahead", "thing"] ["dims", "ahead", "thing"] (defScope (top 21)) := ⟨rfl, rfl, rfl, by decide +kernel, rfl, by decide +kernel, by decide +kernel⟩
theorem ok_stand (D : DefAt K mg "can_stand" (top 21)) (B : Bs mg) (ER : Er mg tD tC) (C_is_cut : CallOk P w K mg base "is_cut" 2 spCut) (C_same_spots : CallOk P w K mg base "same_spots" 2 spSame) : CallOk P w K mg base "can_stand" 3 spStand := by
  refine call_of D sc_stand (fun _ _ _ _ _ _ us hl => match us, hl with | [_, _, _], _ => rfl) (fun vs H Q E h => ?_) (fun f cdv A outer s H vs Q E hr h => ?_)
  · obtain ⟨d, l, v, us, cs, c, rfl, hl, hp, ⟨a, rfl, ha⟩, h7, hd, hg, hcs, k⟩ := h
    rfl
  · obtain ⟨d, l, v, us, cs, c, rfl, hl, hp, ⟨a, rfl, ha⟩, h7, hd, hg, hcs, k⟩ := h
    refine ⟨_, (pss_cons (ps_if (PW.pt (pw_or (pt_cmpR op_ge (pe_callB call_len_seq (by rfl) B.len bt_len (pa_cons (pv 1) pa_nil)) (pe_glob (v := .int 7) rfl ER.mCuts ⟨_, rfl⟩) (nomark _)) (pw_or1 (pt_not (pt_val (pe_callD C_is_cut hr (pa_cons (pv 0) (pa_cons (pv 2) pa_nil)))))))) (pss_one (ps_ret pe_bl)) pss_nil)
      (pss_one (ps_ret (pe_not (pe_callB (call_any rfl) (by rfl) B.any bt_any (pa_cons (pe_lc (N := ["cut", "thing"]) (ix := [none, some 2]) rfl (pi_list (pv 1)) (lcok (fun _ h => cell_has h) (by rfl)) (keeps_name rfl) (fun _ _ _ _ _ => ⟨(pg_name (i := 0) (show List.Nodup (α := Str) ["cut", "thing"] by decide) rfl (Or.inl rfl)), pif_nil, (pe_callD C_same_spots hr (pa_cons (pv 0) (pa_cons (pv 1) pa_nil)))⟩)) pa_nil)))))), ?_⟩
    have hsz : (1000 : Nat) ≤ sizeLine := by decide
    have hn := hp.length
    refine ⟨_, rfl, l, _, rfl, .inl (SqL.of hl), _, _, rfl, rfl, _, rfl, iteN (fun z => by have := of_decide_eq_true z; omega) ?_⟩
    refine ⟨_, rfl, _, rfl, d, _, c, rfl, ⟨a, rfl, ha⟩, hg.1, hd, hg.2.1, fun H1 s1 => ⟨true, rfl, iteF ?_⟩⟩
    refine ⟨_, rfl, l, rfl, ⟨_, SqL.of (s1 _ _ hl)⟩, ?_⟩
    refine lc_lst (SqL.of (s1 _ _ hl)) ((List.replicate us.length false).map V.bl) (by simp) (by simp; omega) (fun i x y H2 e1 e2 sm R hR => ?_) (fun H2 sm D hD => ⟨D, _, rfl, SqL.of upd_same, _, rfl, ?_⟩)
    · obtain ⟨e, ee, he⟩ := pairedGet hp e1
      obtain ⟨ge, np⟩ := hcs e (List.mem_of_getElem? ee)
      have ey : y = .bl false := by
        rw [List.getElem?_map, List.getElem?_replicate] at e2
        split at e2 <;> cases e2
        rfl
      have sm2 := s1.trans sm
      obtain ⟨q, hq1, hq2⟩ := ge.2.1
      refine ⟨_, rfl, _, rfl, _, _, e, c, rfl, he.same sm2, ⟨a, rfl, sm2 _ _ ha⟩, by rw [ge.1, hg.1], by rw [ge.1]; omega, ⟨q, by rw [ge.1]; omega, hq2⟩, ge.2.2, hg.2.2, fun H3 b s3 hb => ?_⟩
      have eb : b = false := by
        cases b with
        | false => rfl
        | true => exact absurd (hb.mp rfl) np
      rw [eb, ← ey]
      exact hR _ (sm.trans s3)
    · rw [show (List.replicate us.length false).any id = false by simp]
      exact k _ (s1.trans (sm.trans (same_updN hD)))
theorem sc_checked : FnScope ["dims", "things", "ahead", "thing"] ["dims", "things"] (defScope (top 22)) := ⟨rfl, rfl, rfl, by decide +kernel, rfl, by decide +kernel, by decide +kernel⟩
theorem ok_checked (D : DefAt K mg "checked_cuts" (top 22)) (B : Bs mg) (C_is_dims : CallOk P w K mg base "is_dims" 3 spDims) (C_can_stand : CallOk P w K mg base "can_stand" 3 spStand) : CallOk P w K mg base "checked_cuts" 4 spChecked := by
  refine call_of D sc_checked (fun _ _ _ _ _ _ us hl => match us, hl with | [_, _], _ => rfl) (fun vs H Q E h => ?_) (fun f cdv A outer s H vs Q E hr h => ?_)
  · obtain ⟨d, l, us, cs, rfl, h1, h3, hl, hp, hset, k⟩ := h
    rfl
  · obtain ⟨d, l, us, cs, rfl, h1, h3, hl, hp, hset, k⟩ := h
    refine ⟨_, (pss_cons (ps_if (PW.pt (pw_or (pt_not (pt_val (pe_callD C_is_dims hr (pa_cons (pv 0) pa_nil)))) (pw_or1 (pt_not (pt_val (pe_callB call_isi (by rfl) B.isi bt_isi (pa_cons (pv 1) (pa_cons (pe_bltn (v := .ty "list") (by rfl) B.list bt_list rfl) pa_nil)))))))) (pss_one ps_never) pss_nil)
      (pss_cons (ps_set (i := 2) sc_checked.nd rfl (Or.inl rfl) (pe_lst pa_nil))
      (pss_cons (ps_for PassesOwn.never rfl (pi_list (pv 1)) (pg_name (i := 3) sc_checked.nd rfl (Or.inl rfl)) (pss_cons (ps_if (pt_not (pt_val (pe_callD C_can_stand hr (pa_cons (pv 0) (pa_cons (pv 2) (pa_cons (pv 3) pa_nil)))))) (pss_one ps_never) pss_nil)
      (pss_one (ps_expr (pe_bm PySem.F.plainAttrs_list PySem.F.slot_list_append PySem.F.type_list_append mt_append (pv 2) (pa_cons (pe_callTy call_tuple_of (by rfl) B.tuple bt_tuple (pa_cons (pv 3) pa_nil)) pa_nil))))))
      (pss_one (ps_ret (pe_callTy call_tuple_of (by rfl) B.tuple bt_tuple (pa_cons (pv 2) pa_nil))))))), ?_⟩
    have hsz : (1000 : Nat) ≤ sizeLine := by decide
    have hn := hp.length
    have h7 := hset.few
    refine ⟨_, rfl, d, rfl, by omega, by omega, true, rfl, iteF ⟨_, rfl, _, "list", _, true, rfl, TyOf.lst hl, rfl, true, rfl, iteF ?_⟩⟩
    refine ⟨Nat.zero_le _, fun q hq => ?_⟩
    refine ⟨_, rfl, l, rfl, ⟨us, SqL.of (same_updN hq _ _ hl)⟩, ?_⟩
    refine for_list (xs := us) (fun i σ H' => Same H H' ∧ H' q = some (.lst (us.take i)) ∧ ∃ v3, σ = [some (.int d), some (.ref l), some (.ref q), v3]) ⟨same_updN hq, upd_same, _, rfl⟩ (fun i σ H' _ p => SqL.of (p.1 _ _ hl)) ?_ ?_
    · rintro i x σ H' ex ⟨sm, hq', v3, rfl⟩
      obtain ⟨c, ec, hc⟩ := pairedGet hp ex
      have hi : i < us.length := (List.getElem?_eq_some_iff.mp ex).1
      have ht : Paired (IsCut H') (us.take i) (cs.take i) := paired_take i (cuts_same hp sm)
      refine ⟨_, rfl, _, rfl, _, rfl, d, q, x, us.take i, cs.take i, c, rfl, hq', ht, hc.same sm, by rw [List.length_take]; omega, h3, hset.good c (List.mem_of_getElem? ec), fun e he => ⟨hset.good e (List.mem_of_mem_take he), ?_⟩, fun H1 s1 => ⟨true, rfl, iteF ?_⟩⟩
      · obtain ⟨j, hj⟩ := List.mem_iff_getElem?.mp he
        have hj2 : j < i := by
          have := (List.getElem?_eq_some_iff.mp hj).1
          rw [List.length_take] at this
          omega
        rw [List.getElem?_take_of_lt hj2] at hj
        exact hset.apart j i hj2 e c hj ec
      · obtain ⟨a, rfl, ha⟩ := hc
        have sm2 := sm.trans s1
        refine ⟨_, rfl, .inl ⟨rfl, _, SqL.of (s1 _ _ hq')⟩, _, rfl, _, _, rfl, .inr ⟨SqT.of (sm2 _ _ ha), q, _, _, rfl, rfl, s1 _ _ hq', by rw [List.length_take]; omega, same_over sm2 hq, ?_, _, rfl⟩⟩
        rw [upd_same, List.take_add_one, ex]
        rfl
    · rintro σ H' ⟨sm, hq', v3, rfl⟩
      rw [List.take_length] at hq'
      exact ⟨_, rfl, q, us, rfl, .inl ⟨SqL.of hq', fun p hpn => k p _ (sm.trans (same_updN hpn)) upd_same⟩⟩
end
end K4

namespace K4
open PySem L2
open PySem.Builtin.Int (intBits)
structure CuF (K : PySem.W.Frag) (aC : Addr) : Prop where
  cl : Cls K aC
  n1 : NoAttr K aC "own_cuts"
  n2 : NoAttr K aC "own_dims"
def IsCutting (aC : Addr) (H : Hp) (v : V) (d : Nat) (cs : List (List Int)) : Prop := ∃ x dx t us, v = .ref x ∧ H x = some (.ins aC dx [("own_cuts", .ref t), ("own_dims", .int d)]) ∧ H t = some (.tup us) ∧ Paired (IsCut H) us cs ∧ Set' d cs ∧ 1 ≤ d ∧ d ≤ 3
theorem IsCutting.same {aC : Addr} {H H' : Hp} {v : V} {d : Nat} {cs : List (List Int)} (h : IsCutting aC H v d cs) (s : Same H H') : IsCutting aC H' v d cs :=
  let ⟨x, dx, t, us, e, h1, h2, h3, h4⟩ := h; ⟨x, dx, t, us, e, s _ _ h1, s _ _ h2, cuts_same h3 s, h4⟩
def spInit (aC : Addr) : Sp := fun vs H Q _ => ∃ (d : Nat) (x dx l : Addr) (us : List V) (cs : List (List Int)) (H0 : Hp), vs = [.ref x, .int d, .ref l] ∧ H x = some (.ins aC dx []) ∧ Same H0 H ∧ H0 x = none ∧ H0 l = some (.lst us) ∧ Paired (IsCut H0) us cs ∧ Set' d cs ∧ 1 ≤ d ∧ d ≤ 3 ∧
  ∀ H', Same H0 H' → IsCutting aC H' (.ref x) d cs → Q .non H'
def spMdims (aC : Addr) : Sp := fun vs H Q _ => ∃ v d cs, vs = [v] ∧ IsCutting aC H v d cs ∧ Q (.int d) H
def spMmany (aC : Addr) : Sp := fun vs H Q _ => ∃ v d cs, vs = [v] ∧ IsCutting aC H v d cs ∧ Q (.int cs.length) H
def spMcuts (aC : Addr) : Sp := fun vs H Q _ => ∃ v d cs, vs = [v] ∧ IsCutting aC H v d cs ∧ ∀ l us H', Same H H' → H l = none → H' l = some (.lst us) → Paired (IsCut H') us cs → Q (.ref l) H'
def spMsides (aC : Addr) : Sp := fun vs H Q _ => ∃ v u d cs sp, vs = [v, u] ∧ IsCutting aC H v d cs ∧ IsSpot H u sp ∧ sp.length = d ∧ GoodSpot sp ∧ BitsSpot sp ∧ ∀ p H', Same H H' → H' p = some (.tup ((cs.map fun c => C4.sgn (C4.sideV d c sp)).map V.int)) → Q (.ref p) H'
def spMwithout (aC : Addr) : Sp := fun vs H Q _ => ∃ v d cs, ∃ k : Nat, vs = [v, .int k] ∧ IsCutting aC H v d cs ∧ k < cs.length ∧ ∀ r H', Same H H' → IsCutting aC H' (.ref r) d (cs.take k ++ cs.drop (k + 1)) → Q (.ref r) H'
def spMwith (aC : Addr) : Sp := fun vs H Q _ => ∃ v u d cs c, vs = [v, u] ∧ IsCutting aC H v d cs ∧ IsCut H u c ∧ Set' d (cs ++ [c]) ∧ ∀ r H', Same H H' → IsCutting aC H' (.ref r) d (cs ++ [c]) → Q (.ref r) H'
theorem cut_from {xs : List V} {k : Nat} (h : k ≤ xs.length) : cutV xs (some (k : Int)) none = xs.drop k := by
  unfold cutV
  rw [HT.sIx_nat, HT.sIx_none, Nat.min_eq_left h]
  exact List.take_of_length_le (by rw [List.length_drop]; omega)
theorem whole_from {n k : Nat} (h : 1 ≤ k) (hn : 1 ≤ n) : ¬ (HT.sIx n 0 (some (k : Int)) = 0 ∧ HT.sIx n n none = n) := fun z => by
  have := z.1
  rw [HT.sIx_nat] at this
  omega
theorem Set'.less {d : Nat} {cs : List (List Int)} (h : Set' d cs) (k : Nat) : Set' d (cs.take k ++ cs.drop (k + 1)) := by
  have sub : (cs.take k ++ cs.drop (k + 1)).Sublist cs := by
    rw [← List.eraseIdx_eq_take_drop_succ]
    exact List.eraseIdx_sublist ..
  exact ⟨fun e he => h.good e (sub.subset he), Nat.le_trans sub.length_le h.few, h.pw.sublist sub⟩
section
variable {P : Program} {w : World} {K : PySem.W.Frag} {mg : Str → Option Value} {base : Heap} {tD tC : Tok} {aC : Addr}
theorem sc_minit : FnScope ["self", "dims", "cuts"] ["self", "dims", "cuts"] (defScope (inClass (top 23) 0)) := ⟨rfl, rfl, rfl, by decide +kernel, rfl, by decide +kernel, by decide +kernel⟩
theorem ok_minit (CF : CuF K aC) (D : MDefAt K aC "__init__" "Cutting.__init__" (inClass (top 23) 0)) (mk : PySem.W.makesIn K aC = true) (kp : PySem.W.keepIn K (.ref aC) = true) (hm : mg "Cutting" = some (.ref aC)) (C_checked_cuts : CallOk P w K mg base "checked_cuts" 4 spChecked) : MkOk P w K mg base "Cutting" aC 5 (spInit aC) := by
  obtain ⟨fi, fd, F, M⟩ := D.ex
  refine ⟨⟨fi, fd, _, F.ok sc_minit (fun vs H Q E h => ?_) (fun cdv A outer s H vs Q E hr h => ?_), ⟨mk, M.at_, M.fn, kp⟩, F.binds (fun _ _ _ _ _ _ us hl => match us, hl with | [_, _, _], _ => rfl)⟩, hm⟩
  · obtain ⟨d, x, dx, l, us, cs, H0, rfl, _⟩ := h
    rfl
  · obtain ⟨d, x, dx, l, us, cs, H0, rfl, hx, s0, h0, hl, hp, hset, d1, d3, k⟩ := h
    refine ⟨_, (pss_cons (ps_fld (pv 0) (pe_callD C_checked_cuts hr (pa_cons (pv 1) (pa_cons (pv 2) pa_nil))) rfl)
      (pss_one (ps_fld (pv 0) (pv 1) rfl))), ?_⟩
    refine ⟨_, rfl, _, rfl, d, l, us, cs, rfl, d1, d3, s0 _ _ hl, cuts_same hp s0, hset, fun p H1 s1 hp1 => ?_⟩
    have hx1 := s1 _ _ hx
    have ne : p ≠ x := ne_of hp1 hx1 (by intro z; cases z)
    refine ⟨_, rfl, x, aC, dx, _, rfl, hx1, CF.cl, CF.n1, by show 0 < 1000; decide, ?_⟩
    refine ⟨_, rfl, _, rfl, x, aC, dx, _, rfl, upd_same, CF.cl, CF.n2, by show 1 < 1000; decide, ?_⟩
    have sf : Same H0 (upd (upd H1 x (.ins aC dx (putF "own_cuts" (.ref p) []))) x (.ins aC dx (putF "own_dims" (.int d) (putF "own_cuts" (.ref p) [])))) := same_over (same_over (s0.trans s1) h0) h0
    exact k _ sf ⟨x, dx, p, us, rfl, upd_same, by rw [upd_ne ne, upd_ne ne]; exact hp1, cuts_same hp sf, hset, d1, d3⟩
theorem sc_mdims : FnScope ["self"] ["self"] (defScope (inClass (top 23) 1)) := ⟨rfl, rfl, rfl, by decide +kernel, rfl, by decide +kernel, by decide +kernel⟩
theorem ok_mdims (CF : CuF K aC) (D : MDefAt K aC "dims" "Cutting.dims" (inClass (top 23) 1))  : MethOk P w K mg base aC "dims" 1 (spMdims aC) := by
  refine meth_of CF.cl D sc_mdims (fun _ _ _ _ _ _ us hl => match us, hl with | [_], _ => rfl) (fun vs H Q E h => ?_) (fun f cdv A outer s H vs Q E hr h => ?_)
  · obtain ⟨v, d, cs, rfl, ⟨x, dx, t, us, rfl, hx, ht, hp, hset, d1, d3⟩, k⟩ := h
    rfl
  · obtain ⟨v, d, cs, rfl, ⟨x, dx, t, us, rfl, hx, ht, hp, hset, d1, d3⟩, k⟩ := h
    refine ⟨_, (pss_one (ps_ret (pe_fld (pv 0) rfl))), ?_⟩
    exact ⟨_, rfl, x, aC, dx, _, _, rfl, hx, CF.cl, CF.n2, rfl, k⟩
theorem sc_mcuts : FnScope ["self"] ["self"] (defScope (inClass (top 23) 2)) := ⟨rfl, rfl, rfl, by decide +kernel, rfl, by decide +kernel, by decide +kernel⟩
theorem ok_mcuts (CF : CuF K aC) (D : MDefAt K aC "cuts" "Cutting.cuts" (inClass (top 23) 2)) (B : Bs mg) : MethOk P w K mg base aC "cuts" 1 (spMcuts aC) := by
  refine meth_of CF.cl D sc_mcuts (fun _ _ _ _ _ _ us hl => match us, hl with | [_], _ => rfl) (fun vs H Q E h => ?_) (fun f cdv A outer s H vs Q E hr h => ?_)
  · obtain ⟨v, d, cs, rfl, ⟨x, dx, t, us, rfl, hx, ht, hp, hset, d1, d3⟩, k⟩ := h
    rfl
  · obtain ⟨v, d, cs, rfl, ⟨x, dx, t, us, rfl, hx, ht, hp, hset, d1, d3⟩, k⟩ := h
    refine ⟨_, (pss_one (ps_ret (pe_callTy call_list_of (by rfl) B.list bt_list (pa_cons (pe_fld (pv 0) rfl) pa_nil)))), ?_⟩
    exact ⟨_, rfl, x, aC, dx, _, _, rfl, hx, CF.cl, CF.n1, rfl, t, us, rfl, .inr (SqT.of ht), fun l hl => k l us _ (same_updN hl) hl upd_same (cuts_same hp (same_updN hl))⟩
theorem sc_mmany : FnScope ["self"] ["self"] (defScope (inClass (top 23) 3)) := ⟨rfl, rfl, rfl, by decide +kernel, rfl, by decide +kernel, by decide +kernel⟩
theorem ok_mmany (CF : CuF K aC) (D : MDefAt K aC "many" "Cutting.many" (inClass (top 23) 3)) (B : Bs mg) : MethOk P w K mg base aC "many" 1 (spMmany aC) := by
  refine meth_of CF.cl D sc_mmany (fun _ _ _ _ _ _ us hl => match us, hl with | [_], _ => rfl) (fun vs H Q E h => ?_) (fun f cdv A outer s H vs Q E hr h => ?_)
  · obtain ⟨v, d, cs, rfl, ⟨x, dx, t, us, rfl, hx, ht, hp, hset, d1, d3⟩, k⟩ := h
    rfl
  · obtain ⟨v, d, cs, rfl, ⟨x, dx, t, us, rfl, hx, ht, hp, hset, d1, d3⟩, k⟩ := h
    refine ⟨_, (pss_one (ps_ret (pe_callB call_len_seq (by rfl) B.len bt_len (pa_cons (pe_fld (pv 0) rfl) pa_nil)))), ?_⟩
    rw [← hp.length] at k
    exact ⟨_, rfl, x, aC, dx, _, _, rfl, hx, CF.cl, CF.n1, rfl, t, us, rfl, .inr (SqT.of ht), k⟩
theorem sc_msides : FnScope ["self", "spot"] ["self", "spot"] (defScope (inClass (top 23) 4)) := ⟨rfl, rfl, rfl, by decide +kernel, rfl, by decide +kernel, by decide +kernel⟩
theorem ok_msides (CF : CuF K aC) (D : MDefAt K aC "sides" "Cutting.sides" (inClass (top 23) 4)) (B : Bs mg) (C_is_spot : CallOk P w K mg base "is_spot" 3 spSpot) (C_side_of : CallOk P w K mg base "side_of" 3 spSide) : MethOk P w K mg base aC "sides" 4 (spMsides aC) := by
  refine meth_of CF.cl D sc_msides (fun _ _ _ _ _ _ us hl => match us, hl with | [_, _], _ => rfl) (fun vs H Q E h => ?_) (fun f cdv A outer s H vs Q E hr h => ?_)
  · obtain ⟨v, u, d, cs, sp, rfl, ⟨x, dx, t, us, rfl, hx, ht, hp, hset, d1, d3⟩, hs, hl, hg, hbt, k⟩ := h
    rfl
  · obtain ⟨v, u, d, cs, sp, rfl, ⟨x, dx, t, us, rfl, hx, ht, hp, hset, d1, d3⟩, hs, hl, hg, hbt, k⟩ := h
    refine ⟨_, (pss_cons (ps_if (pt_not (pt_val (pe_callD C_is_spot hr (pa_cons (pe_fld (pv 0) rfl) (pa_cons (pv 1) pa_nil))))) (pss_one ps_never) pss_nil)
      (pss_one (ps_ret (pe_callTy call_tuple_of (by rfl) B.tuple bt_tuple (pa_cons (pe_lc (N := ["cut", "spot"]) (ix := [none, some 1]) rfl (pi_tup (pe_fld (pv 0) rfl)) (lcok (fun _ h => cell_has h) (by rfl)) (keeps_name rfl) (fun _ _ _ _ _ => ⟨(pg_name (i := 0) (show List.Nodup (α := Str) ["cut", "spot"] by decide) rfl (Or.inl rfl)), pif_nil, (pe_callD C_side_of hr (pa_cons (pv 0) (pa_cons (pv 1) pa_nil)))⟩)) pa_nil))))), ?_⟩
    have hsz : (1000 : Nat) ≤ sizeLine := by decide
    have hn := hp.length
    have h7 := hset.few
    refine ⟨_, rfl, x, aC, dx, _, _, rfl, hx, CF.cl, CF.n2, rfl, _, rfl, d, _, sp, rfl, hs, hl, d3, hg, fun H1 s1 => ⟨true, rfl, iteF ?_⟩⟩
    refine ⟨_, rfl, x, aC, dx, _, _, rfl, (s1 _ _ hx), CF.cl, CF.n1, rfl, t, rfl, ⟨us, SqT.of (s1 _ _ ht)⟩, ?_⟩
    refine lc_tup (SqT.of (s1 _ _ ht)) ((cs.map fun c => C4.sgn (C4.sideV d c sp)).map V.int) (by simp; omega) (by simp; omega) (fun i x y H2 e1 e2 sm R hR => ?_) (fun H2 sm D hD => ⟨D, _, rfl, .inl ⟨SqL.of upd_same, fun l hl => k l _ (s1.trans (sm.trans ((same_updN hD).trans (same_updN hl)))) upd_same⟩⟩)
    obtain ⟨c, ec, hc⟩ := pairedGet hp e1
    have gc := hset.good c (List.mem_of_getElem? ec)
    have ey : y = .int (C4.sgn (C4.sideV d c sp)) := by
      rw [List.getElem?_map, List.getElem?_map, ec] at e2
      cases e2
      rfl
    have sm2 := s1.trans sm
    refine ⟨_, rfl, _, rfl, d, _, _, c, sp, rfl, hc.same sm2, hs.same sm2, hl, d3, gc.1, gc.2.2, hbt, fun H3 s3 => ?_⟩
    rw [← ey]
    exact hR _ (sm.trans s3)
theorem sc_mwithout : FnScope ["self", "k"] ["self", "k"] (defScope (inClass (top 23) 5)) := ⟨rfl, rfl, rfl, by decide +kernel, rfl, by decide +kernel, by decide +kernel⟩
theorem ok_mwithout (CF : CuF K aC) (D : MDefAt K aC "without" "Cutting.without" (inClass (top 23) 5)) (B : Bs mg) (C_is_number_of : CallOk P w K mg base "is_number_of" 6 spNum) (C_Cutting : MkOk P w K mg base "Cutting" aC 5 (spInit aC)) : MethOk P w K mg base aC "without" 7 (spMwithout aC) := by
  refine meth_of CF.cl D sc_mwithout (fun _ _ _ _ _ _ us hl => match us, hl with | [_, _], _ => rfl) (fun vs H Q E h => ?_) (fun f cdv A outer s H vs Q E hr h => ?_)
  · obtain ⟨v, d, cs, kk, rfl, ⟨x, dx, t, us, rfl, hx, ht, hp, hset, d1, d3⟩, hk, k⟩ := h
    rfl
  · obtain ⟨v, d, cs, kk, rfl, ⟨x, dx, t, us, rfl, hx, ht, hp, hset, d1, d3⟩, hk, k⟩ := h
    refine ⟨_, (pss_cons (ps_if (pt_not (pt_val (pe_callD C_is_number_of hr (pa_cons (pv 1) (pa_cons (pe_callB call_len_seq (by rfl) B.len bt_len (pa_cons (pe_fld (pv 0) rfl) pa_nil)) pa_nil))))) (pss_one ps_never) pss_nil)
      (pss_one (ps_ret (pe_mk C_Cutting hr (pa_cons (pe_fld (pv 0) rfl) (pa_cons (pe_callTy call_list_of (by rfl) B.list bt_list (pa_cons (pe_op op_catA (pe_slice sl_tup (pe_fld (pv 0) rfl) po_none (po_some (pv 1))) (pe_slice sl_tup (pe_fld (pv 0) rfl) (po_some (pe_op op_add (pv 1) pe_int)) po_none)) pa_nil)) pa_nil)))))), ?_⟩
    have hsz : (1000 : Nat) ≤ sizeLine := by decide
    have hn := hp.length
    have h7 := hset.few
    refine ⟨_, rfl, _, rfl, x, aC, dx, _, _, rfl, hx, CF.cl, CF.n1, rfl, t, us, rfl, .inr (SqT.of ht), kk, us.length, rfl, by omega, by omega, true, rfl, iteF ?_⟩
    refine ⟨_, rfl, x, aC, dx, _, _, rfl, hx, CF.cl, CF.n2, rfl, _, rfl, x, aC, dx, _, _, rfl, hx, CF.cl, CF.n1, rfl, _, rfl, _, rfl, t, us, rfl, SqT.of ht, whole_take (by omega), fun p1 h1 => ?_⟩
    have s1 := same_updN (o := .tup (cutV us none (some (kk : Int)))) h1
    refine ⟨_, rfl, x, aC, dx, _, _, rfl, (s1 _ _ hx), CF.cl, CF.n1, rfl, _, rfl, _, _, rfl, rfl, _, rfl, t, us, rfl, SqT.of (s1 _ _ ht), whole_from (k := kk + 1) (by omega) (by omega), fun p2 h2 => ?_⟩
    have s2 := same_updN (o := .tup (cutV us (some ((kk + 1 : Nat) : Int)) none)) h2
    refine ⟨p1, p2, _, _, rfl, rfl, SqT.of (s2 _ _ upd_same), SqT.of upd_same, ?_, fun p3 H3 s3 hq3 => ?_⟩
    · have a1 := cutV_length us none (some (kk : Int))
      have a2 := cutV_length us (some ((kk : Int) + 1)) none
      omega
    have ee : cutV us none (some (kk : Int)) ++ cutV us (some ((kk + 1 : Nat) : Int)) none = us.take kk ++ us.drop (kk + 1) := by rw [cut_take (by omega), cut_from (by omega)]
    have hq3' : SqT K H3 p3 (us.take kk ++ us.drop (kk + 1)) := by rw [← ee]; exact hq3
    have sA := (s1.trans s2).trans s3
    refine ⟨p3, _, rfl, .inr hq3', fun l hl => ?_⟩
    have sB := sA.trans (same_updN (o := .lst (us.take kk ++ us.drop (kk + 1))) hl)
    refine fun x2 dx2 n1 n2 ne => ⟨d, x2, dx2, l, (us.take kk ++ us.drop (kk + 1)), (cs.take kk ++ cs.drop (kk + 1)), _, rfl, upd_same, same_over (same_updN n2) n1, n1, upd_same, cuts_same (paired_append (paired_take kk hp) (paired_drop (kk + 1) hp)) sB, hset.less kk, d1, d3, fun H9 s9 hc9 => ⟨rfl, k _ _ (sB.trans s9) hc9⟩⟩
theorem sc_mwith : FnScope ["self", "cut"] ["self", "cut"] (defScope (inClass (top 23) 6)) := ⟨rfl, rfl, rfl, by decide +kernel, rfl, by decide +kernel, by decide +kernel⟩
theorem ok_mwith (CF : CuF K aC) (D : MDefAt K aC "with_one" "Cutting.with_one" (inClass (top 23) 6)) (B : Bs mg) (C_Cutting : MkOk P w K mg base "Cutting" aC 5 (spInit aC)) : MethOk P w K mg base aC "with_one" 7 (spMwith aC) := by
  refine meth_of CF.cl D sc_mwith (fun _ _ _ _ _ _ us hl => match us, hl with | [_, _], _ => rfl) (fun vs H Q E h => ?_) (fun f cdv A outer s H vs Q E hr h => ?_)
  · obtain ⟨v, u, d, cs, c, rfl, ⟨x, dx, t, us, rfl, hx, ht, hp, hset, d1, d3⟩, hc, hset2, k⟩ := h
    rfl
  · obtain ⟨v, u, d, cs, c, rfl, ⟨x, dx, t, us, rfl, hx, ht, hp, hset, d1, d3⟩, hc, hset2, k⟩ := h
    refine ⟨_, (pss_one (ps_ret (pe_mk C_Cutting hr (pa_cons (pe_fld (pv 0) rfl) (pa_cons (pe_op op_cat (pe_callTy call_list_of (by rfl) B.list bt_list (pa_cons (pe_fld (pv 0) rfl) pa_nil)) (pe_lst (pa_cons (pv 1) pa_nil))) pa_nil))))), ?_⟩
    have hsz : (1000 : Nat) ≤ sizeLine := by decide
    have hn := hp.length
    have h7 := hset.few
    refine ⟨_, rfl, x, aC, dx, _, _, rfl, hx, CF.cl, CF.n2, rfl, _, rfl, x, aC, dx, _, _, rfl, hx, CF.cl, CF.n1, rfl, t, us, rfl, .inr (SqT.of ht), fun l1 h1 => ?_⟩
    refine ⟨_, rfl, by show 1 ≤ sizeLine; decide, fun l2 h2 => ?_⟩
    have s1 := same_updN (o := .lst us) h1
    have s2 := same_updN (o := .lst [u]) h2
    refine ⟨l1, l2, us, [u], rfl, rfl, s2 _ _ upd_same, upd_same, by show us.length + 1 ≤ sizeLine; omega, fun l3 h3 => ?_⟩
    have sB := (s1.trans s2).trans (same_updN (o := .lst (us ++ [u])) h3)
    refine fun x2 dx2 n1 n2 ne => ⟨d, x2, dx2, l3, (us ++ [u]), (cs ++ [c]), _, rfl, upd_same, same_over (same_updN n2) n1, n1, upd_same, paired_append (cuts_same hp sB) (.cons (hc.same sB) .nil), hset2, d1, d3, fun H9 s9 hc9 => ⟨rfl, k _ _ (sB.trans s9) hc9⟩⟩
end
end K4

namespace K4
open PySem L2
open PySem.Builtin.Int (intBits)
def spLowest : Sp := fun vs H Q _ => ∃ t b, vs = [.int t, .int b] ∧ b ≠ 0 ∧ intBits b ≤ 8000 ∧ ∀ p, H p = none → Q (.ref p) (upd H p (.tup [.int (t.fdiv (Cu.G t b)), .int (b.fdiv (Cu.G t b))]))
def spCell (K : PySem.W.Frag) : Sp := fun vs H Q _ => ∃ (a : Addr) (ns : List Int) (k : Nat), vs = [.ref a, .int k] ∧ SqL K H a (ns.map V.int) ∧ (∀ z ∈ ns, intBits z ≤ 2 ^ 20) ∧ ∀ z, intBits z ≤ 2 ^ 20 → Q (.int z) H
def spDraw : Sp := fun vs H Q _ => ∃ c k b, vs = [.int c, .int k, .int b] ∧ intBits c ≤ 2 ^ 20 ∧ 0 ≤ k ∧ k ≤ 100 ∧ 0 < b ∧ b ≤ 10 ^ 12 ∧ ∀ r, 0 ≤ r → r < b → Q (.int r) H
def spLSame : Sp := fun vs H Q _ => ∃ v u c e, vs = [v, u] ∧ IsCut H v c ∧ IsCut H u e ∧ c.length = e.length ∧ c.length ≤ 4 ∧ (∀ z ∈ c, intBits z ≤ 300) ∧ (∀ z ∈ e, intBits z ≤ 300) ∧ ∀ b, (b = true ↔ C4.Par c e) → Q (.bl b) H
theorem bits12 {b : Int} (h0 : 0 ≤ b) (h : b ≤ 10 ^ 12) : intBits b ≤ 200 := by
  have h3 : (10 : Int) ^ 12 ≤ 10 ^ 59 := by decide +kernel
  refine Cu.bits_t ?_ ?_ <;> (generalize (10 : Int) ^ 59 = T at *; generalize (10 : Int) ^ 12 = S at *; omega)
theorem bits18 {b : Int} (h0 : -(10 ^ 12) ≤ b) (h : b ≤ 10 ^ 12) : intBits b ≤ 200 := by
  have h3 : (10 : Int) ^ 12 ≤ 10 ^ 59 := by decide +kernel
  refine Cu.bits_t ?_ ?_ <;> (generalize (10 : Int) ^ 59 = T at *; generalize (10 : Int) ^ 12 = S at *; omega)
section
variable {P : Program} {w : World} {K : PySem.W.Frag} {mg : Str → Option Value} {base : Heap} {tD tC : Tok} {aC : Addr}
theorem scq27 : FnScope ["_law_found"] ["_law_found"] (defScope (top 27)) := ⟨rfl, rfl, rfl, by decide +kernel, rfl, by decide +kernel, by decide +kernel⟩
theorem ok_lwhole (D : DefAt K mg "_law_whole" (top 27)) (B : Bs mg) : CallOk P w K mg base "_law_whole" 1 spWhole := by
  refine call_of D scq27 (fun _ _ _ _ _ _ us hl => match us, hl with | [_], _ => rfl) (fun vs H Q E h => ?_) (fun f cdv A outer s H vs Q E hr h => ?_)
  · obtain ⟨i, rfl, _⟩ := h
    rfl
  · obtain ⟨i, rfl, k⟩ := h
    refine ⟨_, pss_one (ps_ret (pe_and (pe_callB call_isi rfl B.isi bt_isi (pa_cons (pv 0) (pa_cons (pe_bltn (v := .ty "int") rfl B.int bt_int rfl) pa_nil)))
      (pe_one (pe_not (pe_callB call_isi rfl B.isi bt_isi (pa_cons (pv 0) (pa_cons (pe_bltn (v := .ty "bool") rfl B.bool bt_bool rfl) pa_nil))))))), ?_⟩
    refine ⟨_, rfl, _, "int", _, true, rfl, TyOf.int i, rfl, true, rfl, ?_⟩
    refine iteT ⟨_, rfl, _, "bool", _, false, rfl, TyOf.int i, rfl, false, rfl, k⟩
theorem scq28 : FnScope ["_law_one", "_law_other"] ["_law_one", "_law_other"] (defScope (top 28)) := ⟨rfl, rfl, rfl, by decide +kernel, rfl, by decide +kernel, by decide +kernel⟩
theorem ok_lcommon (D : DefAt K mg "_law_common" (top 28)) (B : Bs mg) : CallOk P w K mg base "_law_common" 1 spCommon := by
  refine call_of D scq28 (fun _ _ _ _ _ _ us hl => match us, hl with | [_, _], _ => rfl) (fun vs H Q E h => ?_) (fun f cdv A outer s H vs Q E hr h => ?_)
  · obtain ⟨a, b, rfl, _⟩ := h
    rfl
  · obtain ⟨a, b, rfl, k⟩ := h
    refine ⟨_, pss_cons (ps_set (i := 0) scq28.nd rfl (Or.inl rfl) (pe_callB call_abs rfl B.abs bt_abs (pa_cons (pv 0) pa_nil)))
      (pss_cons (ps_set (i := 1) scq28.nd rfl (Or.inl rfl) (pe_callB call_abs rfl B.abs bt_abs (pa_cons (pv 1) pa_nil)))
      (pss_cons (ps_while PassesOwn.never (pt_cmpR op_gt (pv 1) pe_int (nomark _)) (pss_one (ps_par (i := 0) (j := 1) rfl scq28.nd rfl rfl (by decide) rfl rfl (pa_cons (pv 1) (pa_cons (pe_op op_modN (pv 0) (pv 1)) pa_nil)) (by rfl))))
      (pss_one (ps_ret (pv 0))))), ?_⟩
    refine ⟨_, rfl, _, rfl, _, rfl, _, rfl, ?_⟩
    refine while_by (fun σ H' => H' = H ∧ ∃ x y : Int, σ = [some (.int x), some (.int y)] ∧ 0 ≤ x ∧ 0 ≤ y ∧ Cu.G x y = Cu.G a b) (fun σ _ => match σ with | [_, some (.int y)] => y.natAbs | _ => 0)
      ⟨rfl, _, _, rfl, by split <;> omega, by split <;> omega, ?_⟩ ?_ ?_
    · have e1 : (if a < 0 then -a else a) = ((a.natAbs : Nat) : Int) := by split <;> omega
      have e2 : (if b < 0 then -b else b) = ((b.natAbs : Nat) : Int) := by split <;> omega
      rw [e1, e2, Cu.G_abs]
    · rintro σ H' ⟨rfl, x, y, rfl, hx, hy, hg⟩
      refine ⟨_, rfl, _, _, rfl, rfl, _, rfl, ?_⟩
      refine ite2 (fun hc => ?_) (fun hc => ?_)
      · have hy' : 0 < y := of_decide_eq_true hc
        refine ⟨_, rfl, _, rfl, _, rfl, _, _, rfl, rfl, by omega, _, _, rfl, ⟨rfl, _, _, rfl, hy, Int.fmod_nonneg_of_pos x hy', ?_⟩, Cu.fmod_less x y (by omega)⟩
        rw [Cu.G_turn]
        exact hg
      · have hy' : ¬ 0 < y := fun z => hc (decide_eq_true z)
        have e : y = 0 := by omega
        subst e
        rw [Cu.G_zero] at hg
        have e2 : x = Cu.G a b := by omega
        refine ⟨_, rfl, ?_⟩
        rw [← e2] at k
        exact k
    · rintro σ H' Q1 Q2 hm ⟨v, hv, i, j, e1, e2, k', e3, q⟩
      exact ⟨v, hv, i, j, e1, e2, k', e3, hm _ _ q⟩
theorem scq29 : FnScope ["_law_top", "_law_bottom", "_law_share"] ["_law_top", "_law_bottom"] (defScope (top 29)) := ⟨rfl, rfl, rfl, by decide +kernel, rfl, by decide +kernel, by decide +kernel⟩
theorem ok_llowest (D : DefAt K mg "_law_lowest" (top 29)) (C : CallOk P w K mg base "_law_common" 1 spCommon) : CallOk P w K mg base "_law_lowest" 2 spLowest := by
  refine call_of D scq29 (fun _ _ _ _ _ _ us hl => match us, hl with | [_, _], _ => rfl) (fun vs H Q E h => ?_) (fun f cdv A outer s H vs Q E hr h => ?_)
  · obtain ⟨a, b, rfl, _⟩ := h
    rfl
  · obtain ⟨t, b, rfl, hb, hbits, k⟩ := h
    refine ⟨_, pss_cons (ps_set (i := 2) scq29.nd rfl (Or.inl rfl) (pe_callD C hr (pa_cons (pv 0) (pa_cons (pv 1) pa_nil))))
      (pss_one (ps_ret (pe_tup (pa_cons (pe_op op_fdivB (pv 0) (pv 2)) (pa_cons (pe_op op_fdivB (pv 1) (pv 2)) pa_nil))))), ?_⟩
    have hg := Cu.G_pos t b hb
    have hn : ∀ x, PySem.Builtin.divisionGoesByPylong x (Cu.G t b) = false := fun x => Cu.noPy (Cu.bits_G hb hbits) (by decide)
    refine ⟨_, rfl, _, rfl, t, b, rfl, ?_⟩
    exact ⟨_, rfl, _, rfl, _, _, rfl, rfl, ⟨by omega, hn _⟩, _, rfl, _, rfl, _, _, rfl, rfl, ⟨by omega, hn _⟩, (by show 2 ≤ sizeLine; decide), k⟩
theorem sc_cell : FnScope ["_law_script", "_law_k"] ["_law_script", "_law_k"] (defScope (top 25)) := ⟨rfl, rfl, rfl, by decide +kernel, rfl, by decide +kernel, by decide +kernel⟩
theorem ok_cell (D : DefAt K mg "_law_cell_at" (top 25)) (B : Bs mg) : CallOk P w K mg base "_law_cell_at" 1 (spCell K) := by
  refine call_of D sc_cell (fun _ _ _ _ _ _ us hl => match us, hl with | [_, _], _ => rfl) (fun vs H Q E h => ?_) (fun f cdv A outer s H vs Q E hr h => ?_)
  · obtain ⟨a, ns, j, rfl, hS, hb, k⟩ := h
    rfl
  · obtain ⟨a, ns, j, rfl, hS, hb, k⟩ := h
    refine ⟨_, (pss_cons (ps_if (pt_cmpR op_lt (pv 1) (pe_callB call_len_seq (by rfl) B.len bt_len (pa_cons (pv 0) pa_nil)) (nomark _)) (pss_one (ps_ret (pe_ix ix_list (pv 0) (pv 1) (fun _ _ => rfl)))) pss_nil)
      (pss_one (ps_ret pe_int))), ?_⟩
    refine ⟨_, rfl, _, rfl, a, _, rfl, .inl hS, _, _, rfl, rfl, _, rfl, ite2 (fun hc => ?_) (fun hc => k 0 (by decide))⟩
    have hl : j < ns.length := by
      have := of_decide_eq_true hc
      rw [List.length_map] at this
      omega
    refine ⟨_, rfl, _, rfl, a, _, _, _, rfl, rfl, hS, atI_nat (j := j) (v := V.int ns[j]) (by rw [List.getElem?_map, List.getElem?_eq_getElem hl]; rfl), k _ (hb _ (List.getElem_mem hl))⟩
theorem sc_draw : FnScope ["_law_cell", "_law_k", "_law_bound", "_law_left", "_law_j", "_law_stir"] ["_law_cell", "_law_k", "_law_bound"] (defScope (top 26)) := ⟨rfl, rfl, rfl, by decide +kernel, rfl, by decide +kernel, by decide +kernel⟩
theorem ok_draw (D : DefAt K mg "_law_draw" (top 26)) (B : Bs mg) : CallOk P w K mg base "_law_draw" 1 spDraw := by
  refine call_of D sc_draw (fun _ _ _ _ _ _ us hl => match us, hl with | [_, _, _], _ => rfl) (fun vs H Q E h => ?_) (fun f cdv A outer s H vs Q E hr h => ?_)
  · obtain ⟨c, kk, b, rfl, hc, k0, k1, b0, b1, k⟩ := h
    rfl
  · obtain ⟨c, kk, b, rfl, hc, k0, k1, b0, b1, k⟩ := h
    refine ⟨_, (pss_cons (ps_if (pt_cmpR op_ge (pv 0) (pe_op op_pow pe_int pe_int) (nomark _)) (pss_cons (ps_set (i := 3) sc_draw.nd rfl (Or.inl rfl) (pv 0))
      (pss_cons (ps_for PassesOwn.never rfl (pi_range1 rfl B.range (pa_cons (pv 1) pa_nil)) (pg_name (i := 4) sc_draw.nd rfl (Or.inl rfl)) (pss_one (ps_set (i := 3) sc_draw.nd rfl (Or.inl rfl) (pe_op op_fdivB (pv 3) (pv 2)))))
      (pss_one (ps_ret (pe_op op_mod (pv 3) (pv 2)))))) pss_nil)
      (pss_cons (ps_set (i := 5) sc_draw.nd rfl (Or.inl rfl) (pe_op op_mod (pe_op op_mulB (pe_op op_add (pe_op op_add (pe_op op_mod (pv 0) pe_int) (pe_op op_mulB pe_int (pv 1))) pe_int) pe_int) pe_int))
      (pss_cons (ps_set (i := 5) sc_draw.nd rfl (Or.inl rfl) (pe_op op_mod (pe_op op_add (pe_op op_add (pe_op op_mulB (pv 5) (pv 5)) (pe_op op_mulB pe_int (pv 1))) pe_int) pe_int))
      (pss_one (ps_ret (pe_op op_mod (pe_op op_fdiv (pe_op op_mod (pe_op op_mulB (pv 5) pe_int) pe_int) pe_int) (pv 2))))))), ?_⟩
    have bb := bits12 (Int.le_of_lt b0) b1
    have np : ∀ x, PySem.Builtin.divisionGoesByPylong x b = false := fun x => Cu.noPy bb (by decide)
    refine ⟨_, rfl, _, _, rfl, rfl, ⟨by decide, by decide, by decide⟩, _, _, rfl, rfl, _, rfl, ite2 (fun _ => ?_) (fun _ => ?_)⟩
    · refine ⟨_, rfl, _, rfl, _, rfl, by omega, by omega, ?_⟩
      refine for_range (lo := 0) (n := kk.toNat) (fun i σ H' => H' = H ∧ ∃ l v4 v5, σ = [some (.int c), some (.int kk), some (.int b), some (.int l), v4, v5]) ⟨rfl, _, _, _, rfl⟩ ?_ ?_
      · rintro i σ H' hi ⟨rfl, l, v4, v5, rfl⟩
        exact ⟨_, rfl, _, rfl, _, _, rfl, rfl, ⟨by omega, np _⟩, rfl, _, _, _, rfl⟩
      · rintro σ H' ⟨rfl, l, v4, v5, rfl⟩
        exact ⟨_, rfl, _, rfl, _, _, rfl, rfl, b0, k _ (Int.emod_nonneg _ (by omega)) (Int.emod_lt_of_pos _ b0)⟩
    · have e0 := Int.emod_nonneg c (show (1000000007 : Int) ≠ 0 by decide)
      have e1 := Int.emod_lt_of_pos c (show (0 : Int) < 1000000007 by decide)
      refine ⟨_, rfl, _, _, rfl, rfl, (by show (0 : Int) < 1000000007; decide), _, rfl, _, _, rfl, rfl, mok (show intBits 1009 ≤ 200 by decide +kernel) (bits18 (by omega) (by omega)) (by decide), _, _, rfl, rfl, _, _, rfl, rfl, _, _, rfl, rfl, mok (bits18 (by show -(10 ^ 12) ≤ c % 1000000007 + 1009 * kk + 17; omega) (by show c % 1000000007 + 1009 * kk + 17 ≤ 10 ^ 12; omega)) (show intBits 69621 ≤ 200 by decide +kernel) (by decide), _, _, rfl, rfl, (by show (0 : Int) < 2147483647; decide), ?_⟩
      obtain ⟨s, hs⟩ : ∃ s : Int, s = (c % 1000000007 + 1009 * kk + 17) * 69621 % 2147483647 := ⟨_, rfl⟩
      have s0 : 0 ≤ s := by rw [hs]; exact Int.emod_nonneg _ (by decide)
      have s1 : s < 2147483647 := by rw [hs]; exact Int.emod_lt_of_pos _ (by decide)
      refine ⟨_, rfl, _, rfl, _, _, rfl, rfl, (by show PySem.IntMulOk _ _; rw [← hs]; exact mok (bits18 (by omega) (by omega)) (bits18 (by omega) (by omega)) (by decide)), _, rfl, _, _, rfl, rfl, mok (show intBits 40503 ≤ 200 by decide +kernel) (bits18 (by omega) (by omega)) (by decide), _, _, rfl, rfl, _, _, rfl, rfl, _, _, rfl, rfl, (by show (0 : Int) < 2147483629; decide), ?_⟩
      obtain ⟨q, hq⟩ : ∃ q : Int, q = (s * s + 40503 * kk + 5) % 2147483629 := ⟨_, rfl⟩
      have q0 : 0 ≤ q := by rw [hq]; exact Int.emod_nonneg _ (by decide)
      have q1 : q < 2147483629 := by rw [hq]; exact Int.emod_lt_of_pos _ (by decide)
      refine ⟨_, rfl, _, _, rfl, rfl, (by show PySem.IntMulOk _ _; rw [← hs, ← hq]; exact mok (bits18 (by omega) (by omega)) (show intBits 48271 ≤ 200 by decide +kernel) (by decide)), _, _, rfl, rfl, (by show (0 : Int) < 2147483647; decide), _, _, rfl, rfl, ⟨by decide, by decide⟩, _, rfl, _, _, rfl, rfl, b0, k _ (Int.emod_nonneg _ (by omega)) (Int.emod_lt_of_pos _ b0)⟩
theorem sc_lsame : FnScope ["_law_one", "_law_other", "_law_k", "_law_j"] ["_law_one", "_law_other"] (defScope (top 30)) := ⟨rfl, rfl, rfl, by decide +kernel, rfl, by decide +kernel, by decide +kernel⟩
theorem ok_lsame (D : DefAt K mg "_law_same" (top 30)) (B : Bs mg) : CallOk P w K mg base "_law_same" 1 spLSame := by
  refine call_of D sc_lsame (fun _ _ _ _ _ _ us hl => match us, hl with | [_, _], _ => rfl) (fun vs H Q E h => ?_) (fun f cdv A outer s H vs Q E hr h => ?_)
  · obtain ⟨v, u, c, e, rfl, ⟨a, rfl, ha⟩, ⟨b, rfl, hb⟩, hl, h4, bc, be, k⟩ := h
    rfl
  · obtain ⟨v, u, c, e, rfl, ⟨a, rfl, ha⟩, ⟨b, rfl, hb⟩, hl, h4, bc, be, k⟩ := h
    refine ⟨_, (pss_cons (ps_for PassesOwn.never rfl (pi_range1 rfl B.range (pa_cons (pe_callB call_len_seq (by rfl) B.len bt_len (pa_cons (pv 0) pa_nil)) pa_nil)) (pg_name (i := 2) sc_lsame.nd rfl (Or.inl rfl)) (pss_one (ps_for PassesOwn.never rfl (pi_range1 rfl B.range (pa_cons (pv 2) pa_nil)) (pg_name (i := 3) sc_lsame.nd rfl (Or.inl rfl)) (pss_one (ps_if (pt_cmpR op_ne (pe_op op_mulB (pe_ix ix_tup (pv 0) (pv 2) (fun _ _ => rfl)) (pe_ix ix_tup (pv 1) (pv 3) (fun _ _ => rfl))) (pe_op op_mulB (pe_ix ix_tup (pv 0) (pv 3) (fun _ _ => rfl)) (pe_ix ix_tup (pv 1) (pv 2) (fun _ _ => rfl))) (nomark _)) (pss_one (ps_ret pe_bl)) pss_nil)))))
      (pss_one (ps_ret pe_bl))), ?_⟩
    have hcl : (c.map V.int).length = c.length := List.length_map _
    refine ⟨_, rfl, a, _, rfl, .inr (SqT.of ha), _, rfl, by omega, by omega, ?_⟩
    refine for_range (lo := 0) (n := ((c.map V.int).length : Int).toNat) (fun i σ H' => H' = H ∧ (∀ p j, p < i → j < p → c.getD p 0 * e.getD j 0 = c.getD j 0 * e.getD p 0) ∧ ∃ v2 v3, σ = [some (.ref a), some (.ref b), v2, v3]) ⟨rfl, fun p j h => absurd h (Nat.not_lt_zero _), _, _, rfl⟩ ?_ ?_
    · rintro i σ H' hi ⟨rfl, hall, v2, v3, rfl⟩
      have hi' : i < c.length := by rw [hcl] at hi; omega
      refine ⟨_, rfl, _, rfl, by omega, by omega, ?_⟩
      refine for_range (lo := 0) (n := (0 + (i : Int)).toNat) (fun j σ H'' => H'' = H' ∧ (∀ q, q < j → c.getD i 0 * e.getD q 0 = c.getD q 0 * e.getD i 0) ∧ ∃ v3, σ = [some (.ref a), some (.ref b), some (.int (0 + (i : Int))), v3]) ⟨rfl, fun q h => absurd h (Nat.not_lt_zero _), _, rfl⟩ ?_ ?_
      · rintro j σ H'' hj ⟨rfl, hin, v3, rfl⟩
        have hj' : j < i := by omega
        have gi : ∀ {l : List Int} {m : Nat}, m < l.length → atI (l.map V.int) (0 + (m : Int)) = some (.int (l.getD m 0)) := fun {l m} h => by rw [Int.zero_add]; exact intAtI h
        have B1 : ∀ m, m < c.length → intBits (c.getD m 0) ≤ 300 := fun m h => bc _ (getD_mem h)
        have B2 : ∀ m, m < c.length → intBits (e.getD m 0) ≤ 300 := fun m h => be _ (getD_mem (by omega))
        refine ⟨_, rfl, _, rfl, a, _, _, _, rfl, rfl, SqT.of ha, gi hi', _, rfl, _, rfl, b, _, _, _, rfl, rfl, SqT.of hb, gi (by omega), _, _, rfl, rfl, mok (B1 i hi') (B2 j (by omega)) (by decide), _, rfl, _, rfl, a, _, _, _, rfl, rfl, SqT.of ha, gi (by omega), _, rfl, _, rfl, b, _, _, _, rfl, rfl, SqT.of hb, gi (by omega), _, _, rfl, rfl, mok (B1 j (by omega)) (B2 i hi') (by decide), rfl, _, rfl, ?_⟩
        by_cases hq : c.getD i 0 * e.getD j 0 = c.getD j 0 * e.getD i 0
        · refine iteNS (congrArg V.int hq) ⟨rfl, fun q h => ?_, _, rfl⟩
          rcases Nat.lt_or_eq_of_le (Nat.lt_succ_iff.mp h) with z | z
          · exact hin q z
          · rw [z]; exact hq
        · refine iteP (by rw [decide_eq_false (fun z => hq (by injection z))]; rfl) (k false ⟨fun z => absurd z (by decide), fun z => absurd (z i j hi' (by omega)) hq⟩)
      · rintro σ H'' ⟨rfl, hin, v3, rfl⟩
        refine ⟨rfl, fun p j hp hj => ?_, _, _, rfl⟩
        rcases Nat.lt_or_eq_of_le (Nat.lt_succ_iff.mp hp) with z | z
        · exact hall p j z hj
        · subst z; exact hin j (by omega)
    · rintro σ H' ⟨rfl, hall, v2, v3, rfl⟩
      exact k true ⟨fun _ => C4.par_of_below fun p j hp hj => hall p j (by rw [hcl]; omega) hj, fun _ => rfl⟩
end
end K4

namespace K4
open PySem L2
open PySem.Builtin.Int (intBits)
theorem leftLB_take : ∀ (c : List Int) (sp : List (Int × Int)) (lb : Int × Int), C4.leftLB (c.take sp.length) sp lb = C4.leftLB c sp lb
  | [], _, _ => by simp
  | _ :: _, [], _ => by simp [C4.leftLB]
  | n :: c, f :: sp, lb => by
    show C4.leftLB (c.take sp.length) sp (C4.stepLB n f lb) = C4.leftLB c sp (C4.stepLB n f lb)
    exact leftLB_take c sp _
theorem sgn_int (n : Int) : (if decide (0 < n) = true then (1 : Int) else 0) - (if decide (n < 0) = true then 1 else 0) = C4.sgn n := by
  unfold C4.sgn
  by_cases h : 0 < n
  · simp [h, show ¬ n < 0 by omega]
  · by_cases h2 : n < 0
    · simp [h, h2]
    · simp [h, h2]
def spLSpot : Sp := fun vs H Q _ => ∃ (c : Int) (d : Nat), vs = [.int c, .int d] ∧ intBits c ≤ 2 ^ 20 ∧ 1 ≤ d ∧ d ≤ 3 ∧ ∀ p sp H', Same H H' → IsSpot H' (.ref p) sp → sp.length = d → GoodSpot sp → BitsSpot sp → Q (.ref p) H'
theorem five {r : Int} (h0 : 0 ≤ r) (h1 : r < 5) : ∃ z, atI [V.int 1, V.int 1, V.int 2, V.int 3, V.int 7] r = some (.int z) ∧ 1 ≤ z ∧ z ≤ 7 := by
  have : r = 0 ∨ r = 1 ∨ r = 2 ∨ r = 3 ∨ r = 4 := by omega
  rcases this with rfl | rfl | rfl | rfl | rfl
  · exact ⟨1, rfl, by decide, by decide⟩
  · exact ⟨1, rfl, by decide, by decide⟩
  · exact ⟨2, rfl, by decide, by decide⟩
  · exact ⟨3, rfl, by decide, by decide⟩
  · exact ⟨7, rfl, by decide, by decide⟩
section
variable {P : Program} {w : World} {K : PySem.W.Frag} {mg : Str → Option Value} {base : Heap} {tD tC : Tok} {aC : Addr}
theorem sc_lside : FnScope ["_law_cut_here", "_law_spot_here", "_law_top", "_law_bottom", "_law_number", "_law_part"] ["_law_cut_here", "_law_spot_here"] (defScope (top 33)) := ⟨rfl, rfl, rfl, by decide +kernel, rfl, by decide +kernel, by decide +kernel⟩
theorem ok_lside (D : DefAt K mg "_law_side" (top 33)) (B : Bs mg) : CallOk P w K mg base "_law_side" 1 spSide := by
  refine call_of D sc_lside (fun _ _ _ _ _ _ us hl => match us, hl with | [_, _], _ => rfl) (fun vs H Q E h => ?_) (fun f cdv A outer s H vs Q E hr h => ?_)
  · obtain ⟨d, v, u, c, sp, rfl, ⟨a, rfl, ha⟩, ⟨s2, us, rfl, hs, hp⟩, hl, hd, hc, bc, bs, k⟩ := h
    rfl
  · obtain ⟨d, v, u, c, sp, rfl, ⟨a, rfl, ha⟩, ⟨s2, us, rfl, hs, hp⟩, hl, hd, hc, bc, bs, k⟩ := h
    refine ⟨_, (pss_cons (ps_set (i := 2) sc_lside.nd rfl (Or.inl rfl) (pe_un un_neg (pe_ix ix_tup (pv 0) (pe_un un_neg pe_int) (fun _ _ => rfl))))
      (pss_cons (ps_set (i := 3) sc_lside.nd rfl (Or.inl rfl) pe_int)
      (pss_cons (ps_for PassesOwn.never rfl (pi_zip (b1 := true) (b2 := true) rfl B.zip (pa_cons (pv 0) (pa_cons (pv 1) pa_nil))) (pg_tup rfl (pgs_cons (pg_name (i := 4) sc_lside.nd rfl (Or.inl rfl)) (pgs_cons (pg_name (i := 5) sc_lside.nd rfl (Or.inl rfl)) pgs_nil))) (pss_cons (ps_set (i := 2) sc_lside.nd rfl (Or.inl rfl) (pe_op op_add (pe_op op_mulB (pv 2) (pe_ix ix_tup (pv 5) pe_int (fun _ _ => rfl))) (pe_op op_mulB (pe_op op_mulB (pv 4) (pe_ix ix_tup (pv 5) pe_int (fun _ _ => rfl))) (pv 3))))
      (pss_one (ps_set (i := 3) sc_lside.nd rfl (Or.inl rfl) (pe_op op_mulB (pv 3) (pe_ix ix_tup (pv 5) pe_int (fun _ _ => rfl)))))))
      (pss_one (ps_ret (pe_op op_sub (pe_callTy call_int1 (by rfl) B.int bt_int (pa_cons (pe_cmpR op_gt (pv 2) pe_int (nomark _)) pa_nil)) (pe_callTy call_int1 (by rfl) B.int bt_int (pa_cons (pe_cmpR op_lt (pv 2) pe_int (nomark _)) pa_nil)))))))), ?_⟩
    have hn := hp.length
    have hcl : (c.map V.int).length = d + 1 := by rw [List.length_map, hc]
    refine ⟨_, rfl, _, rfl, a, _, _, _, rfl, rfl, SqT.of ha, intLast hc, _, rfl, ?_⟩
    refine ⟨_, rfl, _, rfl, a, s2, rfl, ⟨_, SqT.of ha⟩, ⟨_, SqT.of hs⟩, ?_⟩
    refine for_zip (xs := c.map V.int) (zs := us) (fun i σ H' => Same H H' ∧ ∃ (l b : Int) (v4 v5 : Option V), σ = [some (.ref a), some (.ref s2), some (.int l), some (.int b), v4, v5] ∧ C4.leftLB (c.drop i) (sp.drop i) (l, b) = C4.leftLB c sp (-(c.getD d 0), 1) ∧ intBits l ≤ 1000 * (i + 1) ∧ intBits b ≤ 1000 * (i + 1))
      ⟨Same.refl _, _, _, _, _, rfl, rfl, Nat.le_trans (PyProof.Rows.bits_neg (bc _ (getD_mem (by omega)))) (by omega), by decide⟩ (fun i σ H' q => SqT.of (q.1 _ _ ha)) (fun i σ H' q => SqT.of (q.1 _ _ hs)) ?_ ?_
    · rintro i x z σ H' p e1 e2 hpn ⟨sm, l, b, v4, v5, rfl, he, bl, bb⟩
      obtain ⟨hi, rfl⟩ := intAt e1
      obtain ⟨f, ef, q, rfl, hq⟩ := pairedGet hp e2
      have hj : i < sp.length := (List.getElem?_eq_some_iff.mp ef).1
      have smp := sm.trans (same_updN (o := .tup [V.int (c.getD i 0), V.ref q]) hpn)
      have hq := smp _ _ hq
      have bf := bs f (List.mem_of_getElem? ef)
      have bn : intBits (c.getD i 0) ≤ 300 := bc _ (getD_mem hi)
      have m1 := PyProof.Rows.bits_mul bl bf.2
      have m2 := PyProof.Rows.bits_mul bn bf.1
      have m3 := PyProof.Rows.bits_mul m2 bb
      have m4 := PyProof.Rows.bits_mul bb bf.2
      have i3 : i ≤ 3 := by omega
      refine ⟨p, _, rfl, SqT.of upd_same, rfl, _, _, rfl, _, _, rfl, rfl, ?_⟩
      refine ⟨_, rfl, _, rfl, q, _, _, _, rfl, rfl, SqT.of hq, rfl, _, _, rfl, rfl, mok bl bf.2 (by omega), _, rfl, _, rfl, q, _, _, _, rfl, rfl, SqT.of hq, rfl, _, _, rfl, rfl, mok bn bf.1 (by decide), _, rfl, _, _, rfl, rfl, mok m2 bb (by omega), _, _, rfl, rfl, ?_⟩
      refine ⟨_, rfl, _, rfl, q, _, _, _, rfl, rfl, SqT.of hq, rfl, _, _, rfl, rfl, mok bb bf.2 (by omega), ?_⟩
      refine ⟨smp, _, _, _, _, rfl, ?_, Nat.le_trans (PyProof.Rows.bits_add m1 m3) (by omega), Nat.le_trans m4 (by omega)⟩
      rw [← he]
      have d1 : c.drop i = c.getD i 0 :: c.drop (i + 1) := by
        rw [List.drop_eq_getElem_cons hi, List.getD_eq_getElem?_getD, List.getElem?_eq_getElem hi]; rfl
      have d2 : sp.drop i = f :: sp.drop (i + 1) := by
        rw [List.drop_eq_getElem_cons hj]
        have : sp[i] = f := by rw [List.getElem?_eq_getElem hj] at ef; exact Option.some.inj ef
        rw [this]
      rw [d1, d2]
      rfl
    · rintro σ H' ⟨sm, l, b, v4, v5, rfl, he, bl, bb⟩
      have e0 : sp.drop (min (c.map V.int).length us.length) = [] := List.drop_of_length_le (by omega)
      rw [e0] at he
      have : l = C4.sideV d c sp := by
        unfold C4.sideV
        have e2 := leftLB_take c sp (-(c.getD d 0), 1)
        rw [hl] at e2
        rw [e2, ← he]
        cases c.drop (min (c.map V.int).length us.length) <;> rfl
      rw [← this] at k
      refine ⟨_, rfl, _, _, rfl, rfl, .inr ⟨_, rfl, _, rfl, _, _, rfl, rfl, .inr ⟨_, rfl, _, _, rfl, rfl, ?_⟩⟩⟩
      show Q (.int ((if decide (0 < l) = true then (1 : Int) else 0) - (if decide (l < 0) = true then 1 else 0))) H'
      rw [sgn_int]
      exact k _ sm
theorem sc_lspot : FnScope ["_law_cell", "_law_dims", "_law_found", "_law_j", "_law_top", "_law_bottom"] ["_law_cell", "_law_dims"] (defScope (top 34)) := ⟨rfl, rfl, rfl, by decide +kernel, rfl, by decide +kernel, by decide +kernel⟩
theorem ok_lspot (D : DefAt K mg "_law_spot" (top 34)) (B : Bs mg) (C__law_draw : CallOk P w K mg base "_law_draw" 2 spDraw) (C__law_lowest : CallOk P w K mg base "_law_lowest" 2 spLowest) : CallOk P w K mg base "_law_spot" 3 spLSpot := by
  refine call_of D sc_lspot (fun _ _ _ _ _ _ us hl => match us, hl with | [_, _], _ => rfl) (fun vs H Q E h => ?_) (fun f cdv A outer s H vs Q E hr h => ?_)
  · obtain ⟨c, d, rfl, hc, d1, d3, k⟩ := h
    rfl
  · obtain ⟨c, d, rfl, hc, d1, d3, k⟩ := h
    refine ⟨_, (pss_cons (ps_set (i := 2) sc_lspot.nd rfl (Or.inl rfl) (pe_lst pa_nil))
      (pss_cons (ps_for PassesOwn.never rfl (pi_range1 rfl B.range (pa_cons (pv 1) pa_nil)) (pg_name (i := 3) sc_lspot.nd rfl (Or.inl rfl)) (pss_cons (ps_set (i := 4) sc_lspot.nd rfl (Or.inl rfl) (pe_op op_sub (pe_callD C__law_draw hr (pa_cons (pv 0) (pa_cons (pe_op op_mulB pe_int (pv 3)) (pa_cons pe_int pa_nil)))) pe_int))
      (pss_cons (ps_set (i := 5) sc_lspot.nd rfl (Or.inl rfl) (pe_ix ix_list (pe_lst (pa_cons pe_int (pa_cons pe_int (pa_cons pe_int (pa_cons pe_int (pa_cons pe_int pa_nil)))))) (pe_callD C__law_draw hr (pa_cons (pv 0) (pa_cons (pe_op op_add (pe_op op_mulB pe_int (pv 3)) pe_int) (pa_cons pe_int pa_nil)))) (fun _ _ => rfl)))
      (pss_cons (ps_if (pt_cmpR op_eq (pe_callD C__law_draw hr (pa_cons (pv 0) (pa_cons (pe_op op_add (pe_op op_mulB pe_int (pv 3)) pe_int) (pa_cons pe_int pa_nil)))) pe_int (nomark _)) (pss_cons (ps_set (i := 4) sc_lspot.nd rfl (Or.inl rfl) (pe_op op_sub (pe_callD C__law_draw hr (pa_cons (pv 0) (pa_cons (pe_op op_add pe_int (pv 3)) (pa_cons (pe_op op_pow pe_int pe_int) pa_nil)))) (pe_op op_pow pe_int pe_int)))
      (pss_one (ps_set (i := 5) sc_lspot.nd rfl (Or.inl rfl) (pe_op op_add pe_int (pe_callD C__law_draw hr (pa_cons (pv 0) (pa_cons (pe_op op_add pe_int (pv 3)) (pa_cons (pe_op op_pow pe_int pe_int) pa_nil)))))))) pss_nil)
      (pss_one (ps_expr (pe_bm PySem.F.plainAttrs_list PySem.F.slot_list_append PySem.F.type_list_append mt_append (pv 2) (pa_cons (pe_callD C__law_lowest hr (pa_cons (pv 4) (pa_cons (pv 5) pa_nil))) pa_nil))))))))
      (pss_one (ps_ret (pe_callTy call_tuple_of (by rfl) B.tuple bt_tuple (pa_cons (pv 2) pa_nil)))))), ?_⟩
    have hsz : (1000 : Nat) ≤ sizeLine := by decide
    have h12 : (10 : Int) ^ 12 = 1000000000000 := by decide
    have h11 : (10 : Int) ^ 11 = 100000000000 := by decide
    have h9 : (10 : Int) ^ 9 = 1000000000 := by decide
    refine ⟨Nat.zero_le _, fun q hq => ?_⟩
    refine ⟨_, rfl, _, rfl, by omega, by omega, ?_⟩
    refine for_range (lo := 0) (n := ((d : Nat) : Int).toNat) (fun i σ H' => Same H H' ∧ ∃ (us : List V) (sp : List (Int × Int)) (v3 v4 v5 : Option V), σ = [some (.int c), some (.int d), some (.ref q), v3, v4, v5] ∧ H' q = some (.lst us) ∧ Paired (IsFr H') us sp ∧ sp.length = i ∧ GoodSpot sp ∧ BitsSpot sp)
      ⟨same_updN hq, [], [], _, _, _, rfl, upd_same, .nil, rfl, fun f h => absurd h (List.not_mem_nil), fun f h => absurd h (List.not_mem_nil)⟩ ?_ ?_
    · rintro i σ H' hi ⟨sm, us, sp, v3, v4, v5, rfl, hq', hp, hlen, hg, hb⟩
      have hn := hp.length
      have hi3 : i < 3 := by omega
      refine ⟨_, rfl, _, rfl, _, _, rfl, rfl, mok (show intBits 3 ≤ 200 by decide +kernel) (bits18 (by omega) (by omega)) (by decide), _, _, _, rfl, hc, by omega, by omega, by decide, by decide, fun r r0 r1 => ⟨_, _, rfl, rfl, ?_⟩⟩
      refine ⟨(by show 5 ≤ sizeLine; decide), fun pL hL => ?_⟩
      refine ⟨_, rfl, _, rfl, _, _, rfl, rfl, mok (show intBits 3 ≤ 200 by decide +kernel) (bits18 (by omega) (by omega)) (by decide), _, _, rfl, rfl, _, _, _, rfl, hc, by omega, by omega, by decide, by decide, fun r2 r20 r21 => ?_⟩
      obtain ⟨z, hz, z1, z7⟩ := five r20 r21
      have sL := sm.trans (same_updN (o := .lst [V.int 1, V.int 1, V.int 2, V.int 3, V.int 7]) hL)
      have hqL := same_updN (o := .lst [V.int 1, V.int 1, V.int 2, V.int 3, V.int 7]) hL _ _ hq'
      have hpL := frs_same hp (same_updN (o := .lst [V.int 1, V.int 1, V.int 2, V.int 3, V.int 7]) hL)
      generalize hH : upd H' pL _ = H2 at *
      refine ⟨pL, _, _, _, rfl, rfl, SqL.of (by rw [← hH]; exact upd_same), hz, ?_⟩
      with_reducible refine name_if (if_by (fun σ2 H3 => H3 = H2 ∧ ∃ (t b : Int) (v3 : Option V), σ2 = [some (.int c), some (.int d), some (.ref q), v3, some (.int t), some (.int b)] ∧ -(10 ^ 12) ≤ t ∧ t ≤ 10 ^ 12 ∧ 1 ≤ b ∧ b ≤ 10 ^ 12) (fun R hR => ?_) ?_)
      · refine ⟨_, rfl, _, rfl, _, _, rfl, rfl, mok (show intBits 3 ≤ 200 by decide +kernel) (bits18 (by omega) (by omega)) (by decide), _, _, rfl, rfl, _, _, _, rfl, hc, by omega, by omega, by decide, by decide, fun r3 r30 r31 => ⟨rfl, _, rfl, ite2 (fun _ => ?_) (fun _ => hR _ _ ⟨rfl, _, _, _, rfl, by omega, by omega, by omega, by omega⟩)⟩⟩
        refine ⟨_, rfl, _, rfl, _, _, rfl, rfl, _, _, rfl, rfl, ⟨by decide, by decide, by decide⟩, _, _, _, rfl, hc, by omega, by omega, by decide, by decide, fun t t0 t1 => ⟨_, _, rfl, rfl, ⟨by decide, by decide, by decide⟩, _, _, rfl, rfl, ?_⟩⟩
        refine ⟨_, rfl, _, rfl, _, _, rfl, rfl, _, _, rfl, rfl, ⟨by decide, by decide, by decide⟩, _, _, _, rfl, hc, by omega, by omega, by decide, by decide, fun b b0 b1 => ⟨_, _, rfl, rfl, hR _ _ ⟨rfl, _, _, _, rfl, ?_, ?_, ?_, ?_⟩⟩⟩
        · have t1' : t < 10 ^ 12 := t1
          show -(10 ^ 12) ≤ t - 10 ^ 11
          omega
        · have t1' : t < 10 ^ 12 := t1
          show t - 10 ^ 11 ≤ 10 ^ 12
          omega
        · omega
        · have b1' : b < 10 ^ 9 := b1
          omega
      · rintro σ2 H3 ⟨rfl, t, b, v3, rfl, t0, t1, b0, b1⟩
        have lw := Cu.low_pos (t := t) (show 0 < b by omega)
        refine ⟨_, rfl, .inl ⟨rfl, _, SqL.of hqL⟩, _, rfl, _, rfl, t, b, rfl, by omega, Nat.le_trans (bits18 (by omega) b1) (by decide), fun p hp2 => ?_⟩
        have s2 := same_updN (o := .tup [V.int (t.fdiv (Cu.G t b)), V.int (b.fdiv (Cu.G t b))]) hp2
        refine ⟨q, us, _, rfl, rfl, s2 _ _ hqL, by omega, ?_⟩
        have s3 : Same H (upd (upd H3 p (.tup [V.int (t.fdiv (Cu.G t b)), V.int (b.fdiv (Cu.G t b))])) q (.lst (us ++ [V.ref p]))) := same_over (sL.trans s2) hq
        have s4 : ∀ {x : Addr} {xs : List V}, H3 x = some (.tup xs) → upd (upd H3 p (.tup [V.int (t.fdiv (Cu.G t b)), V.int (b.fdiv (Cu.G t b))])) q (.lst (us ++ [V.ref p])) x = some (.tup xs) := fun {x xs} hx => by
          rw [upd_ne (ne_of hx hqL (by intro z; cases z))]
          exact s2 _ _ hx
        refine ⟨s3, us ++ [V.ref p], sp ++ [(t.fdiv (Cu.G t b), b.fdiv (Cu.G t b))], _, _, _, rfl, upd_same, paired_append (Paired.mono (fun v f hf => let ⟨x, e, hx⟩ := hf; ⟨x, e, s4 hx⟩) hpL) (.cons ⟨p, rfl, ?_⟩ .nil), by simp [hlen], fun f hf => ?_, fun f hf => ?_⟩
        · rw [upd_ne (fun z => by rw [z, hqL] at hp2; cases hp2)]
          exact upd_same
        · rcases List.mem_append.mp hf with h | h
          · exact hg f h
          · have e : f = (t.fdiv (Cu.G t b), b.fdiv (Cu.G t b)) := by simpa using h
            rw [e]
            exact ⟨lw.pos, lw.one⟩
        · rcases List.mem_append.mp hf with h | h
          · exact hb f h
          · have e : f = (t.fdiv (Cu.G t b), b.fdiv (Cu.G t b)) := by simpa using h
            rw [e]
            exact ⟨Nat.le_trans (PyProof.Rows.bits_fdiv (bits18 t0 t1)) (by decide), Nat.le_trans (PyProof.Rows.bits_fdiv (bits18 (by omega) b1)) (by decide)⟩
    · rintro σ H' ⟨sm, us, sp, v3, v4, v5, rfl, hq', hp, hlen, hg, hb⟩
      refine ⟨_, rfl, q, us, rfl, .inl ⟨SqL.of hq', fun p hpn => k p sp _ (sm.trans (same_updN hpn)) ⟨p, us, rfl, upd_same, frs_same hp (same_updN hpn)⟩ (by rw [hlen]; rfl) hg hb⟩⟩
end
end K4

namespace Cu
open PySem.Builtin.Int (intBits)
theorem bits_small {x : Int} (h1 : -100 ≤ x) (h2 : x ≤ 100) : intBits x ≤ 8 := by
  refine PyProof.Rows.intBits_le ?_
  omega
end Cu
namespace K4
open PySem L2
open PySem.Builtin.Int (intBits)
theorem dvs_ints (K : PySem.W.Frag) (H : Hp) : ∀ ns : List Int, DVs K H (ns.map V.int) (ns.map PyData.int)
  | [] => .nil
  | n :: ns => .cons (.int n) (dvs_ints K H ns)
theorem lay_ints : ∀ ns : List Int, PyData.canLayAll0 (ns.map PyData.int) = true
  | [] => rfl
  | n :: ns => by simp [PyData.canLayAll0, PyData.canLay0, lay_ints ns]
theorem dep_ints : ∀ ns : List Int, PyData.depthAll (ns.map PyData.int) = 0
  | [] => rfl
  | n :: ns => by simp [PyData.depthAll, PyData.depth, dep_ints ns]
theorem eqv_ints : ∀ ns ms : List Int, PyData.eqvAll (ns.map PyData.int) (ms.map PyData.int) = decide (ns = ms)
  | [], [] => by simp [PyData.eqvAll]
  | [], _ :: _ => by simp [PyData.eqvAll]
  | _ :: _, [] => by simp [PyData.eqvAll]
  | n :: ns, m :: ms => by
    rw [List.map_cons, List.map_cons, PyData.eqvAll, eqv_ints ns ms, PyData.eqv]
    by_cases h1 : n = m <;> by_cases h2 : ns = ms <;> simp [h1, h2]
def dCut (c : List Int) : PyData := .tuple (c.map PyData.int)
theorem dvs_cuts (K : PySem.W.Frag) {H : Hp} : ∀ {us : List V} {cs : List (List Int)}, Paired (IsCut H) us cs → DVs K H us (cs.map dCut)
  | _, _, .nil => .nil
  | _, _, .cons h t => .cons (let ⟨a, e, q⟩ := h; by rw [e]; exact .tup (SqT.of q) (dvs_ints K H _)) (dvs_cuts K t)
theorem lay_cuts : ∀ cs : List (List Int), PyData.canLayAll0 (cs.map dCut) = true
  | [] => rfl
  | c :: cs => by simp [PyData.canLayAll0, PyData.canLay0, dCut, lay_ints c, show PyData.canLayAll0 (List.map dCut cs) = true from lay_cuts cs]
theorem dep_cuts : ∀ cs : List (List Int), PyData.depthAll (cs.map dCut) ≤ 1
  | [] => by simp [PyData.depthAll]
  | c :: cs => by
    have := dep_cuts cs
    rw [List.map_cons, PyData.depthAll, dCut, PyData.depth, dep_ints]
    omega
theorem eqv_cuts : ∀ cs es : List (List Int), PyData.eqvAll (cs.map dCut) (es.map dCut) = decide (cs = es)
  | [], [] => by simp [PyData.eqvAll]
  | [], _ :: _ => by simp [PyData.eqvAll]
  | _ :: _, [] => by simp [PyData.eqvAll]
  | n :: ns, m :: ms => by
    rw [List.map_cons, List.map_cons, PyData.eqvAll, eqv_cuts ns ms, dCut, dCut, PyData.eqv, eqv_ints]
    by_cases h1 : n = m <;> by_cases h2 : ns = ms <;> simp [h1, h2]
theorem eqvL_cuts (cs es : List (List Int)) : PyData.eqv (.list (cs.map dCut)) (.list (es.map dCut)) = decide (cs = es) := by rw [PyData.eqv, eqv_cuts]
theorem eqvL_ints (cs es : List Int) : PyData.eqv (.list (cs.map PyData.int)) (.list (es.map PyData.int)) = decide (cs = es) := by rw [PyData.eqv, eqv_ints]
theorem layL_cuts (cs : List (List Int)) : PyData.canLay0 (.list (cs.map dCut)) = true := by rw [PyData.canLay0]; exact lay_cuts cs
theorem layL_ints (cs : List Int) : PyData.canLay0 (.list (cs.map PyData.int)) = true := by rw [PyData.canLay0]; exact lay_ints cs
theorem depL_cuts (cs : List (List Int)) : PyData.depth (.list (cs.map dCut)) ≤ 100 := by have := dep_cuts cs; rw [PyData.depth]; omega
theorem depL_ints (cs : List Int) : PyData.depth (.list (cs.map PyData.int)) ≤ 100 := by rw [PyData.depth, dep_ints]; decide
theorem rep_zero (n : Nat) : (List.replicate n [V.int 0]).flatten = (List.replicate n (0 : Int)).map V.int := by
  induction n with
  | zero => rfl
  | succ n ih => rw [List.replicate_succ, List.flatten_cons, ih, List.replicate_succ]; rfl
theorem some_not {d : Nat} {ns : List Int} (hl : ns.length = d) (h : ns ≠ List.replicate d 0) : ∃ p, p < d ∧ ns.getD p 0 ≠ 0 := by
  apply Classical.byContradiction
  intro hn
  apply h
  refine List.eq_replicate_iff.mpr ⟨hl, fun b hb => ?_⟩
  obtain ⟨i, hi, rfl⟩ := List.mem_iff_getElem.mp hb
  apply Classical.byContradiction
  intro hb'
  refine hn ⟨i, by omega, ?_⟩
  rw [List.getD_eq_getElem?_getD, List.getElem?_eq_getElem hi]
  exact hb'
def Sm (d : Nat) (ns : List Int) : Prop := ns.length = d ∧ (∃ p, p < d ∧ ns.getD p 0 ≠ 0) ∧ ∀ z ∈ ns, -3 ≤ z ∧ z ≤ 3
def Nu (d : Nat) (w : Int) (ns : List Int) : Prop := ns.length = d ∧ (∃ p, p < d ∧ ns.getD p 0 ≠ 0) ∧ (∀ z ∈ ns, intBits z ≤ 300) ∧ (w ≠ 1 → ∀ z ∈ ns, -3 ≤ z ∧ z ≤ 3)
theorem Sm.nu {d : Nat} {ns : List Int} (h : Sm d ns) (w : Int) : Nu d w ns := ⟨h.1, h.2.1, fun z hz => Nat.le_trans (bits18 (by have := h.2.2 z hz; omega) (by have := h.2.2 z hz; omega)) (by decide), fun _ => h.2.2⟩
def spLCut : Sp := fun vs H Q _ => ∃ (c : Int) (d : Nat) (l : Addr) (us : List V) (cs : List (List Int)), vs = [.int c, .int d, .ref l] ∧ intBits c ≤ 2 ^ 20 ∧ 1 ≤ d ∧ d ≤ 3 ∧ H l = some (.lst us) ∧ Paired (IsCut H) us cs ∧ cs.length ≤ 7 ∧ (∀ e ∈ cs, GoodCut d e) ∧
  ∀ p e H', Same H H' → H' p = some (.tup (e.map V.int)) → GoodCut d e → Q (.ref p) H'
theorem three {M r : Int} (h0 : 0 ≤ r) (h1 : r < 3) (hM : 1 ≤ M) : ∃ z, atI [V.int 1, V.int 1, V.int M] r = some (.int z) ∧ 1 ≤ z ∧ z ≤ M := by
  have : r = 0 ∨ r = 1 ∨ r = 2 := by omega
  rcases this with rfl | rfl | rfl
  · exact ⟨1, rfl, by decide, hM⟩
  · exact ⟨1, rfl, by decide, hM⟩
  · exact ⟨M, rfl, hM, Int.le_refl _⟩
theorem set_real {d : Nat} {ns : List Int} {j : Nat} {v : Int} (h : ns.length = d) (hj : j < d) (hv : 1 ≤ v) (hv3 : v ≤ 3) (hs : ∀ z ∈ ns, -3 ≤ z ∧ z ≤ 3) : Sm d (ns.set j v) := by
  refine ⟨by rw [List.length_set]; exact h, ⟨j, hj, ?_⟩, fun z hz => ?_⟩
  · rw [List.getD_eq_getElem?_getD, List.getElem?_set_self (by omega)]
    show v ≠ 0
    omega
  · rcases List.mem_or_eq_of_mem_set hz with q | q
    · exact hs z q
    · rw [q]; omega
theorem map_setI (ns : List Int) (j : Nat) (v : Int) : (ns.map V.int).set j (.int v) = (ns.set j v).map V.int := by rw [List.map_set]
theorem sum3 {ms : List Int} (hl : ms.length ≤ 3) (h : ∀ z ∈ ms, -6 ≤ z ∧ z ≤ 6) : -100 ≤ ms.sum ∧ ms.sum ≤ 100 := by
  match ms, hl, h with
  | [], _, _ => exact ⟨by decide, by decide⟩
  | [a], _, h => have := h a (by simp); simp; omega
  | [a, b], _, h => have := h a (by simp); have := h b (by simp); simp; omega
  | [a, b, c], _, h => have := h a (by simp); have := h b (by simp); have := h c (by simp); simp; omega
  | _ :: _ :: _ :: _ :: _, hl, _ => simp at hl
theorem good_of {d : Nat} {ns : List Int} {c w : Int} (hl : ns.length = d) (hr : ∃ p, p < d ∧ ns.getD p 0 ≠ 0) (hb : ∀ z ∈ ns, intBits z ≤ 300) (hc : intBits c ≤ 300) : GoodCut d (ns ++ [c]) := by
  refine ⟨by rw [List.length_append, hl]; rfl, ?_, fun z hz => ?_⟩
  · obtain ⟨p, hp, hn⟩ := hr
    refine ⟨p, hp, ?_⟩
    rw [List.getD_eq_getElem?_getD, List.getElem?_append_left (by omega), ← List.getD_eq_getElem?_getD]
    exact hn
  · rcases List.mem_append.mp hz with q | q
    · exact hb z q
    · have : z = c := by simpa using q
      rw [this]; exact hc
theorem c3 (i : Nat) : -1 ≤ ([1, 2, -1] : List Int).getD i 0 ∧ ([1, 2, -1] : List Int).getD i 0 ≤ 2 := by
  match i with
  | 0 => exact ⟨by decide, by decide⟩
  | 1 => exact ⟨by decide, by decide⟩
  | 2 => exact ⟨by decide, by decide⟩
  | i + 3 => simp
theorem mul6 {x y : Int} (h1 : -3 ≤ x) (h2 : x ≤ 3) (h : -1 ≤ y ∧ y ≤ 2) : -6 ≤ x * y ∧ x * y ≤ 6 := by
  have : y = -1 ∨ y = 0 ∨ y = 1 ∨ y = 2 := by omega
  rcases this with rfl | rfl | rfl | rfl <;> omega
section
variable {P : Program} {w : World} {K : PySem.W.Frag} {mg : Str → Option Value} {base : Heap} {tD tC : Tok} {aC : Addr}
theorem sc_lcut : FnScope ["_law_cell", "_law_dims", "_law_ahead", "_law_numbers", "_law_c", "_law_way", "_law_far"] ["_law_cell", "_law_dims", "_law_ahead"] (defScope (top 31)) := ⟨rfl, rfl, rfl, by decide +kernel, rfl, by decide +kernel, by decide +kernel⟩
theorem ok_lcut (D : DefAt K mg "_law_cut" (top 31)) (B : Bs mg) (C__law_draw : CallOk P w K mg base "_law_draw" 2 spDraw) : CallOk P w K mg base "_law_cut" 3 spLCut := by
  refine call_of D sc_lcut (fun _ _ _ _ _ _ us hl => match us, hl with | [_, _, _], _ => rfl) (fun vs H Q E h => ?_) (fun f cdv A outer s H vs Q E hr h => ?_)
  · obtain ⟨c, d, l, us, cs, rfl, hc, d1, d3, hl, hp, h7, hgood, k⟩ := h
    rfl
  · obtain ⟨c, d, l, us, cs, rfl, hc, d1, d3, hl, hp, h7, hgood, k⟩ := h
    refine ⟨_, (pss_cons (ps_setLC (N := ["_law_j", "_law_cell"]) (ix := [none, some 0]) (i := 3) sc_lcut.nd rfl (Or.inl rfl) rfl (pi_range1 rfl B.range (pa_cons (pv 1) pa_nil)) (lcok (fun _ h => cell_has h) (by rfl)) (keeps_name rfl) (fun _ _ _ _ _ => ⟨(pg_name (i := 0) (show List.Nodup (α := Str) ["_law_j", "_law_cell"] by decide) rfl (Or.inl rfl)), pif_nil, (pe_op op_sub (pe_callD C__law_draw hr (pa_cons (pv 1) (pa_cons (pv 0) (pa_cons pe_int pa_nil)))) pe_int)⟩))
      (pss_cons (ps_if (pt_cmpR (op_eqD (hu2 hr)) (pv 3) (pe_op op_rep (pe_lst (pa_cons pe_int pa_nil)) (pv 1)) (nomark _)) (pss_one (ps_asg (pe_op op_add pe_int (pe_callD C__law_draw hr (pa_cons (pv 0) (pa_cons pe_int (pa_cons pe_int pa_nil))))) (pg_sub (pv 3) (pe_callD C__law_draw hr (pa_cons (pv 0) (pa_cons pe_int (pa_cons (pv 1) pa_nil)))) set_list))) pss_nil)
      (pss_cons (ps_set (i := 4) sc_lcut.nd rfl (Or.inl rfl) (pe_op op_sub (pe_callD C__law_draw hr (pa_cons (pv 0) (pa_cons pe_int (pa_cons pe_int pa_nil)))) pe_int))
      (pss_cons (ps_set (i := 5) sc_lcut.nd rfl (Or.inl rfl) (pe_callD C__law_draw hr (pa_cons (pv 0) (pa_cons pe_int (pa_cons pe_int pa_nil)))))
      (pss_cons (ps_if (PW.pt (pw_and (pt_cmpR op_eq (pv 5) pe_int (nomark _)) (pw_and1 (pt_cmpR (op_neD (hu2 hr)) (pv 2) (pe_lst pa_nil) (nomark _))))) (pss_one (ps_set (i := 3) sc_lcut.nd rfl (Or.inl rfl) (pe_callTy call_list_of (by rfl) B.list bt_list (pa_cons (pe_slice sl_tup (pe_ix ix_list (pv 2) (pe_callD C__law_draw hr (pa_cons (pv 0) (pa_cons pe_int (pa_cons (pe_callB call_len_seq (by rfl) B.len bt_len (pa_cons (pv 2) pa_nil)) pa_nil)))) (fun _ _ => rfl)) po_none (po_some (pv 1))) pa_nil)))) pss_nil)
      (pss_cons (ps_if (PW.pt (pw_or (pt_cmpR op_eq (pv 5) pe_int (nomark _)) (pw_or1 (pt_cmpR op_eq (pv 5) pe_int (nomark _))))) (pss_one (ps_set (i := 4) sc_lcut.nd rfl (Or.inl rfl) (pe_callB (call_sum rfl) (by rfl) B.sum bt_sum (pa_cons (pe_lc (N := ["_law_number", "_law_part"]) (ix := [none, none]) rfl (pi_zip (b1 := false) (b2 := false) rfl B.zip (pa_cons (pv 3) (pa_cons (pe_lst (pa_cons pe_int (pa_cons pe_int (pa_cons (pe_un un_neg pe_int) pa_nil)))) pa_nil))) (lcok (fun _ h => cell_has h) (by rfl)) (keeps_pair rfl rfl) (fun _ _ _ _ _ => ⟨(pg_tupK (K := K) rfl (pgs_cons (pg_name (i := 0) (show List.Nodup (α := Str) ["_law_number", "_law_part"] by decide) rfl (Or.inl rfl)) (pgs_cons (pg_name (i := 1) (show List.Nodup (α := Str) ["_law_number", "_law_part"] by decide) rfl (Or.inl rfl)) pgs_nil))), pif_nil, (pe_op op_mulB (pv 0) (pv 1))⟩)) pa_nil)))) pss_nil)
      (pss_cons (ps_if (pt_cmpR op_eq (pv 5) pe_int (nomark _)) (pss_cons (ps_set (i := 6) sc_lcut.nd rfl (Or.inr rfl) (pe_op op_mulB (pe_op op_add pe_int (pe_callD C__law_draw hr (pa_cons (pv 0) (pa_cons pe_int (pa_cons (pe_op op_pow pe_int pe_int) pa_nil))))) (pe_ix ix_list (pe_lst (pa_cons pe_int (pa_cons pe_int (pa_cons (pe_op op_pow pe_int pe_int) pa_nil)))) (pe_callD C__law_draw hr (pa_cons (pv 0) (pa_cons pe_int (pa_cons pe_int pa_nil)))) (fun _ _ => rfl))))
      (pss_cons (ps_setLC (N := ["_law_number", "_law_far"]) (ix := [none, some 6]) (i := 3) sc_lcut.nd rfl (Or.inl rfl) rfl (pi_list (pv 3)) (lcok (fun _ h => cell_has h) (by rfl)) (keeps_name rfl) (fun _ _ _ _ _ => ⟨(pg_name (i := 0) (show List.Nodup (α := Str) ["_law_number", "_law_far"] by decide) rfl (Or.inl rfl)), pif_nil, (pe_op op_mulB (pv 0) (pv 1))⟩))
      (pss_one (ps_set (i := 4) sc_lcut.nd rfl (Or.inl rfl) (pe_op op_add (pe_op op_mulB (pv 4) (pv 6)) (pe_callD C__law_draw hr (pa_cons (pv 0) (pa_cons pe_int (pa_cons pe_int pa_nil))))))))) pss_nil)
      (pss_one (ps_ret (pe_callTy call_tuple_of (by rfl) B.tuple bt_tuple (pa_cons (pe_op op_cat (pv 3) (pe_lst (pa_cons (pv 4) pa_nil))) pa_nil))))))))))), ?_⟩
    have hsz : (1000 : Nat) ≤ sizeLine := by decide
    have hn := hp.length
    have h18 : (10 : Int) ^ 18 = 1000000000000000000 := by decide
    have h12 : (10 : Int) ^ 12 = 1000000000000 := by decide
    have h6 : (10 : Int) ^ 6 = 1000000 := by decide
    refine ⟨_, rfl, _, rfl, by omega, by omega, ?_⟩
    refine lc_by (n := ((d : Nat) : Int).toNat) (fun i ys H' => Same H H' ∧ ∃ ns : List Int, ys = ns.map V.int ∧ ns.length = i ∧ ∀ z ∈ ns, -3 ≤ z ∧ z ≤ 3) ⟨Same.refl _, [], rfl, rfl, fun z h => absurd h (List.not_mem_nil)⟩ (fun i ys H' hi _ => hi) (fun ys H' _ => Nat.le_refl _) (fun i ys H' hi p => ?_) (fun i ys H' x H2 hi p yl R hR => ?_) (fun ys H' p n hn0 => ?_)
    · obtain ⟨_, ns, rfl, e, _⟩ := p
      rw [List.length_map]
      omega
    · obtain ⟨sm, ns, rfl, e, hs⟩ := p
      obtain ⟨rfl, rfl⟩ := yl
      refine ⟨_, rfl, _, rfl, _, _, _, rfl, hc, by omega, by omega, by omega, by omega, fun r r0 r1 => ⟨_, _, rfl, rfl, hR _ _ ⟨sm, ns ++ [r - 3], by rw [List.map_append]; rfl, by simp [e], fun z hz => ?_⟩⟩⟩
      rcases List.mem_append.mp hz with q | q
      · exact hs z q
      · have : z = r - 3 := by simpa using q
        omega
    obtain ⟨sm0, ns0, rfl, e0, hs0⟩ := p
    have e0 : ns0.length = d := e0
    have snn := same_updN (o := .lst (ns0.map V.int)) hn0
    have hn00 : H n = none := sm0.free hn0
    with_reducible refine name_if (if_by (fun σ' H' => Same H H' ∧ ∃ n ns, σ' = [some (.int c), some (.int (d : Int)), some (.ref l), some (.ref n), none, none, none] ∧ H n = none ∧ H' n = some (.lst (ns.map V.int)) ∧ Sm d ns) (fun R hR => ?_) ?_)
    · refine ⟨_, rfl, (by show 1 ≤ sizeLine; decide), fun p1 h1 => ⟨_, rfl, p1, _, _, rfl, rfl, upd_same, by omega, by omega, ?_, fun p2 h2 => ?_⟩⟩
      · show 1 * ((d : Nat) : Int).toNat ≤ sizeLine
        omega
      have s1 := same_updN (o := .lst [V.int 0]) h1
      have s2 := same_updN (o := .lst (List.replicate ((d : Nat) : Int).toNat [V.int 0]).flatten) h2
      have hnn := s2 _ _ (s1 _ _ (upd_same (H := H') (a := n) (o := .lst (ns0.map V.int))))
      have e2 : (List.replicate ((d : Nat) : Int).toNat [V.int 0]).flatten = (List.replicate d (0 : Int)).map V.int := rep_zero d
      have sA := sm0.trans (snn.trans (s1.trans s2))
      refine ⟨.list (ns0.map PyData.int), .list ((List.replicate d (0 : Int)).map PyData.int), DV.lst (SqL.of hnn) (dvs_ints K _ _), DV.lst (SqL.of (by rw [upd_same, e2])) (dvs_ints K _ _), ⟨layL_ints _, layL_ints _, depL_ints _⟩, _, rfl, ?_⟩
      rw [if_neg (by decide), eqvL_ints]
      refine ite2 (fun hq => ?_) (fun hq => hR _ _ ⟨sA, n, ns0, rfl, hn00, hnn, e0, some_not e0 (fun z => hq (decide_eq_true z)), hs0⟩)
      refine ⟨_, rfl, _, _, _, rfl, hc, by omega, by omega, by omega, by omega, fun r r0 r1 => ⟨_, _, rfl, rfl, _, rfl, _, rfl, _, rfl, _, _, _, rfl, hc, by omega, by omega, by omega, by omega, fun r2 r20 r21 => ⟨n, _, _, r2.toNat, rfl, rfl, hnn, ?_, hR _ _ ⟨?_, n, ns0.set r2.toNat (1 + r), rfl, hn00, ?_, ?_⟩⟩⟩⟩
      · rw [List.length_map, e0]
        unfold ixN
        rw [if_pos r20, if_pos (by omega)]
      · exact same_over sA hn00
      · rw [upd_same, ← map_setI]
      · exact set_real e0 (by omega) (by omega) (by omega) hs0
    · rintro σ' H' ⟨sm, n, ns, rfl, hn0, hnn, hsm⟩
      refine ⟨_, rfl, _, _, _, rfl, hc, by omega, by omega, by omega, by omega, fun c0 c00 c01 => ⟨_, _, rfl, rfl, ?_⟩⟩
      refine ⟨_, rfl, _, _, _, rfl, hc, by omega, by omega, by omega, by omega, fun w w0 w1 => ?_⟩
      with_reducible refine name_if (if_by (fun σ' H' => Same H H' ∧ ∃ n ns, σ' = [some (.int c), some (.int (d : Int)), some (.ref l), some (.ref n), some (.int (c0 - 4)), some (.int w), none] ∧ H n = none ∧ H' n = some (.lst (ns.map V.int)) ∧ Nu d w ns) (fun R hR => ?_) ?_)
      · refine ⟨_, rfl, rfl, _, rfl, ite2 (fun hw => ?_) (fun hw => iteF (hR _ _ ⟨sm, n, ns, rfl, hn0, hnn, hsm.nu w⟩))⟩
        have hw1 : w = 1 := by have e := of_decide_eq_true hw; injection e
        refine ⟨_, rfl, Nat.zero_le _, fun p1 h1 => ?_⟩
        have s1 := same_updN (o := .lst []) h1
        refine ⟨.list (cs.map dCut), .list (([] : List (List Int)).map dCut), DV.lst (SqL.of (s1 _ _ (sm _ _ hl))) (dvs_cuts K (cuts_same hp (sm.trans s1))), DV.lst (SqL.of upd_same) .nil, ⟨layL_cuts _, layL_cuts _, depL_cuts _⟩, _, rfl, ?_⟩
        rw [if_pos rfl, eqvL_cuts]
        refine ite2 (fun hq => ?_) (fun hq => hR _ _ ⟨sm.trans s1, n, ns, rfl, hn0, s1 _ _ hnn, hsm.nu w⟩)
        have hcs : cs ≠ [] := fun z => by rw [z] at hq; simp at hq
        have hpos : 0 < us.length := by rw [hn]; exact List.length_pos_iff.mpr hcs
        have sm1 := sm.trans s1
        refine ⟨_, rfl, _, rfl, _, rfl, l, us, rfl, .inl (SqL.of (sm1 _ _ hl)), _, _, _, rfl, hc, by omega, by omega, by omega, by omega, fun r r0 r1 => ?_⟩
        have hr : r.toNat < us.length := by omega
        obtain ⟨e, ee, a, ea, ha⟩ := pairedGet hp (List.getElem?_eq_getElem hr)
        have ge := hgood e (List.mem_of_getElem? ee)
        have hel : (e.map V.int).length = d + 1 := by rw [List.length_map, ge.1]
        refine ⟨l, us, _, V.ref a, rfl, rfl, SqL.of (sm1 _ _ hl), ?_, ?_⟩
        · have : r = (r.toNat : Int) := by omega
          rw [this]
          exact atI_nat (by rw [List.getElem?_eq_getElem hr, ea])
        refine ⟨_, rfl, _, rfl, a, _, rfl, SqT.of (sm1 _ _ ha), whole_take (by rw [hel]; omega), fun p2 h2 => ?_⟩
        have ec : cutV (e.map V.int) none (some (d : Int)) = (e.take d).map V.int := by rw [cut_take (by rw [hel]; omega), List.map_take]
        rw [ec]
        have s2 := same_updN (o := .tup ((e.take d).map V.int)) h2
        refine ⟨p2, _, rfl, .inr (SqT.of upd_same), fun n2 h3 => hR _ _ ⟨sm1.trans (s2.trans (same_updN h3)), n2, e.take d, rfl, (sm1.trans s2).free h3, upd_same, ?_, ?_, fun z hz => ge.2.2 z (List.mem_of_mem_take hz), fun z => absurd hw1 z⟩⟩
        · rw [List.length_take, ge.1]; omega
        · obtain ⟨p, hp1, hp2⟩ := ge.2.1
          refine ⟨p, hp1, ?_⟩
          rw [List.getD_eq_getElem?_getD, List.getElem?_take_of_lt hp1, ← List.getD_eq_getElem?_getD]
          exact hp2
      · rintro σ' H' ⟨sm, n, ns, rfl, hn0, hnn, hnu⟩
        with_reducible refine if_by (fun σ' H' => Same H H' ∧ ∃ n ns c1, σ' = [some (.int c), some (.int (d : Int)), some (.ref l), some (.ref n), some (.int c1), some (.int w), none] ∧ H n = none ∧ H' n = some (.lst (ns.map V.int)) ∧ Nu d w ns ∧ -100 ≤ c1 ∧ c1 ≤ 100) (fun R hR => ?_) ?_
        · refine ⟨_, rfl, rfl, _, rfl, ite2 (fun hw => iteT ?_) (fun hw => ⟨_, rfl, rfl, _, rfl, ite2 (fun hw2 => ?_) (fun hw2 => hR _ _ ⟨sm, n, ns, _, rfl, hn0, hnn, hnu, by omega, by omega⟩)⟩)⟩
          · have hw1 : w ≠ 1 := by have e := of_decide_eq_true hw; injection e; omega
            refine ⟨_, rfl, _, rfl, (by show 3 ≤ sizeLine; decide), fun pz hz => ?_⟩
            have sz := same_updN (o := .lst [V.int 1, V.int 2, V.int (-1)]) hz
            refine ⟨n, pz, rfl, ⟨ns.map V.int, SqL.of (sz _ _ hnn)⟩, ⟨([1, 2, -1] : List Int).map V.int, SqL.of upd_same⟩, ?_⟩
            refine lc_zip (xs := ns.map V.int) (zs := ([1, 2, -1] : List Int).map V.int) (fun H1 sm1 => SqL.of (sm1 _ _ (sz _ _ hnn))) (fun H1 sm1 => SqL.of (sm1 _ _ upd_same)) (((List.range d).map fun i => ns.getD i 0 * ([1, 2, -1] : List Int).getD i 0).map V.int) (by simp [hnu.1]; omega) (by simp; omega) (fun i x z y H1 p e1 e2 e3 sm1 R1 hR1 => ?_) (fun H1 sm1 D hD => ⟨D, (List.range d).map fun i => ns.getD i 0 * ([1, 2, -1] : List Int).getD i 0, rfl, SqL.of upd_same, hR _ _ ⟨sm.trans (sz.trans (sm1.trans (same_updN hD))), n, ns, _, rfl, hn0, (sm1.trans (same_updN hD)) _ _ (sz _ _ hnn), hnu, ?_⟩⟩)
            · obtain ⟨i1, rfl⟩ := intAt e1
              obtain ⟨i2, rfl⟩ := intAt e2
              rw [List.map_map] at e3
              obtain ⟨_, rfl⟩ := mapR e3
              have bz := hnu.2.2.1 _ (getD_mem i1)
              have bm : intBits (([1, 2, -1] : List Int).getD i 0) ≤ 200 := bits18 (by have := c3 i; omega) (by have := c3 i; omega)
              refine ⟨p, _, rfl, SqT.of upd_same, rfl, _, _, rfl, _, _, rfl, rfl, ?_⟩
              exact ⟨_, rfl, _, rfl, _, _, rfl, rfl, mok bz bm (by decide), hR1 _ sm1⟩
            · refine sum3 (by simp; omega) fun z hzz => ?_
              obtain ⟨i, hi, rfl⟩ := List.mem_map.mp hzz
              have h3 := hnu.2.2.2 hw1 (ns.getD i 0) (getD_mem (by have := List.mem_range.mp hi; rw [hnu.1]; omega))
              exact mul6 h3.1 h3.2 (c3 i)
          · have hw1 : w ≠ 1 := by have e := of_decide_eq_true hw2; injection e; omega
            refine ⟨_, rfl, _, rfl, (by show 3 ≤ sizeLine; decide), fun pz hz => ?_⟩
            have sz := same_updN (o := .lst [V.int 1, V.int 2, V.int (-1)]) hz
            refine ⟨n, pz, rfl, ⟨ns.map V.int, SqL.of (sz _ _ hnn)⟩, ⟨([1, 2, -1] : List Int).map V.int, SqL.of upd_same⟩, ?_⟩
            refine lc_zip (xs := ns.map V.int) (zs := ([1, 2, -1] : List Int).map V.int) (fun H1 sm1 => SqL.of (sm1 _ _ (sz _ _ hnn))) (fun H1 sm1 => SqL.of (sm1 _ _ upd_same)) (((List.range d).map fun i => ns.getD i 0 * ([1, 2, -1] : List Int).getD i 0).map V.int) (by simp [hnu.1]; omega) (by simp; omega) (fun i x z y H1 p e1 e2 e3 sm1 R1 hR1 => ?_) (fun H1 sm1 D hD => ⟨D, (List.range d).map fun i => ns.getD i 0 * ([1, 2, -1] : List Int).getD i 0, rfl, SqL.of upd_same, hR _ _ ⟨sm.trans (sz.trans (sm1.trans (same_updN hD))), n, ns, _, rfl, hn0, (sm1.trans (same_updN hD)) _ _ (sz _ _ hnn), hnu, ?_⟩⟩)
            · obtain ⟨i1, rfl⟩ := intAt e1
              obtain ⟨i2, rfl⟩ := intAt e2
              rw [List.map_map] at e3
              obtain ⟨_, rfl⟩ := mapR e3
              have bz := hnu.2.2.1 _ (getD_mem i1)
              have bm : intBits (([1, 2, -1] : List Int).getD i 0) ≤ 200 := bits18 (by have := c3 i; omega) (by have := c3 i; omega)
              refine ⟨p, _, rfl, SqT.of upd_same, rfl, _, _, rfl, _, _, rfl, rfl, ?_⟩
              exact ⟨_, rfl, _, rfl, _, _, rfl, rfl, mok bz bm (by decide), hR1 _ sm1⟩
            · refine sum3 (by simp; omega) fun z hzz => ?_
              obtain ⟨i, hi, rfl⟩ := List.mem_map.mp hzz
              have h3 := hnu.2.2.2 hw1 (ns.getD i 0) (getD_mem (by have := List.mem_range.mp hi; rw [hnu.1]; omega))
              exact mul6 h3.1 h3.2 (c3 i)
        · rintro σ' H' ⟨sm, n, ns, c1, rfl, hn0, hnn, hnu, c1a, c1b⟩
          with_reducible refine if_by (fun σ' H' => Same H H' ∧ ∃ n ns c2 v6, σ' = [some (.int c), some (.int (d : Int)), some (.ref l), some (.ref n), some (.int c2), some (.int w), v6] ∧ H n = none ∧ H' n = some (.lst (ns.map V.int)) ∧ Nu d 1 ns ∧ intBits c2 ≤ 300) (fun R hR => ?_) ?_
          · refine ⟨_, rfl, rfl, _, rfl, ite2 (fun hw => ?_) (fun hw => hR _ _ ⟨sm, n, ns, _, _, rfl, hn0, hnn, ⟨hnu.1, hnu.2.1, hnu.2.2.1, fun z => absurd rfl z⟩, Nat.le_trans (bits18 (by omega) (by omega)) (by decide)⟩)⟩
            have hw1 : w ≠ 1 := by have e := of_decide_eq_true hw; injection e; omega
            refine ⟨_, rfl, _, _, rfl, rfl, ⟨by decide, by decide, by decide⟩, _, _, _, rfl, hc, by decide, by decide, by decide, by decide, fun r r0 r1 => ⟨_, _, rfl, rfl, _, _, rfl, rfl, ⟨by decide, by decide, by decide⟩, (by show 3 ≤ sizeLine; decide), fun pl hpl => ?_⟩⟩
            have r1' : r < 10 ^ 6 := r1
            refine ⟨_, rfl, _, _, _, rfl, hc, by omega, by omega, by omega, by omega, fun q q0 q1 => ?_⟩
            obtain ⟨z, hz, z1, z2⟩ := three (M := 10 ^ 18) q0 q1 (by decide)
            have spl := same_updN (o := .lst [V.int 1, V.int 1, V.int (10 ^ 18)]) hpl
            have fb : intBits (1 + r) ≤ 200 := bits18 (by omega) (by omega)
            have zb : intBits z ≤ 200 := by
              have h3 : (10 : Int) ^ 18 ≤ 10 ^ 59 := by decide +kernel
              refine Cu.bits_t ?_ ?_ <;> (generalize (10 : Int) ^ 59 = T at *; omega)
            have hfb : intBits ((1 + r) * z) ≤ 200 := by
              have h3 : (10 : Int) ^ 24 ≤ 10 ^ 59 := by decide +kernel
              have h24 : (1 + r) * z ≤ 10 ^ 24 := by
                have e : (10 : Int) ^ 24 = 10 ^ 6 * 10 ^ 18 := by decide
                rw [e]
                exact Int.mul_le_mul (by omega) z2 (by omega) (by decide)
              have h0 : 0 ≤ (1 + r) * z := Int.mul_nonneg (by omega) (by omega)
              refine Cu.bits_t ?_ ?_ <;> (generalize (10 : Int) ^ 59 = T at *; generalize (10 : Int) ^ 24 = S at *; omega)
            have hfp : (1 + r) * z ≠ 0 := Int.mul_ne_zero (by omega) (by omega)
            refine ⟨pl, _, _, _, rfl, rfl, SqL.of upd_same, hz, _, _, rfl, rfl, mok fb zb (by decide), ?_⟩
            obtain ⟨far, hfar⟩ : ∃ far : Int, far = (1 + r) * z := ⟨_, rfl⟩
            rw [← hfar] at hfb hfp
            refine ⟨_, rfl, n, rfl, ⟨_, SqL.of (spl _ _ hnn)⟩, ?_⟩
            refine lc_lst (SqL.of (spl _ _ hnn)) ((ns.map fun x => x * far).map V.int) (by simp) (by simp [hnu.1]; omega) (fun i x y H1 e1 e2 sm1 R1 hR1 => ?_) (fun H1 sm1 D hD => ?_)
            · obtain ⟨i1, rfl⟩ := intAt e1
              have ey : y = .int (ns.getD i 0 * far) := by
                rw [List.getElem?_map, List.getElem?_map, List.getElem?_eq_getElem i1] at e2
                cases e2
                rw [List.getD_eq_getElem?_getD, List.getElem?_eq_getElem i1]; rfl
              refine ⟨_, rfl, _, rfl, _, _, rfl, rfl, (by show PySem.IntMulOk _ _; rw [← hfar]; exact mok (hnu.2.2.1 _ (getD_mem i1)) hfb (by decide)), ?_⟩
              show R1 (V.int (ns.getD i 0 * ((1 + r) * z))) _
              rw [← hfar, ← ey]
              exact hR1 _ sm1
            · refine ⟨_, rfl, _, rfl, _, _, rfl, rfl, (by show PySem.IntMulOk _ _; rw [← hfar]; exact mok (bits18 (b := c1) (by omega) (by omega)) hfb (by decide)), _, rfl, _, _, _, rfl, hc, by omega, by omega, by omega, by omega, fun t t0 t1 => ⟨_, _, rfl, rfl, ?_⟩⟩
              have cb : intBits c1 ≤ 8 := by
                refine Cu.bits_small c1a c1b
              refine hR _ _ ⟨sm.trans (spl.trans (sm1.trans (same_updN hD))), D, ns.map (fun x => x * far), _, _, rfl, (sm.trans (spl.trans sm1)).free hD, upd_same, ⟨by rw [List.length_map, hnu.1], ?_, fun y hy => ?_, fun z => absurd rfl z⟩, ?_⟩
              · obtain ⟨p, hp1, hp2⟩ := hnu.2.1
                refine ⟨p, hp1, ?_⟩
                have hpl : p < ns.length := by rw [hnu.1]; exact hp1
                rw [List.getD_eq_getElem?_getD, List.getElem?_map, List.getElem?_eq_getElem hpl]
                rw [List.getD_eq_getElem?_getD, List.getElem?_eq_getElem hpl] at hp2
                exact Int.mul_ne_zero hp2 hfp
              · obtain ⟨x, hx, rfl⟩ := List.mem_map.mp hy
                have h3 := hnu.2.2.2 hw1 x hx
                have b3 : intBits x ≤ 8 := Cu.bits_small (by omega) (by omega)
                exact Nat.le_trans (PyProof.Rows.bits_mul b3 hfb) (by decide)
              · have b4 : intBits t ≤ 8 := Cu.bits_small (by omega) (by omega)
                show intBits (c1 * ((1 + r) * z) + t) ≤ 300
                rw [← hfar]
                exact Nat.le_trans (PyProof.Rows.bits_add (PyProof.Rows.bits_mul cb hfb) b4) (by decide)
          · rintro σ' H' ⟨sm, n, ns, c2, v6, rfl, hn0, hnn, hnu, bc2⟩
            refine ⟨_, rfl, _, rfl, (by show 1 ≤ sizeLine; decide), fun p1 h1 => ?_⟩
            have s1 := same_updN (o := .lst [V.int c2]) h1
            refine ⟨n, p1, _, _, rfl, rfl, s1 _ _ hnn, upd_same, by show (ns.map V.int).length + 1 ≤ sizeLine; rw [List.length_map, hnu.1]; omega, fun p2 h2 => ?_⟩
            have em : ns.map V.int ++ [V.int c2] = (ns ++ [c2]).map V.int := by rw [List.map_append]; rfl
            refine ⟨p2, _, rfl, .inl ⟨SqL.of upd_same, fun p3 h3 => ?_⟩⟩
            exact k p3 (ns ++ [c2]) _ (sm.trans (s1.trans ((same_updN h2).trans (same_updN h3)))) (by rw [← em]; exact upd_same) (good_of (w := w) hnu.1 hnu.2.1 hnu.2.2.1 bc2)
end
end K4

namespace K4
open PySem L2
open PySem.Builtin.Int (intBits)
def spLCuts (K : PySem.W.Frag) : Sp := fun vs H Q _ => ∃ (a : Addr) (ns : List Int) (at_ d m : Nat), vs = [.ref a, .int at_, .int d, .int m] ∧ SqL K H a (ns.map V.int) ∧ (∀ z ∈ ns, intBits z ≤ 2 ^ 20) ∧ 1 ≤ d ∧ d ≤ 3 ∧ m ≤ 7 ∧ ∀ l us cs H', Same H H' → H l = none → H' l = some (.lst us) → Paired (IsCut H') us cs → Set' d cs → Q (.ref l) H'
theorem cuts_over {H : Hp} {q : Addr} {xs ys : List V} (hq : H q = some (.lst xs)) {us : List V} {cs : List (List Int)} (h : Paired (IsCut H) us cs) : Paired (IsCut (upd H q (.lst ys))) us cs :=
  Paired.mono (fun v c hv => let ⟨a, e, ha⟩ := hv; ⟨a, e, by rw [upd_ne (ne_of ha hq (by intro z; cases z))]; exact ha⟩) h
theorem Set'.more {d : Nat} {cs : List (List Int)} {c : List Int} (h : Set' d cs) (hc : GoodCut d c) (h7 : cs.length < 7) (hn : ∀ e ∈ cs, ¬ C4.Par c e) : Set' d (cs ++ [c]) := by
  refine ⟨fun e he => ?_, by rw [List.length_append]; show cs.length + 1 ≤ 7; omega, List.pairwise_append.mpr ⟨h.pw, List.pairwise_singleton _ _, fun a ha b hb => ?_⟩⟩
  · rcases List.mem_append.mp he with q | q
    · exact h.good e q
    · have : e = c := by simpa using q
      rw [this]; exact hc
  · have : b = c := by simpa using hb
    rw [this]
    intro hp
    exact hn a ha (C4.par_symm (by rw [hc.1, (h.good a ha).1]) hp)
theorem Set'.moved {d : Nat} {cs : List (List Int)} {k : Nat} {c : List Int} (h : Set' d cs) (hk : cs[k]? = some c) : Set' d (cs.take k ++ cs.drop (k + 1) ++ [c]) := by
  have hkl : k < cs.length := (List.getElem?_eq_some_iff.mp hk).1
  refine (h.less k).more (h.good c (List.mem_of_getElem? hk)) ?_ fun e he hp => ?_
  · have := h.few
    rw [List.length_append, List.length_take, List.length_drop]
    omega
  · rcases List.mem_append.mp he with q | q
    · obtain ⟨j, hj⟩ := List.mem_iff_getElem?.mp q
      have hj2 : j < k := by
        have := (List.getElem?_eq_some_iff.mp hj).1
        rw [List.length_take] at this
        omega
      rw [List.getElem?_take_of_lt hj2] at hj
      exact h.apart j k hj2 e c hj hk (C4.par_symm (by rw [(h.good e (List.mem_of_getElem? hj)).1, (h.good c (List.mem_of_getElem? hk)).1]) hp)
    · obtain ⟨j, hj⟩ := List.mem_iff_getElem?.mp q
      rw [List.getElem?_drop] at hj
      exact h.apart k (k + 1 + j) (by omega) c e hk hj hp
def spFewer (aC : Addr) : Sp := fun vs H Q _ => ∃ (v : V) (d : Nat) (l : Addr) (us : List V) (cs : List (List Int)), vs = [v, .ref l] ∧ IsCutting aC H v d cs ∧ H l = some (.lst us) ∧ Paired (IsCut H) us cs ∧ ∀ H', Same H H' → Q (.bl true) H'
section
variable {P : Program} {w : World} {K : PySem.W.Frag} {mg : Str → Option Value} {base : Heap} {tD tC : Tok} {aC : Addr}
theorem sc_lcuts : FnScope ["_law_script", "_law_at", "_law_dims", "_law_many", "_law_found", "_law_k", "_law_cut_here"] ["_law_script", "_law_at", "_law_dims", "_law_many"] (defScope (top 32)) := ⟨rfl, rfl, rfl, by decide +kernel, rfl, by decide +kernel, by decide +kernel⟩
theorem ok_lcuts (D : DefAt K mg "_law_cuts" (top 32)) (B : Bs mg) (C__law_cell_at : CallOk P w K mg base "_law_cell_at" 3 (spCell K)) (C__law_cut : CallOk P w K mg base "_law_cut" 3 spLCut) (C__law_same : CallOk P w K mg base "_law_same" 3 spLSame) : CallOk P w K mg base "_law_cuts" 4 (spLCuts K) := by
  refine call_of D sc_lcuts (fun _ _ _ _ _ _ us hl => match us, hl with | [_, _, _, _], _ => rfl) (fun vs H Q E h => ?_) (fun f cdv A outer s H vs Q E hr h => ?_)
  · obtain ⟨a, ns, at_, d, m, rfl, hS, hb, d1, d3, h7, k⟩ := h
    rfl
  · obtain ⟨a, ns, at_, d, m, rfl, hS, hb, d1, d3, h7, k⟩ := h
    refine ⟨_, (pss_cons (ps_set (i := 4) sc_lcuts.nd rfl (Or.inl rfl) (pe_lst pa_nil))
      (pss_cons (ps_for PassesOwn.never rfl (pi_range1 rfl B.range (pa_cons (pv 3) pa_nil)) (pg_name (i := 5) sc_lcuts.nd rfl (Or.inl rfl)) (pss_cons (ps_set (i := 6) sc_lcuts.nd rfl (Or.inr rfl) (pe_callD C__law_cut hr (pa_cons (pe_callD C__law_cell_at hr (pa_cons (pv 0) (pa_cons (pe_op op_add (pv 1) (pv 5)) pa_nil))) (pa_cons (pv 2) (pa_cons (pv 4) pa_nil)))))
      (pss_one (ps_if (pt_cmpR (op_eqD (hu2 hr)) (pe_lc (N := ["_law_other", "_law_cut_here"]) (ix := [none, some 6]) rfl (pi_list (pv 4)) (lcok (fun _ h => cell_has h) (by rfl)) (keeps_name rfl) (fun _ _ _ _ _ => ⟨(pg_name (i := 0) (show List.Nodup (α := Str) ["_law_other", "_law_cut_here"] by decide) rfl (Or.inl rfl)), (pif_one (pt_val (pe_callD C__law_same hr (pa_cons (pv 1) (pa_cons (pv 0) pa_nil))))), (pv 0)⟩)) (pe_lst pa_nil) (nomark _)) (pss_one (ps_expr (pe_bm PySem.F.plainAttrs_list PySem.F.slot_list_append PySem.F.type_list_append mt_append (pv 4) (pa_cons (pv 6) pa_nil)))) pss_nil))))
      (pss_one (ps_ret (pv 4))))), ?_⟩
    have hsz : (1000 : Nat) ≤ sizeLine := by decide
    refine ⟨Nat.zero_le _, fun q hq => ?_⟩
    refine ⟨_, rfl, _, rfl, by omega, by omega, ?_⟩
    refine for_range (lo := 0) (n := ((m : Nat) : Int).toNat) (fun i σ H' => Same H H' ∧ ∃ us cs v5 v6, σ = [some (.ref a), some (.int at_), some (.int d), some (.int m), some (.ref q), v5, v6] ∧ H' q = some (.lst us) ∧ Paired (IsCut H') us cs ∧ Set' d cs ∧ cs.length ≤ i) ⟨same_updN hq, [], [], _, _, rfl, upd_same, .nil, ⟨fun e h => absurd h (List.not_mem_nil), Nat.zero_le _, List.Pairwise.nil⟩, Nat.le_refl _⟩ ?_ ?_
    · rintro i σ H' hi ⟨sm, us, cs, v5, v6, rfl, hq', hp, hset, hlen⟩
      have hn := hp.length
      have hi' : i < m := by omega
      have ea : (at_ : Int) + (0 + (i : Int)) = ((at_ + i : Nat) : Int) := by omega
      refine ⟨_, rfl, _, rfl, _, rfl, _, _, rfl, rfl, a, ns, at_ + i, congrArg (fun z => [V.ref a, V.int z]) ea, sm.seq hS, hb, fun z bz => ?_⟩
      refine ⟨_, rfl, _, rfl, z, d, q, us, cs, rfl, bz, d1, d3, hq', hp, hset.few, hset.good, fun p e H1 s1 hp1 ge => ?_⟩
      have hq1 := s1 _ _ hq'
      refine ⟨_, rfl, q, rfl, ⟨us, SqL.of hq1⟩, ?_⟩
      refine lc_by (n := us.length) (fun j ys H2 => Same H1 H2 ∧ ys.length ≤ j ∧ ∃ sel, Paired (IsCut H2) ys sel ∧ (sel = [] → ∀ (r : Nat) e', r < j → cs[r]? = some e' → ¬ C4.Par e e')) ⟨Same.refl _, Nat.le_refl _, [], .nil, fun _ r e' h => absurd h (Nat.not_lt_zero _)⟩ (fun j ys H2 hj p2 => ⟨us, us[j], SqL.of (p2.1 _ _ hq1), List.getElem?_eq_getElem hj⟩) (fun ys H2 p2 => ⟨us, SqL.of (p2.1 _ _ hq1), Nat.le_refl _⟩) (fun j ys H2 hj p2 => by have := hset.few; omega) (fun j ys H2 x H3 hj p2 yl R hR => ?_) (fun ys H2 p2 D hD => ?_)
      · obtain ⟨s2, yl2, sel, hsel, hno⟩ := p2
        obtain ⟨rfl, hx⟩ := yl
        obtain ⟨e', ee, he⟩ := pairedGet hp (hx us (SqL.of (s2 _ _ hq1)))
        have ge' := hset.good e' (List.mem_of_getElem? ee)
        have s12 := s1.trans s2
        refine ⟨_, rfl, _, rfl, _, _, e, e', rfl, ⟨p, rfl, s2 _ _ hp1⟩, he.same s12, by rw [ge.1, ge'.1], by rw [ge.1]; omega, ge.2.2, ge'.2.2, fun b hbb => ⟨b, rfl, ?_⟩⟩
        cases b with
        | true =>
          refine iteT ⟨_, rfl, hR _ _ ⟨s2, by rw [List.length_append]; show ys.length + 1 ≤ j + 1; omega, sel ++ [e'], paired_append hsel (.cons (he.same s12) .nil), fun z => by simp at z⟩⟩
        | false =>
          refine iteF (hR _ _ ⟨s2, by omega, sel, hsel, fun hz r e2 hr he2 => ?_⟩)
          rcases Nat.lt_or_eq_of_le (Nat.lt_succ_iff.mp hr) with w1 | w1
          · exact hno hz r e2 w1 he2
          · subst w1
            rw [ee] at he2
            cases he2
            exact fun z => absurd (hbb.mpr z) (by decide)
      · obtain ⟨s2, yl2, sel, hsel, hno⟩ := p2
        have sD := s2.trans (same_updN (o := .lst ys) hD)
        refine ⟨Nat.zero_le _, fun p2 h2 => ?_⟩
        have s3 := same_updN (o := .lst []) h2
        refine ⟨.list (sel.map dCut), .list (([] : List (List Int)).map dCut), DV.lst (SqL.of (s3 _ _ upd_same)) (dvs_cuts K (cuts_same hsel ((same_updN hD).trans s3))), DV.lst (SqL.of upd_same) .nil, ⟨layL_cuts _, layL_cuts _, depL_cuts _⟩, _, rfl, ?_⟩
        rw [if_neg (by decide), eqvL_cuts]
        have sE := sm.trans (s1.trans (sD.trans s3))
        have hqE := (sD.trans s3) _ _ hq1
        have hpE := cuts_same hp (s1.trans (sD.trans s3))
        refine ite2 (fun hz => ?_) (fun hz => ⟨sE, us, cs, _, _, rfl, hqE, hpE, hset, by omega⟩)
        have hz' : sel = [] := of_decide_eq_true hz
        refine ⟨_, rfl, .inl ⟨rfl, _, SqL.of hqE⟩, _, rfl, q, us, _, rfl, rfl, hqE, by have := hset.few; omega, ?_⟩
        refine ⟨same_over sE hq, us ++ [V.ref p], cs ++ [e], _, _, rfl, upd_same, paired_append (cuts_over hqE hpE) (.cons ⟨p, rfl, ?_⟩ .nil), hset.more ge (by omega) fun e' he' => ?_, by rw [List.length_append]; show cs.length + 1 ≤ i + 1; omega⟩
        · have hpp := (sD.trans s3) _ _ hp1
          rw [upd_ne (ne_of hpp hqE (by intro z; cases z))]
          exact hpp
        · obtain ⟨r, hr⟩ := List.mem_iff_getElem?.mp he'
          exact hno hz' r e' (by have := (List.getElem?_eq_some_iff.mp hr).1; omega) hr
    · rintro σ H' ⟨sm, us, cs, v5, v6, rfl, hq', hp, hset, hlen⟩
      exact ⟨_, rfl, k q us cs H' sm hq hq' hp hset⟩
theorem sc_fewer : FnScope ["_law_cutting", "_law_cuts_here", "_law_k", "_law_rest", "_law_later"] ["_law_cutting", "_law_cuts_here"] (defScope (top 36)) := ⟨rfl, rfl, rfl, by decide +kernel, rfl, by decide +kernel, by decide +kernel⟩
theorem ok_fewer (D : DefAt K mg "_law_fewer" (top 36)) (B : Bs mg) (C_Cutting_without : MethOk P w K mg base aC "without" 7 (spMwithout aC)) (C_Cutting_with_one : MethOk P w K mg base aC "with_one" 7 (spMwith aC)) (C_Cutting_cuts : MethOk P w K mg base aC "cuts" 7 (spMcuts aC)) (C_Cutting_dims : MethOk P w K mg base aC "dims" 7 (spMdims aC)) : CallOk P w K mg base "_law_fewer" 8 (spFewer aC) := by
  refine call_of D sc_fewer (fun _ _ _ _ _ _ us hl => match us, hl with | [_, _], _ => rfl) (fun vs H Q E h => ?_) (fun f cdv A outer s H vs Q E hr h => ?_)
  · obtain ⟨v, d, l, us, cs, rfl, hC, hl, hp, k⟩ := h
    rfl
  · obtain ⟨v, d, l, us, cs, rfl, hC, hl, hp, k⟩ := h
    refine ⟨_, (pss_cons (ps_for PassesOwn.never rfl (pi_range1 rfl B.range (pa_cons (pe_callB call_len_seq (by rfl) B.len bt_len (pa_cons (pv 1) pa_nil)) pa_nil)) (pg_name (i := 2) sc_fewer.nd rfl (Or.inl rfl)) (pss_cons (ps_set (i := 3) sc_fewer.nd rfl (Or.inl rfl) (pe_mt C_Cutting_without hr (pv 0) (pa_cons (pv 2) pa_nil)))
      (pss_cons (ps_if (PW.pt (pw_or (pt_cmpR (op_neD (hu2 hr)) (pe_mt0 C_Cutting_cuts hr (pv 3)) (pe_op op_cat (pe_slice sl_list (pv 1) po_none (po_some (pv 2))) (pe_slice sl_list (pv 1) (po_some (pe_op op_add (pv 2) pe_int)) po_none)) (nomark _)) (pw_or1 (pt_cmpR op_ne (pe_mt0 C_Cutting_dims hr (pv 3)) (pe_mt0 C_Cutting_dims hr (pv 0)) (nomark _))))) (pss_one (ps_ret pe_bl)) pss_nil)
      (pss_cons (ps_set (i := 4) sc_fewer.nd rfl (Or.inl rfl) (pe_mt C_Cutting_with_one hr (pv 3) (pa_cons (pe_ix ix_list (pv 1) (pv 2) (fun _ _ => rfl)) pa_nil)))
      (pss_one (ps_if (pt_cmpR (op_neD (hu2 hr)) (pe_mt0 C_Cutting_cuts hr (pv 4)) (pe_op op_cat (pe_op op_cat (pe_slice sl_list (pv 1) po_none (po_some (pv 2))) (pe_slice sl_list (pv 1) (po_some (pe_op op_add (pv 2) pe_int)) po_none)) (pe_lst (pa_cons (pe_ix ix_list (pv 1) (pv 2) (fun _ _ => rfl)) pa_nil))) (nomark _)) (pss_one (ps_ret pe_bl)) pss_nil))))))
      (pss_one (ps_ret (pe_cmpR (op_eqD (hu2 hr)) (pe_mt0 C_Cutting_cuts hr (pv 0)) (pv 1) (nomark _))))), ?_⟩
    have hsz : (1000 : Nat) ≤ sizeLine := by decide
    have hn := hp.length
    obtain ⟨x, dx, t, ws, rfl, hx, ht, hpw, hset, d1, d3⟩ := id hC
    have h7 := hset.few
    refine ⟨_, rfl, l, us, rfl, .inl (SqL.of hl), _, rfl, by omega, by omega, ?_⟩
    refine for_range (lo := 0) (n := ((us.length : Nat) : Int).toNat) (fun i σ H' => Same H H' ∧ ∃ v2 v3 v4, σ = [some (.ref x), some (.ref l), v2, v3, v4]) ⟨Same.refl _, _, _, _, rfl⟩ ?_ ?_
    · rintro i σ H' hi ⟨sm, v2, v3, v4, rfl⟩
      have hi' : i < us.length := by omega
      have hic : i < cs.length := by omega
      have ek : (0 + (i : Int)) = (i : Int) := by omega
      rw [ek]
      refine ⟨_, rfl, x, dx, _, rfl, (sm _ _ hx), rfl, _, rfl, _, d, cs, i, rfl, hC.same sm, hic, fun r H1 s1 hr => ?_⟩
      obtain ⟨x2, dx2, t2, ws2, e2, hx2, _⟩ := id hr
      cases e2
      have sm1 := sm.trans s1
      refine ⟨_, rfl, r, dx2, _, rfl, hx2, rfl, _, d, _, rfl, hr, fun l2 us2 H2 s2 hl2 hq2 hp2 => ?_⟩
      have sm2 := sm1.trans s2
      have c1 : cutV us none (some (i : Int)) = us.take i := cut_take (by omega)
      have c2 : cutV us (some ((i : Int) + 1)) none = us.drop (i + 1) := cut_from (k := i + 1) (by omega)
      refine ⟨_, rfl, _, rfl, _, rfl, l, us, rfl, SqL.of (sm2 _ _ hl), fun p1 h1 => ?_⟩
      have s3 := same_updN (o := .lst (cutV us none (some (i : Int)))) h1
      refine ⟨_, rfl, _, rfl, _, _, rfl, rfl, _, rfl, l, us, rfl, SqL.of (s3 _ _ (sm2 _ _ hl)), fun p2 h2 => ?_⟩
      have s4 := same_updN (o := .lst (cutV us (some ((i : Int) + 1)) none)) h2
      refine ⟨p1, p2, _, _, rfl, rfl, s4 _ _ upd_same, upd_same, ?_, fun p3 h3 => ?_⟩
      · have a1 := cutV_length us none (some (i : Int))
        have a2 := cutV_length us (some ((i : Int) + 1)) none
        omega
      have s5 := same_updN (o := .lst (cutV us none (some (i : Int)) ++ cutV us (some ((i : Int) + 1)) none)) h3
      have s35 := s3.trans (s4.trans s5)
      have sm5 := sm2.trans s35
      have hpA : ∀ {Hx : Hp}, Same H Hx → Paired (IsCut Hx) (cutV us none (some (i : Int)) ++ cutV us (some ((i : Int) + 1)) none) (cs.take i ++ cs.drop (i + 1)) := fun {Hx} sx => by
        rw [c1, c2]
        exact cuts_same (paired_append (paired_take i hp) (paired_drop (i + 1) hp)) sx
      refine ⟨.list ((cs.take i ++ cs.drop (i + 1)).map dCut), .list ((cs.take i ++ cs.drop (i + 1)).map dCut), DV.lst (SqL.of (s35 _ _ hq2)) (dvs_cuts K (cuts_same hp2 s35)), DV.lst (SqL.of upd_same) (dvs_cuts K (hpA sm5)), ⟨layL_cuts _, layL_cuts _, depL_cuts _⟩, _, rfl, ?_⟩
      rw [if_pos rfl, eqvL_cuts, decide_eq_true rfl]
      refine iteF ⟨_, rfl, r, dx2, _, rfl, (s2.trans s35) _ _ hx2, rfl, _, d, _, rfl, hr.same (s2.trans s35), _, rfl, x, dx, _, rfl, (sm5 _ _ hx), rfl, _, d, cs, rfl, hC.same sm5, rfl, _, rfl, iteNS rfl ?_⟩
      obtain ⟨c, ec, a, eu, ha⟩ := pairedGet hp (List.getElem?_eq_getElem hi')
      refine ⟨_, rfl, r, dx2, _, rfl, (s2.trans s35) _ _ hx2, rfl, _, rfl, _, rfl, l, us, _, V.ref a, rfl, rfl, SqL.of (sm5 _ _ hl), atI_nat (by rw [List.getElem?_eq_getElem hi', eu]), _, _, d, _, c, rfl, hr.same (s2.trans s35), ⟨a, rfl, sm5 _ _ ha⟩, hset.moved ec, fun r2 H6 s6 hr2 => ?_⟩
      obtain ⟨x3, dx3, t3, ws3, e3, hx3, _⟩ := id hr2
      cases e3
      have sm6 := sm5.trans s6
      refine ⟨_, rfl, r2, dx3, _, rfl, hx3, rfl, _, d, _, rfl, hr2, fun l7 us7 H7 s7 hl7 hq7 hp7 => ?_⟩
      have sm7 := sm6.trans s7
      refine ⟨_, rfl, _, rfl, _, rfl, l, us, rfl, SqL.of (sm7 _ _ hl), fun q1 g1 => ?_⟩
      have t3 := same_updN (o := .lst (cutV us none (some (i : Int)))) g1
      refine ⟨_, rfl, _, rfl, _, _, rfl, rfl, _, rfl, l, us, rfl, SqL.of (t3 _ _ (sm7 _ _ hl)), fun q2 g2 => ?_⟩
      have t4 := same_updN (o := .lst (cutV us (some ((i : Int) + 1)) none)) g2
      refine ⟨q1, q2, _, _, rfl, rfl, t4 _ _ upd_same, upd_same, ?_, fun q3 g3 => ?_⟩
      · have a1 := cutV_length us none (some (i : Int))
        have a2 := cutV_length us (some ((i : Int) + 1)) none
        omega
      have t5 := same_updN (o := .lst (cutV us none (some (i : Int)) ++ cutV us (some ((i : Int) + 1)) none)) g3
      refine ⟨_, rfl, _, rfl, l, us, _, V.ref a, rfl, rfl, SqL.of ((t3.trans (t4.trans t5)) _ _ (sm7 _ _ hl)), atI_nat (by rw [List.getElem?_eq_getElem hi', eu]), (by show 1 ≤ sizeLine; decide), fun q4 g4 => ?_⟩
      have t6 := same_updN (o := .lst [V.ref a]) g4
      refine ⟨q3, q4, _, _, rfl, rfl, t6 _ _ upd_same, upd_same, ?_, fun q5 g5 => ?_⟩
      · have a1 := cutV_length us none (some (i : Int))
        have a2 := cutV_length us (some ((i : Int) + 1)) none
        show (cutV us none (some (i : Int)) ++ cutV us (some ((i : Int) + 1)) none).length + 1 ≤ sizeLine
        rw [List.length_append]
        omega
      have t7 := same_updN (o := .lst (cutV us none (some (i : Int)) ++ cutV us (some ((i : Int) + 1)) none ++ [V.ref a])) g5
      have t37 := t3.trans (t4.trans (t5.trans (t6.trans t7)))
      have sm8 := sm7.trans t37
      refine ⟨.list ((cs.take i ++ cs.drop (i + 1) ++ [c]).map dCut), .list ((cs.take i ++ cs.drop (i + 1) ++ [c]).map dCut), DV.lst (SqL.of (t37 _ _ hq7)) (dvs_cuts K (cuts_same hp7 t37)), DV.lst (SqL.of upd_same) (dvs_cuts K (paired_append (hpA sm8) (.cons ⟨a, rfl, sm8 _ _ ha⟩ .nil))), ⟨layL_cuts _, layL_cuts _, depL_cuts _⟩, _, rfl, ?_⟩
      rw [if_pos rfl, eqvL_cuts, decide_eq_true rfl]
      exact iteF ⟨sm8, _, _, _, rfl⟩
    · rintro σ H' ⟨sm, v2, v3, v4, rfl⟩
      refine ⟨_, rfl, x, dx, _, rfl, (sm _ _ hx), rfl, _, d, cs, rfl, hC.same sm, fun l3 us3 H4 s4 hl3 hq3 hp3 => ?_⟩
      have sm4 := sm.trans s4
      refine ⟨_, rfl, .list (cs.map dCut), .list (cs.map dCut), DV.lst (SqL.of hq3) (dvs_cuts K hp3), DV.lst (SqL.of (sm4 _ _ hl)) (dvs_cuts K (cuts_same hp sm4)), ⟨layL_cuts _, layL_cuts _, depL_cuts _⟩, ?_⟩
      rw [if_neg (by decide), eqvL_cuts, decide_eq_true rfl]
      exact k _ sm4
end
end K4

namespace K4
open PySem L2
open PySem.Builtin.Int (intBits)
def Spots (d : Nat) (H : Hp) (ps : List V) (sps : List (List (Int × Int))) : Prop := Paired (IsSpot H) ps sps ∧ ∀ sp ∈ sps, sp.length = d ∧ GoodSpot sp ∧ BitsSpot sp
theorem Spots.same {d : Nat} {H H' : Hp} {ps : List V} {sps : List (List (Int × Int))} (h : Spots d H ps sps) (s : Same H H') : Spots d H' ps sps := ⟨Paired.mono (fun _ _ q => q.same s) h.1, h.2⟩
theorem Spots.more {d : Nat} {H : Hp} {ps : List V} {sps : List (List (Int × Int))} {v : V} {sp : List (Int × Int)} (h : Spots d H ps sps) (hv : IsSpot H v sp) (hl : sp.length = d) (hg : GoodSpot sp) (hb : BitsSpot sp) : Spots d H (ps ++ [v]) (sps ++ [sp]) :=
  ⟨paired_append h.1 (.cons hv .nil), fun z hz => by
    rcases List.mem_append.mp hz with q | q
    · exact h.2 z q
    · have : z = sp := by simpa using q
      rw [this]; exact ⟨hl, hg, hb⟩⟩
theorem spots_over {d : Nat} {H : Hp} {q : Addr} {xs ys : List V} (hq : H q = some (.lst xs)) {us : List V} {cs : List (List (Int × Int))} (h : Spots d H us cs) : Spots d (upd H q (.lst ys)) us cs := by
  have up : ∀ {a : Addr} {us : List V}, H a = some (.tup us) → upd H q (.lst ys) a = some (.tup us) := fun {a us} ha => by rw [upd_ne (ne_of ha hq (by intro z; cases z))]; exact ha
  exact ⟨Paired.mono (fun v c hv => let ⟨a, vs, e, ha, hp⟩ := hv; ⟨a, vs, e, up ha, Paired.mono (fun _ _ hf => let ⟨b, e, hb⟩ := hf; ⟨b, e, up hb⟩) hp⟩) h.1, h.2⟩
theorem cutting_over {aC : Addr} {H : Hp} {q : Addr} {xs ys : List V} (hq : H q = some (.lst xs)) {v : V} {d : Nat} {cs : List (List Int)} (h : IsCutting aC H v d cs) : IsCutting aC (upd H q (.lst ys)) v d cs := by
  obtain ⟨x, dx, t, us, e, h1, h2, h3, h4⟩ := h
  refine ⟨x, dx, t, us, e, ?_, ?_, cuts_over hq h3, h4⟩
  · rw [upd_ne (ne_of h1 hq (by intro z; cases z))]; exact h1
  · rw [upd_ne (ne_of h2 hq (by intro z; cases z))]; exact h2
theorem eqvT_ints (cs es : List Int) : PyData.eqv (.tuple (cs.map PyData.int)) (.tuple (es.map PyData.int)) = decide (cs = es) := by rw [PyData.eqv, eqv_ints]
theorem layT_ints (cs : List Int) : PyData.canLay0 (.tuple (cs.map PyData.int)) = true := by rw [PyData.canLay0]; exact lay_ints cs
theorem depT_ints (cs : List Int) : PyData.depth (.tuple (cs.map PyData.int)) ≤ 100 := by rw [PyData.depth, dep_ints]; decide
theorem G_one (n : Int) : Cu.G n 1 = 1 := by
  have h1 := Cu.G_pos n 1 (by decide)
  have h2 := Cu.G_le n 1 (by decide)
  have : ((1 : Int).natAbs : Int) = 1 := rfl
  omega
def spTold (aC : Addr) : Sp := fun vs H Q _ => ∃ (v : V) (d : Nat) (l pl : Addr) (us ps : List V) (cs : List (List Int)) (sps : List (List (Int × Int))), vs = [v, .int d, .ref l, .ref pl] ∧ IsCutting aC H v d cs ∧ H l = some (.lst us) ∧ Paired (IsCut H) us cs ∧ H pl = some (.lst ps) ∧ Spots d H ps sps ∧ ∀ H', Same H H' → Q (.bl true) H'
def spDrawn (K : PySem.W.Frag) : Sp := fun vs H Q _ => ∃ (a : Addr) (ns : List Int) (at_ : Nat), vs = [.ref a, .int at_] ∧ SqL K H a (ns.map V.int) ∧ (∀ z ∈ ns, intBits z ≤ 2 ^ 20) ∧ ∀ (d : Nat) l us cs q ps sps p H', Same H H' → 1 ≤ d → d ≤ 3 → H' l = some (.lst us) → Paired (IsCut H') us cs → Set' d cs → H' q = some (.lst ps) → Spots d H' ps sps → H' p = some (.tup [.int d, .ref l, .ref q]) → Q (.ref p) H'
theorem v2 {v : V} {i i' : Int} (h1 : i = i') : [v, V.int i] = [v, V.int i'] := by rw [h1]
theorem v4 {v u : V} {i k i' k' : Int} (h1 : i = i') (h3 : k = k') : [v, V.int i, u, V.int k] = [v, V.int i', u, V.int k'] := by rw [h1, h3]
section
variable {P : Program} {w : World} {K : PySem.W.Frag} {mg : Str → Option Value} {base : Heap} {tD tC : Tok} {aC : Addr}
theorem sc_told : FnScope ["_law_cutting", "_law_dims", "_law_cuts_here", "_law_places", "_law_found", "_law_place", "_law_told_here"] ["_law_cutting", "_law_dims", "_law_cuts_here", "_law_places"] (defScope (top 35)) := ⟨rfl, rfl, rfl, by decide +kernel, rfl, by decide +kernel, by decide +kernel⟩
theorem ok_told (D : DefAt K mg "_law_told" (top 35)) (B : Bs mg) (C__law_whole : CallOk P w K mg base "_law_whole" 7 spWhole) (C__law_side : CallOk P w K mg base "_law_side" 7 spSide) (C_Cutting_sides : MethOk P w K mg base aC "sides" 7 (spMsides aC)) (C_Cutting_many : MethOk P w K mg base aC "many" 7 (spMmany aC)) (C_Cutting_cuts : MethOk P w K mg base aC "cuts" 7 (spMcuts aC)) (C_Cutting_dims : MethOk P w K mg base aC "dims" 7 (spMdims aC)) : CallOk P w K mg base "_law_told" 8 (spTold aC) := by
  refine call_of D sc_told (fun _ _ _ _ _ _ us hl => match us, hl with | [_, _, _, _], _ => rfl) (fun vs H Q E h => ?_) (fun f cdv A outer s H vs Q E hr h => ?_)
  · obtain ⟨v, d, l, pl, us, ps, cs, sps, rfl, hC, hl, hp, hpl, hsp, k⟩ := h
    rfl
  · obtain ⟨v, d, l, pl, us, ps, cs, sps, rfl, hC, hl, hp, hpl, hsp, k⟩ := h
    refine ⟨_, (pss_cons (ps_if (PW.pt (pw_or (pt_not (pt_val (pe_callD C__law_whole hr (pa_cons (pe_mt0 C_Cutting_dims hr (pv 0)) pa_nil)))) (pw_or (pt_cmpR op_ne (pe_mt0 C_Cutting_dims hr (pv 0)) (pv 1) (nomark _)) (pw_or1 (pt_not (pt_val (pe_callD C__law_whole hr (pa_cons (pe_mt0 C_Cutting_many hr (pv 0)) pa_nil)))))))) (pss_one (ps_ret pe_bl)) pss_nil)
      (pss_cons (ps_set (i := 4) sc_told.nd rfl (Or.inl rfl) (pe_mt0 C_Cutting_cuts hr (pv 0)))
      (pss_cons (ps_if (PW.pt (pw_or (pt_cmpR op_ne (pe_mt0 C_Cutting_many hr (pv 0)) (pe_callB call_len_seq (by rfl) B.len bt_len (pa_cons (pv 2) pa_nil)) (nomark _)) (pw_or (pt_not (pt_val (pe_callB call_isi (by rfl) B.isi bt_isi (pa_cons (pv 4) (pa_cons (pe_bltn (v := .ty "list") (by rfl) B.list bt_list rfl) pa_nil))))) (pw_or1 (pt_cmpR (op_neD (hu2 hr)) (pv 4) (pv 2) (nomark _)))))) (pss_one (ps_ret pe_bl)) pss_nil)
      (pss_cons (ps_expr (pe_bm PySem.F.plainAttrs_list PySem.F.slot_list_append PySem.F.type_list_append mt_append (pv 4) (pa_cons (pe_tup (pa_cons pe_int (pa_cons pe_int pa_nil))) pa_nil)))
      (pss_cons (ps_for PassesOwn.never rfl (pi_list (pv 3)) (pg_name (i := 5) sc_told.nd rfl (Or.inr rfl)) (pss_cons (ps_set (i := 6) sc_told.nd rfl (Or.inl rfl) (pe_mt C_Cutting_sides hr (pv 0) (pa_cons (pv 5) pa_nil)))
      (pss_cons (ps_if (PW.pt (pw_or (pt_not (pt_val (pe_callB call_isi (by rfl) B.isi bt_isi (pa_cons (pv 6) (pa_cons (pe_bltn (v := .ty "tuple") (by rfl) B.tuple bt_tuple rfl) pa_nil))))) (pw_or1 (pt_cmpR (op_neD (hu2 hr)) (pv 6) (pe_callTy call_tuple_of (by rfl) B.tuple bt_tuple (pa_cons (pe_lc (N := ["_law_cut_here", "_law_place"]) (ix := [none, some 5]) rfl (pi_list (pv 2)) (lcok (fun _ h => cell_has h) (by rfl)) (keeps_name rfl) (fun _ _ _ _ _ => ⟨(pg_name (i := 0) (show List.Nodup (α := Str) ["_law_cut_here", "_law_place"] by decide) rfl (Or.inl rfl)), pif_nil, (pe_callD C__law_side hr (pa_cons (pv 0) (pa_cons (pv 1) pa_nil)))⟩)) pa_nil)) (nomark _))))) (pss_one (ps_ret pe_bl)) pss_nil)
      (pss_one (ps_if (pt_cmpR (op_neD (hu2 hr)) (pe_lc (N := ["_law_one"]) (ix := [none]) rfl (pi_tup (pv 6)) (lcok (fun _ h => cell_has h) (by rfl)) (keeps_name rfl) (fun _ _ _ _ _ => ⟨(pg_name (i := 0) (show List.Nodup (α := Str) ["_law_one"] by decide) rfl (Or.inl rfl)), (pif_one (pt_not (pt_val (pe_callD C__law_whole hr (pa_cons (pv 0) pa_nil))))), (pv 0)⟩)) (pe_lst pa_nil) (nomark _)) (pss_one (ps_ret pe_bl)) pss_nil)))))
      (pss_one (ps_ret (pe_cmpR (op_eqD (hu2 hr)) (pe_mt0 C_Cutting_cuts hr (pv 0)) (pv 2) (nomark _))))))))), ?_⟩
    have hsz : (1000 : Nat) ≤ sizeLine := by decide
    have hn := hp.length
    obtain ⟨x, dx, t, ws, rfl, hx, ht, hpw, hset, d1, d3⟩ := id hC
    have h7 := hset.few
    refine ⟨_, rfl, x, dx, _, rfl, hx, rfl, _, d, cs, rfl, hC, _, rfl, true, rfl, iteF ⟨_, rfl, x, dx, _, rfl, hx, rfl, _, d, cs, rfl, hC, _, rfl, rfl, _, rfl, iteNS rfl ?_⟩⟩
    refine ⟨_, rfl, x, dx, _, rfl, hx, rfl, _, d, cs, rfl, hC, _, rfl, true, rfl, iteF ?_⟩
    refine ⟨_, rfl, x, dx, _, rfl, hx, rfl, _, d, cs, rfl, hC, fun f fs H1 s1 hf0 hf hpf => ?_⟩
    refine ⟨_, rfl, x, dx, _, rfl, (s1 _ _ hx), rfl, _, d, cs, rfl, hC.same s1, _, rfl, l, us, rfl, .inl (SqL.of (s1 _ _ hl)), rfl, _, rfl, iteNS (by rw [hn]) ?_⟩
    refine ⟨_, rfl, _, "list", _, true, rfl, TyOf.lst hf, rfl, true, rfl, iteF ⟨_, rfl, _, rfl, .list (cs.map dCut), .list (cs.map dCut), DV.lst (SqL.of hf) (dvs_cuts K hpf), DV.lst (SqL.of (s1 _ _ hl)) (dvs_cuts K (cuts_same hp s1)), ⟨layL_cuts _, layL_cuts _, depL_cuts _⟩, _, rfl, ?_⟩⟩
    rw [if_pos rfl, eqvL_cuts, decide_eq_true rfl]
    refine iteF ⟨_, rfl, .inl ⟨rfl, _, SqL.of hf⟩, (by show 2 ≤ sizeLine; decide), fun p1 h1 => ?_⟩
    have hfl := hpf.length
    have s2 := same_updN (o := .tup [V.int 1, V.int 2]) h1
    refine ⟨f, fs, _, rfl, rfl, s2 _ _ hf, by omega, ?_⟩
    have sA : Same H (upd (upd H1 p1 (.tup [V.int 1, V.int 2])) f (.lst (fs ++ [V.ref p1]))) := same_over (s1.trans s2) hf0
    refine ⟨_, rfl, pl, rfl, ⟨ps, SqL.of (sA _ _ hpl)⟩, ?_⟩
    refine for_list (xs := ps) (fun i σ H' => Same H H' ∧ ∃ v5 v6, σ = [some (.ref x), some (.int d), some (.ref l), some (.ref pl), some (.ref f), v5, v6]) ⟨sA, _, _, rfl⟩ (fun i σ H' _ q => SqL.of (q.1 _ _ hpl)) ?_ ?_
    · rintro i y σ H' ey ⟨sm, v5, v6, rfl⟩
      obtain ⟨sp, es, hy⟩ := pairedGet hsp.1 ey
      obtain ⟨sl, sg, sb⟩ := hsp.2 sp (List.mem_of_getElem? es)
      refine ⟨_, rfl, x, dx, _, rfl, (sm _ _ hx), rfl, _, rfl, _, _, d, cs, sp, rfl, hC.same sm, hy.same sm, sl, sg, sb, fun p H3 s3 hp3 => ?_⟩
      have sm3 := sm.trans s3
      refine ⟨_, rfl, _, "tuple", _, true, rfl, TyOf.tup hp3, rfl, true, rfl, iteF ⟨_, rfl, _, rfl, l, rfl, ⟨us, SqL.of (sm3 _ _ hl)⟩, ?_⟩⟩
      refine lc_lst (SqL.of (sm3 _ _ hl)) ((cs.map fun c => C4.sgn (C4.sideV d c sp)).map V.int) (by simp; omega) (by simp; omega) (fun j x2 y2 H4 e1 e2 s4 R hR => ?_) (fun H4 s4 D hD => ?_)
      · obtain ⟨c, ec, hc⟩ := pairedGet hp e1
        have gc := hset.good c (List.mem_of_getElem? ec)
        have ey2 : y2 = .int (C4.sgn (C4.sideV d c sp)) := by
          rw [List.getElem?_map, List.getElem?_map, ec] at e2
          cases e2
          rfl
        have sm4 := sm3.trans s4
        refine ⟨_, rfl, _, rfl, d, _, _, c, sp, rfl, hc.same sm4, hy.same sm4, sl, d3, gc.1, gc.2.2, sb, fun H5 s5 => ?_⟩
        rw [← ey2]
        exact hR _ (s4.trans s5)
      · refine ⟨D, _, rfl, .inl ⟨SqL.of upd_same, fun q hq => ?_⟩⟩
        have s5 := s4.trans ((same_updN (o := .lst ((cs.map fun c => C4.sgn (C4.sideV d c sp)).map V.int)) hD).trans (same_updN (o := .tup ((cs.map fun c => C4.sgn (C4.sideV d c sp)).map V.int)) hq))
        have sm5 := sm3.trans s5
        refine ⟨.tuple ((cs.map fun c => C4.sgn (C4.sideV d c sp)).map PyData.int), .tuple ((cs.map fun c => C4.sgn (C4.sideV d c sp)).map PyData.int), DV.tup (SqT.of (s5 _ _ hp3)) (dvs_ints K _ _), DV.tup (SqT.of upd_same) (dvs_ints K _ _), ⟨layT_ints _, layT_ints _, depT_ints _⟩, _, rfl, ?_⟩
        rw [if_pos rfl, eqvT_ints, decide_eq_true rfl]
        refine iteF ⟨_, rfl, p, rfl, ⟨_, SqT.of (s5 _ _ hp3)⟩, ?_⟩
        generalize upd (upd H4 D _) q _ = H6 at *
        refine lc_by (n := ((cs.map fun c => C4.sgn (C4.sideV d c sp)).map V.int).length) (fun j ys H7 => ys = [] ∧ H7 = H6) ⟨rfl, rfl⟩ (fun j ys H7 hj p2 => ⟨_, _, by rw [p2.2]; exact SqT.of (s5 _ _ hp3), List.getElem?_eq_getElem hj⟩) (fun ys H7 p2 => ⟨_, by rw [p2.2]; exact SqT.of (s5 _ _ hp3), Nat.le_refl _⟩) (fun j ys H7 hj p2 => by rw [p2.1]; show 0 < sizeLine; omega) (fun j ys H7 z H8 hj p2 yl R hR => ?_) (fun ys H7 p2 D2 hD2 => ?_)
        · obtain ⟨rfl, rfl⟩ := p2
          obtain ⟨rfl, hz⟩ := yl
          obtain ⟨_, rfl⟩ := intAt (hz _ (SqT.of (s5 _ _ hp3)))
          exact ⟨_, rfl, _, rfl, true, rfl, iteF (hR _ _ ⟨rfl, rfl⟩)⟩
        · obtain ⟨rfl, rfl⟩ := p2
          refine ⟨Nat.zero_le _, fun p4 h4 => ?_⟩
          have s6 := same_updN (o := .lst []) hD2
          have s7 := same_updN (o := .lst []) h4
          refine ⟨.list (([] : List (List Int)).map dCut), .list (([] : List (List Int)).map dCut), DV.lst (SqL.of (s7 _ _ upd_same)) .nil, DV.lst (SqL.of upd_same) .nil, ⟨layL_cuts _, layL_cuts _, depL_cuts _⟩, _, rfl, ?_⟩
          rw [if_pos rfl, eqvL_cuts, decide_eq_true rfl]
          exact iteF ⟨sm5.trans (s6.trans s7), _, _, rfl⟩
    · rintro σ H' ⟨sm, v5, v6, rfl⟩
      refine ⟨_, rfl, x, dx, _, rfl, (sm _ _ hx), rfl, _, d, cs, rfl, hC.same sm, fun l3 us3 H4 s4 hl3 hq3 hp3 => ?_⟩
      have sm4 := sm.trans s4
      refine ⟨_, rfl, .list (cs.map dCut), .list (cs.map dCut), DV.lst (SqL.of hq3) (dvs_cuts K hp3), DV.lst (SqL.of (sm4 _ _ hl)) (dvs_cuts K (cuts_same hp sm4)), ⟨layL_cuts _, layL_cuts _, depL_cuts _⟩, ?_⟩
      rw [if_neg (by decide), eqvL_cuts, decide_eq_true rfl]
      exact k _ sm4
end
end K4

namespace K4
open PySem L2
open PySem.Builtin.Int (intBits)
section
variable {P : Program} {w : World} {K : PySem.W.Frag} {mg : Str → Option Value} {base : Heap} {tD tC : Tok} {aC : Addr}
theorem sc_drawn : FnScope ["_law_script", "_law_at", "_law_dims", "_law_cuts_here", "_law_places", "_law_cut_here"] ["_law_script", "_law_at"] (defScope (top 37)) := ⟨rfl, rfl, rfl, by decide +kernel, rfl, by decide +kernel, by decide +kernel⟩
theorem ok_drawn (D : DefAt K mg "_law_drawn" (top 37)) (B : Bs mg) (C__law_cell_at : CallOk P w K mg base "_law_cell_at" 4 (spCell K)) (C__law_draw : CallOk P w K mg base "_law_draw" 4 spDraw) (C__law_cuts : CallOk P w K mg base "_law_cuts" 4 (spLCuts K)) (C__law_spot : CallOk P w K mg base "_law_spot" 4 spLSpot) : CallOk P w K mg base "_law_drawn" 5 (spDrawn K) := by
  refine call_of D sc_drawn (fun _ _ _ _ _ _ us hl => match us, hl with | [_, _], _ => rfl) (fun vs H Q E h => ?_) (fun f cdv A outer s H vs Q E hr h => ?_)
  · obtain ⟨a, ns, at_, rfl, hS, hb, k⟩ := h
    rfl
  · obtain ⟨a, ns, at_, rfl, hS, hb, k⟩ := h
    refine ⟨_, (pss_cons (ps_set (i := 2) sc_drawn.nd rfl (Or.inr rfl) (pe_op op_add pe_int (pe_callD C__law_draw hr (pa_cons (pe_callD C__law_cell_at hr (pa_cons (pv 0) (pa_cons (pv 1) pa_nil))) (pa_cons pe_int (pa_cons pe_int pa_nil))))))
      (pss_cons (ps_set (i := 3) sc_drawn.nd rfl (Or.inl rfl) (pe_callD C__law_cuts hr (pa_cons (pv 0) (pa_cons (pe_op op_add (pv 1) pe_int) (pa_cons (pv 2) (pa_cons (pe_callD C__law_draw hr (pa_cons (pe_callD C__law_cell_at hr (pa_cons (pv 0) (pa_cons (pv 1) pa_nil))) (pa_cons pe_int (pa_cons pe_int pa_nil)))) pa_nil))))))
      (pss_cons (ps_setLC (N := ["_law_k", "_law_dims", "_law_script", "_law_at"]) (ix := [none, some 2, some 0, some 1]) (i := 4) sc_drawn.nd rfl (Or.inl rfl) rfl (pi_range1 rfl B.range (pa_cons pe_int pa_nil)) (lcok (fun _ h => cell_has h) (by rfl)) (keeps_name rfl) (fun _ _ _ _ _ => ⟨(pg_name (i := 0) (show List.Nodup (α := Str) ["_law_k", "_law_dims", "_law_script", "_law_at"] by decide) rfl (Or.inl rfl)), pif_nil, (pe_callD C__law_spot hr (pa_cons (pe_callD C__law_cell_at hr (pa_cons (pv 2) (pa_cons (pe_op op_add (pe_op op_add (pv 3) pe_int) (pv 0)) pa_nil))) (pa_cons (pv 1) pa_nil)))⟩))
      (pss_cons (ps_for PassesOwn.never rfl (pi_list (pv 3)) (pg_name (i := 5) sc_drawn.nd rfl (Or.inl rfl)) (pss_one (ps_expr (pe_bm PySem.F.plainAttrs_list PySem.F.slot_list_append PySem.F.type_list_append mt_append (pv 4) (pa_cons (pe_callTy call_tuple_of (by rfl) B.tuple bt_tuple (pa_cons (pe_lc (N := ["_law_number"]) (ix := [none]) rfl (pi_tup (pe_slice sl_tup (pv 5) po_none (po_some (pv 2)))) (lcok (fun _ h => cell_has h) (by rfl)) (keeps_name rfl) (fun _ _ _ _ _ => ⟨(pg_name (i := 0) (show List.Nodup (α := Str) ["_law_number"] by decide) rfl (Or.inl rfl)), pif_nil, (pe_tup (pa_cons (pv 0) (pa_cons pe_int pa_nil)))⟩)) pa_nil)) pa_nil)))))
      (pss_one (ps_ret (pe_tup (pa_cons (pv 2) (pa_cons (pv 3) (pa_cons (pv 4) pa_nil)))))))))), ?_⟩
    have hsz : (1000 : Nat) ≤ sizeLine := by decide
    refine ⟨_, rfl, _, rfl, a, ns, at_, rfl, hS, hb, fun z bz => ⟨_, _, _, rfl, bz, by decide, by decide, by decide, by decide, fun r r0 r1 => ⟨1, r, rfl, rfl, ?_⟩⟩⟩
    obtain ⟨d, eD, d1, d3⟩ : ∃ d : Nat, (1 : Int) + r = (d : Int) ∧ 1 ≤ d ∧ d ≤ 3 := ⟨(1 + r).toNat, by omega, by omega, by omega⟩
    show gName 2 (V.int ((1 : Int) + r)) _ _ _
    rw [eD]
    refine ⟨_, rfl, _, rfl, _, _, rfl, rfl, _, rfl, _, rfl, _, rfl, a, ns, at_, rfl, hS, hb, fun z2 bz2 => ⟨_, _, _, rfl, bz2, by decide, by decide, by decide, by decide, fun m m0 m1 => ?_⟩⟩
    refine ⟨a, ns, at_ + 1, d, m.toNat, v4 (by omega) (by omega), hS, hb, d1, d3, by omega, fun l us cs H1 s1 hl0 hl hp hset => ?_⟩
    have hn := hp.length
    have h7 := hset.few
    refine ⟨_, rfl, by decide, by decide, ?_⟩
    refine lc_by (n := 3) (fun i ys H' => Same H1 H' ∧ ys.length = i ∧ ∃ sps, Spots d H' ys sps) ⟨Same.refl _, rfl, [], .nil, fun sp h => absurd h (List.not_mem_nil)⟩ (fun i ys H' hi _ => hi) (fun ys H' _ => Nat.le_refl _) (fun i ys H' hi p => by have := p.2.1; omega) (fun i ys H' x H2 hi p yl R hR => ?_) (fun ys H' p q hq => ?_)
    · obtain ⟨sm, e, sps, hs⟩ := p
      obtain ⟨rfl, rfl⟩ := yl
      refine ⟨_, rfl, _, rfl, _, _, rfl, rfl, _, rfl, _, _, rfl, rfl, a, ns, at_ + 8 + i, v2 (by omega), (s1.trans sm).seq hS, hb, fun z3 bz3 => ⟨_, rfl, z3, d, rfl, bz3, d1, d3, fun p sp H3 s3 hsp sl sg sb => hR _ _ ⟨sm.trans s3, by rw [List.length_append, e]; rfl, _, (hs.same s3).more hsp sl sg sb⟩⟩⟩
    · obtain ⟨sm, e, sps, hs⟩ := p
      have hq1 : H1 q = none := sm.free hq
      have sq := same_updN (o := .lst ys) hq
      refine ⟨_, rfl, l, rfl, ⟨us, SqL.of ((sm.trans sq) _ _ hl)⟩, ?_⟩
      refine for_list (xs := us) (fun i σ H' => Same H1 H' ∧ ∃ ps sps v5, σ = [some (.ref a), some (.int at_), some (.int d), some (.ref l), some (.ref q), v5] ∧ H' q = some (.lst ps) ∧ ps.length = 3 + i ∧ Spots d H' ps sps) ⟨sm.trans sq, ys, sps, _, rfl, upd_same, by omega, hs.same sq⟩ (fun i σ H' _ p => SqL.of (p.1 _ _ hl)) ?_ ?_
      · rintro i x σ H' ex ⟨sm, ps, sps, v5, rfl, hq', pl, hs⟩
        obtain ⟨c, ec, b, rfl, hbt⟩ := pairedGet hp ex
        have gc := hset.good c (List.mem_of_getElem? ec)
        have hcl : (c.map V.int).length = d + 1 := by rw [List.length_map, gc.1]
        have hi : i < us.length := (List.getElem?_eq_some_iff.mp ex).1
        refine ⟨_, rfl, .inl ⟨rfl, _, SqL.of hq'⟩, _, rfl, _, rfl, _, rfl, b, _, rfl, SqT.of (sm _ _ hbt), whole_take (by rw [hcl]; omega), fun p2 h2 => ?_⟩
        have ecut : cutV (c.map V.int) none (some (d : Int)) = (c.take d).map V.int := by rw [cut_take (by rw [hcl]; omega), List.map_take]
        rw [ecut]
        have s2 := same_updN (o := .tup ((c.take d).map V.int)) h2
        have htl : (c.take d).length = d := by rw [List.length_take, gc.1]; omega
        refine ⟨p2, rfl, ⟨_, SqT.of upd_same⟩, ?_⟩
        have hp2 : upd H' p2 (.tup ((c.take d).map V.int)) p2 = some (.tup ((c.take d).map V.int)) := upd_same
        generalize upd H' p2 (.tup ((c.take d).map V.int)) = H2 at *
        refine lc_by (n := ((c.take d).map V.int).length) (fun j zs H3 => Same H2 H3 ∧ zs.length = j ∧ Paired (IsFr H3) zs (((c.take d).take j).map fun n => (n, (1 : Int)))) ⟨Same.refl _, rfl, .nil⟩ (fun j zs H3 hj p3 => ⟨_, _, SqT.of (p3.1 _ _ hp2), List.getElem?_eq_getElem hj⟩) (fun zs H3 p3 => ⟨_, SqT.of (p3.1 _ _ hp2), Nat.le_refl _⟩) (fun j zs H3 hj p3 => by have := p3.2.1; rw [List.length_map] at hj; omega) (fun j zs H3 x H4 hj p3 yl R hR => ?_) (fun zs H3 p3 D hD => ?_)
        · obtain ⟨s3, zl, hz⟩ := p3
          obtain ⟨rfl, hx⟩ := yl
          obtain ⟨hj2, rfl⟩ := intAt (hx _ (SqT.of (s3 _ _ hp2)))
          refine ⟨_, rfl, (by show 2 ≤ sizeLine; decide), fun p4 h4 => hR _ _ ⟨s3.trans (same_updN h4), by rw [List.length_append, zl]; rfl, ?_⟩⟩
          have et : (c.take d).take (j + 1) = (c.take d).take j ++ [(c.take d).getD j 0] := by
            rw [List.take_add_one, List.getD_eq_getElem?_getD, List.getElem?_eq_getElem hj2]; rfl
          rw [et, List.map_append]
          exact paired_append (frs_same hz (same_updN h4)) (.cons ⟨p4, rfl, upd_same⟩ .nil)
        · obtain ⟨s3, zl, hz⟩ := p3
          rw [List.length_map, List.take_length] at hz
          refine ⟨D, _, rfl, .inl ⟨SqL.of upd_same, fun t ht => ?_⟩⟩
          have s4 := (same_updN (o := .lst zs) hD).trans (same_updN (o := .tup zs) ht)
          have sB := s2.trans (s3.trans s4)
          have hsp : IsSpot (upd (upd H3 D (.lst zs)) t (.tup zs)) (.ref t) ((c.take d).map fun n => (n, (1 : Int))) := ⟨t, zs, rfl, upd_same, frs_same hz s4⟩
          generalize upd (upd H3 D (.lst zs)) t (.tup zs) = H5 at *
          refine ⟨q, ps, _, rfl, rfl, sB _ _ hq', by omega, ?_⟩
          refine ⟨same_over (sm.trans sB) hq1, ps ++ [.ref t], _, _, rfl, upd_same, by rw [List.length_append, pl]; rfl, spots_over (sB _ _ hq') ((hs.same sB).more hsp (by rw [List.length_map, htl]) (fun f hf => ?_) (fun f hf => ?_))⟩
          · obtain ⟨n, _, rfl⟩ := List.mem_map.mp hf
            exact ⟨(by decide : (0 : Int) < 1), G_one n⟩
          · obtain ⟨n, hn, rfl⟩ := List.mem_map.mp hf
            exact ⟨gc.2.2 n (List.mem_of_mem_take hn), (by decide +kernel : intBits (1 : Int) ≤ 300)⟩
      · rintro σ H' ⟨sm, ps, sps, v5, rfl, hq', pl, hs⟩
        exact ⟨_, rfl, _, rfl, _, rfl, (by show 3 ≤ sizeLine; decide), fun p hp3 => k d l us cs q ps sps p _ (s1.trans (sm.trans (same_updN hp3))) d1 d3 ((sm.trans (same_updN hp3)) _ _ hl) (cuts_same hp (sm.trans (same_updN hp3))) hset (same_updN hp3 _ _ hq') (hs.same (same_updN hp3)) upd_same⟩
end
end K4

namespace K4
open PySem L2
open PySem.Builtin.Int (intBits)
def spLaw (K : PySem.W.Frag) : Sp := fun vs H Q _ => ∃ (a : Addr) (ns : List Int), vs = [.ref a] ∧ SqL K H a (ns.map V.int) ∧ ns.length ≤ 63 ∧ (∀ z ∈ ns, intBits z ≤ 2 ^ 20) ∧ ∀ H', Q (.bl true) H'
section
variable {P : Program} {w : World} {K : PySem.W.Frag} {mg : Str → Option Value} {base : Heap} {tD tC : Tok} {aC : Addr}
theorem sc_law : FnScope ["_law_script", "_law_dims", "_law_cuts_here", "_law_places", "_law_wide", "_law_others", "_law_spots", "_law_handed", "_law_cutting", "_law_other"] ["_law_script"] (defScope (top 38)) := ⟨rfl, rfl, rfl, by decide +kernel, rfl, by decide +kernel, by decide +kernel⟩
theorem ok_law {f : Addr} {fd : FuncData} (D : Fun K "law" "law" (top 38) f fd) (B : Bs mg) (C__law_drawn : CallOk P w K mg base "_law_drawn" 8 (spDrawn K)) (C__law_told : CallOk P w K mg base "_law_told" 8 (spTold aC)) (C__law_fewer : CallOk P w K mg base "_law_fewer" 8 (spFewer aC)) (C_Cutting : MkOk P w K mg base "Cutting" aC 7 (spInit aC)) :
    FnOk P w K mg base CX0 9 f fd ["_law_script"] (spLaw K) := by
  refine D.ok sc_law (fun vs H Q E h => ?_) (fun cdv A outer s H vs Q E hr h => ?_)
  · obtain ⟨a, ns, rfl, _⟩ := h
    rfl
  · obtain ⟨a, ns, rfl, hS, hlen, hb, k⟩ := h
    have hsz : (1000 : Nat) ≤ sizeLine := by decide
    refine ⟨_, (pss_cons (ps_asg (pe_callD C__law_drawn hr (pa_cons (pv 0) (pa_cons pe_int pa_nil))) (pg_tup rfl (pgs_cons (pg_name (i := 1) sc_law.nd rfl (Or.inl rfl)) (pgs_cons (pg_name (i := 2) sc_law.nd rfl (Or.inl rfl)) (pgs_cons (pg_name (i := 3) sc_law.nd rfl (Or.inl rfl)) pgs_nil)))))
      (pss_cons (ps_asg (pe_callD C__law_drawn hr (pa_cons (pv 0) (pa_cons pe_int pa_nil))) (pg_tup rfl (pgs_cons (pg_name (i := 4) sc_law.nd rfl (Or.inl rfl)) (pgs_cons (pg_name (i := 5) sc_law.nd rfl (Or.inl rfl)) (pgs_cons (pg_name (i := 6) sc_law.nd rfl (Or.inl rfl)) pgs_nil)))))
      (pss_cons (ps_set (i := 7) sc_law.nd rfl (Or.inl rfl) (pe_callTy call_list_of (by rfl) B.list bt_list (pa_cons (pv 2) pa_nil)))
      (pss_cons (ps_set (i := 8) sc_law.nd rfl (Or.inl rfl) (pe_mk C_Cutting hr (pa_cons (pv 1) (pa_cons (pv 7) pa_nil))))
      (pss_cons (ps_expr (pe_bm PySem.F.plainAttrs_list PySem.F.slot_list_append PySem.F.type_list_append mt_append (pv 7) (pa_cons (pe_tup (pa_cons pe_int (pa_cons pe_int pa_nil))) pa_nil)))
      (pss_cons (ps_set (i := 9) sc_law.nd rfl (Or.inl rfl) (pe_mk C_Cutting hr (pa_cons (pv 4) (pa_cons (pv 5) pa_nil))))
      (pss_cons (ps_if (pt_not (pt_val (pe_callD C__law_told hr (pa_cons (pv 8) (pa_cons (pv 1) (pa_cons (pv 2) (pa_cons (pv 3) pa_nil))))))) (pss_one (ps_ret pe_bl)) pss_nil)
      (pss_cons (ps_if (pt_not (pt_val (pe_callD C__law_told hr (pa_cons (pv 9) (pa_cons (pv 4) (pa_cons (pv 5) (pa_cons (pv 6) pa_nil))))))) (pss_one (ps_ret pe_bl)) pss_nil)
      (pss_cons (ps_if (PW.pt (pw_or (pt_not (pt_val (pe_callD C__law_fewer hr (pa_cons (pv 8) (pa_cons (pv 2) pa_nil))))) (pw_or1 (pt_not (pt_val (pe_callD C__law_fewer hr (pa_cons (pv 9) (pa_cons (pv 5) pa_nil)))))))) (pss_one (ps_ret pe_bl)) pss_nil)
      (pss_one (ps_ret (pe_callD C__law_told hr (pa_cons (pv 8) (pa_cons (pv 1) (pa_cons (pv 2) (pa_cons (pv 3) pa_nil)))))))))))))))), ?_⟩
    refine ⟨_, rfl, a, ns, 0, rfl, hS, hb, fun d l us cs q ps sps p H1 s1 d1 d3 hl hp hset hq hs hpt => ?_⟩
    refine ⟨p, _, rfl, SqT.of hpt, rfl, _, _, rfl, _, _, rfl, _, _, rfl, rfl, ?_⟩
    refine ⟨_, rfl, a, ns, 12, rfl, s1.seq hS, hb, fun d' l' us' cs' q' ps' sps' p' H2 s2 d1' d3' hl' hp' hset' hq' hs' hpt' => ?_⟩
    refine ⟨p', _, rfl, SqT.of hpt', rfl, _, _, rfl, _, _, rfl, _, _, rfl, rfl, ?_⟩
    have hn := hp.length
    have h7 := hset.few
    refine ⟨_, rfl, l, us, rfl, .inl (SqL.of (s2 _ _ hl)), fun h hh => ?_⟩
    have s3 := same_updN (o := .lst us) hh
    refine ⟨_, rfl, _, rfl, fun x dx n1 n2 ne => ⟨d, x, dx, h, us, cs, _, rfl, upd_same, same_over (same_updN n2) n1, n1, upd_same, cuts_same hp (s2.trans s3), hset, d1, d3, fun H4 s4 hC => ⟨rfl, ?_⟩⟩⟩
    have hh4 : H4 h = some (.lst us) := s4 _ _ upd_same
    refine ⟨_, rfl, .inl ⟨rfl, _, SqL.of hh4⟩, (by show 2 ≤ sizeLine; decide), fun p5 h5 => ?_⟩
    have s5 := same_updN (o := .tup [V.int 0, V.int 0]) h5
    refine ⟨h, us, _, rfl, rfl, s5 _ _ hh4, by omega, ?_⟩
    have sA : Same H2 (upd (upd H4 p5 (.tup [V.int 0, V.int 0])) h (.lst (us ++ [V.ref p5]))) := same_over (s3.trans (s4.trans s5)) hh
    have hC5 : IsCutting aC (upd (upd H4 p5 (.tup [V.int 0, V.int 0])) h (.lst (us ++ [V.ref p5]))) (.ref x) d cs := cutting_over (s5 _ _ hh4) (hC.same s5)
    generalize upd (upd H4 p5 (.tup [V.int 0, V.int 0])) h (.lst (us ++ [V.ref p5])) = H5 at *
    refine ⟨_, rfl, _, rfl, fun x2 dx2 n1 n2 ne => ⟨d', x2, dx2, l', us', cs', _, rfl, upd_same, same_over (same_updN n2) n1, n1, sA _ _ hl', cuts_same hp' sA, hset', d1', d3', fun H6 s6 hC' => ⟨rfl, ?_⟩⟩⟩
    have hC6 := hC5.same s6
    have t6 := sA.trans s6
    have u6 := s2.trans t6
    refine ⟨_, rfl, _, rfl, _, rfl, _, rfl, _, d, l, q, us, ps, cs, sps, rfl, hC6, u6 _ _ hl, cuts_same hp u6, u6 _ _ hq, hs.same u6, fun H7 s7 => ⟨true, rfl, iteF ?_⟩⟩
    have t7 := t6.trans s7
    refine ⟨_, rfl, _, rfl, _, rfl, _, rfl, _, d', l', q', us', ps', cs', sps', rfl, hC'.same s7, t7 _ _ hl', cuts_same hp' t7, t7 _ _ hq', hs'.same t7, fun H8 s8 => ⟨true, rfl, iteF ?_⟩⟩
    have s78 := s7.trans s8
    have u8 := u6.trans s78
    refine ⟨_, rfl, _, rfl, _, d, l, us, cs, rfl, hC6.same s78, u8 _ _ hl, cuts_same hp u8, fun H9 s9 => ⟨true, rfl, iteF ?_⟩⟩
    have s79 := s78.trans s9
    have t9 := t6.trans s79
    refine ⟨_, rfl, _, rfl, _, d', l', us', cs', rfl, hC'.same s79, t9 _ _ hl', cuts_same hp' t9, fun H10 s10 => ⟨true, rfl, iteF ?_⟩⟩
    have s70 := s79.trans s10
    have u10 := u6.trans s70
    exact ⟨_, rfl, _, rfl, _, rfl, _, rfl, _, d, l, q, us, ps, cs, sps, rfl, hC6.same s70, u10 _ _ hl, cuts_same hp u10, u10 _ _ hq, hs.same u10, fun H11 s11 => k _⟩
end
end K4

namespace K4
open PySem L2
theorem all_mk {l : PySem.W.OpenLaw} {w : World} {K : PySem.W.Frag} {h : Heap} {mg : Str → Option Value} {aC g0 g1 g2 g3 g4 g5 g6 fa f0 f1 f2 f3 f4 f5 f6 f7 f8 f9 f10 f11 f12 f13 f14 f15 f16 f17 f18 f19 f20 f21 f22 f23 f24 f25 f26 : Addr} (X : K.In h) (G : h.Ns mainGlobals mg) (hfa : mg "law" = some (.ref fa))
    {od0 an0 od1 an1 od2 an2 od3 an3 od4 an4 od5 an5 od6 an6 od7 an7 od8 an8 od9 an9 od10 an10 od11 an11 od12 an12 od13 an13 od14 an14 od15 an15 od16 an16 od17 an17 od18 an18 od19 an19 od20 an20 od21 an21 od22 an22 od23 an23 od24 an24 od25 an25 od26 an26 god0 gan0 god1 gan1 god2 gan2 god3 gan3 god4 gan4 god5 gan5 god6 gan6 : Option Addr} {sl0 sl1 sl2 sl3 sl4 sl5 sl6 sl7 sl8 sl9 sl10 sl11 sl12 sl13 sl14 sl15 sl16 sl17 sl18 sl19 sl20 sl21 sl22 sl23 sl24 sl25 sl26 gsl0 gsl1 gsl2 gsl3 gsl4 gsl5 gsl6 : Array (Option Value)} {oc0 kV0 dc0 pm0 cd0 ct0 oc1 kV1 dc1 pm1 cd1 ct1 oc2 kV2 dc2 pm2 cd2 ct2 oc3 kV3 dc3 pm3 cd3 ct3 oc4 kV4 dc4 pm4 cd4 ct4 oc5 kV5 dc5 pm5 cd5 ct5 oc6 kV6 dc6 pm6 cd6 ct6 oc7 kV7 dc7 pm7 cd7 ct7 oc8 kV8 dc8 pm8 cd8 ct8 oc9 kV9 dc9 pm9 cd9 ct9 oc10 kV10 dc10 pm10 cd10 ct10 oc11 kV11 dc11 pm11 cd11 ct11 oc12 kV12 dc12 pm12 cd12 ct12 oc13 kV13 dc13 pm13 cd13 ct13 oc14 kV14 dc14 pm14 cd14 ct14 oc15 kV15 dc15 pm15 cd15 ct15 oc16 kV16 dc16 pm16 cd16 ct16 oc17 kV17 dc17 pm17 cd17 ct17 oc18 kV18 dc18 pm18 cd18 ct18 oc19 kV19 dc19 pm19 cd19 ct19 oc20 kV20 dc20 pm20 cd20 ct20 oc21 kV21 dc21 pm21 cd21 ct21 oc22 kV22 dc22 pm22 cd22 ct22 oc23 kV23 dc23 pm23 cd23 ct23 oc24 kV24 dc24 pm24 cd24 ct24 oc25 kV25 dc25 pm25 cd25 ct25 oc26 kV26 dc26 pm26 cd26 ct26 goc0 gkV0 gdc0 gpm0 gcd0 gct0 goc1 gkV1 gdc1 gpm1 gcd1 gct1 goc2 gkV2 gdc2 gpm2 gcd2 gct2 goc3 gkV3 gdc3 gpm3 gcd3 gct3 goc4 gkV4 gdc4 gpm4 gcd4 gct4 goc5 gkV5 gdc5 gpm5 gcd5 gct5 goc6 gkV6 gdc6 gpm6 gcd6 gct6 : Value} {tD tC : Tok}
    (a0 : PySem.W.nsIn K mainGlobals "is_whole" = some (some (.ref f0))) (l0 : K.lookup f0 = some ⟨oc0, od0, .func (PySem.W.fnOf "is_whole" "is_whole" (defArgs (top 6)) (defBody (top 6)) (defScope (top 6)) .none kV0 dc0 pm0 an0 cd0 ct0), sl0⟩) (c0 : PySem.W.codeIn K cd0 "is_whole" = true) (k0 : PySem.W.keepIn K (.ref f0) = true)
    (a1 : PySem.W.nsIn K mainGlobals "is_number_of" = some (some (.ref f1))) (l1 : K.lookup f1 = some ⟨oc1, od1, .func (PySem.W.fnOf "is_number_of" "is_number_of" (defArgs (top 7)) (defBody (top 7)) (defScope (top 7)) .none kV1 dc1 pm1 an1 cd1 ct1), sl1⟩) (c1 : PySem.W.codeIn K cd1 "is_number_of" = true) (k1 : PySem.W.keepIn K (.ref f1) = true)
    (a2 : PySem.W.nsIn K mainGlobals "sign_of" = some (some (.ref f2))) (l2 : K.lookup f2 = some ⟨oc2, od2, .func (PySem.W.fnOf "sign_of" "sign_of" (defArgs (top 8)) (defBody (top 8)) (defScope (top 8)) .none kV2 dc2 pm2 an2 cd2 ct2), sl2⟩) (c2 : PySem.W.codeIn K cd2 "sign_of" = true) (k2 : PySem.W.keepIn K (.ref f2) = true)
    (a3 : PySem.W.nsIn K mainGlobals "common_divisor" = some (some (.ref f3))) (l3 : K.lookup f3 = some ⟨oc3, od3, .func (PySem.W.fnOf "common_divisor" "common_divisor" (defArgs (top 9)) (defBody (top 9)) (defScope (top 9)) .none kV3 dc3 pm3 an3 cd3 ct3), sl3⟩) (c3 : PySem.W.codeIn K cd3 "common_divisor" = true) (k3 : PySem.W.keepIn K (.ref f3) = true)
    (a4 : PySem.W.nsIn K mainGlobals "is_fraction" = some (some (.ref f4))) (l4 : K.lookup f4 = some ⟨oc4, od4, .func (PySem.W.fnOf "is_fraction" "is_fraction" (defArgs (top 11)) (defBody (top 11)) (defScope (top 11)) .none kV4 dc4 pm4 an4 cd4 ct4), sl4⟩) (c4 : PySem.W.codeIn K cd4 "is_fraction" = true) (k4 : PySem.W.keepIn K (.ref f4) = true)
    (a5 : PySem.W.nsIn K mainGlobals "is_dims" = some (some (.ref f5))) (l5 : K.lookup f5 = some ⟨oc5, od5, .func (PySem.W.fnOf "is_dims" "is_dims" (defArgs (top 15)) (defBody (top 15)) (defScope (top 15)) .none kV5 dc5 pm5 an5 cd5 ct5), sl5⟩) (c5 : PySem.W.codeIn K cd5 "is_dims" = true) (k5 : PySem.W.keepIn K (.ref f5) = true)
    (a6 : PySem.W.nsIn K mainGlobals "is_spot" = some (some (.ref f6))) (l6 : K.lookup f6 = some ⟨oc6, od6, .func (PySem.W.fnOf "is_spot" "is_spot" (defArgs (top 16)) (defBody (top 16)) (defScope (top 16)) .none kV6 dc6 pm6 an6 cd6 ct6), sl6⟩) (c6 : PySem.W.codeIn K cd6 "is_spot" = true) (k6 : PySem.W.keepIn K (.ref f6) = true)
    (a7 : PySem.W.nsIn K mainGlobals "is_cut" = some (some (.ref f7))) (l7 : K.lookup f7 = some ⟨oc7, od7, .func (PySem.W.fnOf "is_cut" "is_cut" (defArgs (top 17)) (defBody (top 17)) (defScope (top 17)) .none kV7 dc7 pm7 an7 cd7 ct7), sl7⟩) (c7 : PySem.W.codeIn K cd7 "is_cut" = true) (k7 : PySem.W.keepIn K (.ref f7) = true)
    (a8 : PySem.W.nsIn K mainGlobals "first_place" = some (some (.ref f8))) (l8 : K.lookup f8 = some ⟨oc8, od8, .func (PySem.W.fnOf "first_place" "first_place" (defArgs (top 18)) (defBody (top 18)) (defScope (top 18)) .none kV8 dc8 pm8 an8 cd8 ct8), sl8⟩) (c8 : PySem.W.codeIn K cd8 "first_place" = true) (k8 : PySem.W.keepIn K (.ref f8) = true)
    (a9 : PySem.W.nsIn K mainGlobals "same_spots" = some (some (.ref f9))) (l9 : K.lookup f9 = some ⟨oc9, od9, .func (PySem.W.fnOf "same_spots" "same_spots" (defArgs (top 19)) (defBody (top 19)) (defScope (top 19)) .none kV9 dc9 pm9 an9 cd9 ct9), sl9⟩) (c9 : PySem.W.codeIn K cd9 "same_spots" = true) (k9 : PySem.W.keepIn K (.ref f9) = true)
    (a10 : PySem.W.nsIn K mainGlobals "side_of" = some (some (.ref f10))) (l10 : K.lookup f10 = some ⟨oc10, od10, .func (PySem.W.fnOf "side_of" "side_of" (defArgs (top 20)) (defBody (top 20)) (defScope (top 20)) .none kV10 dc10 pm10 an10 cd10 ct10), sl10⟩) (c10 : PySem.W.codeIn K cd10 "side_of" = true) (k10 : PySem.W.keepIn K (.ref f10) = true)
    (a11 : PySem.W.nsIn K mainGlobals "can_stand" = some (some (.ref f11))) (l11 : K.lookup f11 = some ⟨oc11, od11, .func (PySem.W.fnOf "can_stand" "can_stand" (defArgs (top 21)) (defBody (top 21)) (defScope (top 21)) .none kV11 dc11 pm11 an11 cd11 ct11), sl11⟩) (c11 : PySem.W.codeIn K cd11 "can_stand" = true) (k11 : PySem.W.keepIn K (.ref f11) = true)
    (a12 : PySem.W.nsIn K mainGlobals "checked_cuts" = some (some (.ref f12))) (l12 : K.lookup f12 = some ⟨oc12, od12, .func (PySem.W.fnOf "checked_cuts" "checked_cuts" (defArgs (top 22)) (defBody (top 22)) (defScope (top 22)) .none kV12 dc12 pm12 an12 cd12 ct12), sl12⟩) (c12 : PySem.W.codeIn K cd12 "checked_cuts" = true) (k12 : PySem.W.keepIn K (.ref f12) = true)
    (a13 : PySem.W.nsIn K mainGlobals "_law_cell_at" = some (some (.ref f13))) (l13 : K.lookup f13 = some ⟨oc13, od13, .func (PySem.W.fnOf "_law_cell_at" "_law_cell_at" (defArgs (top 25)) (defBody (top 25)) (defScope (top 25)) .none kV13 dc13 pm13 an13 cd13 ct13), sl13⟩) (c13 : PySem.W.codeIn K cd13 "_law_cell_at" = true) (k13 : PySem.W.keepIn K (.ref f13) = true)
    (a14 : PySem.W.nsIn K mainGlobals "_law_draw" = some (some (.ref f14))) (l14 : K.lookup f14 = some ⟨oc14, od14, .func (PySem.W.fnOf "_law_draw" "_law_draw" (defArgs (top 26)) (defBody (top 26)) (defScope (top 26)) .none kV14 dc14 pm14 an14 cd14 ct14), sl14⟩) (c14 : PySem.W.codeIn K cd14 "_law_draw" = true) (k14 : PySem.W.keepIn K (.ref f14) = true)
    (a15 : PySem.W.nsIn K mainGlobals "_law_whole" = some (some (.ref f15))) (l15 : K.lookup f15 = some ⟨oc15, od15, .func (PySem.W.fnOf "_law_whole" "_law_whole" (defArgs (top 27)) (defBody (top 27)) (defScope (top 27)) .none kV15 dc15 pm15 an15 cd15 ct15), sl15⟩) (c15 : PySem.W.codeIn K cd15 "_law_whole" = true) (k15 : PySem.W.keepIn K (.ref f15) = true)
    (a16 : PySem.W.nsIn K mainGlobals "_law_common" = some (some (.ref f16))) (l16 : K.lookup f16 = some ⟨oc16, od16, .func (PySem.W.fnOf "_law_common" "_law_common" (defArgs (top 28)) (defBody (top 28)) (defScope (top 28)) .none kV16 dc16 pm16 an16 cd16 ct16), sl16⟩) (c16 : PySem.W.codeIn K cd16 "_law_common" = true) (k16 : PySem.W.keepIn K (.ref f16) = true)
    (a17 : PySem.W.nsIn K mainGlobals "_law_lowest" = some (some (.ref f17))) (l17 : K.lookup f17 = some ⟨oc17, od17, .func (PySem.W.fnOf "_law_lowest" "_law_lowest" (defArgs (top 29)) (defBody (top 29)) (defScope (top 29)) .none kV17 dc17 pm17 an17 cd17 ct17), sl17⟩) (c17 : PySem.W.codeIn K cd17 "_law_lowest" = true) (k17 : PySem.W.keepIn K (.ref f17) = true)
    (a18 : PySem.W.nsIn K mainGlobals "_law_same" = some (some (.ref f18))) (l18 : K.lookup f18 = some ⟨oc18, od18, .func (PySem.W.fnOf "_law_same" "_law_same" (defArgs (top 30)) (defBody (top 30)) (defScope (top 30)) .none kV18 dc18 pm18 an18 cd18 ct18), sl18⟩) (c18 : PySem.W.codeIn K cd18 "_law_same" = true) (k18 : PySem.W.keepIn K (.ref f18) = true)
    (a19 : PySem.W.nsIn K mainGlobals "_law_cut" = some (some (.ref f19))) (l19 : K.lookup f19 = some ⟨oc19, od19, .func (PySem.W.fnOf "_law_cut" "_law_cut" (defArgs (top 31)) (defBody (top 31)) (defScope (top 31)) .none kV19 dc19 pm19 an19 cd19 ct19), sl19⟩) (c19 : PySem.W.codeIn K cd19 "_law_cut" = true) (k19 : PySem.W.keepIn K (.ref f19) = true)
    (a20 : PySem.W.nsIn K mainGlobals "_law_cuts" = some (some (.ref f20))) (l20 : K.lookup f20 = some ⟨oc20, od20, .func (PySem.W.fnOf "_law_cuts" "_law_cuts" (defArgs (top 32)) (defBody (top 32)) (defScope (top 32)) .none kV20 dc20 pm20 an20 cd20 ct20), sl20⟩) (c20 : PySem.W.codeIn K cd20 "_law_cuts" = true) (k20 : PySem.W.keepIn K (.ref f20) = true)
    (a21 : PySem.W.nsIn K mainGlobals "_law_side" = some (some (.ref f21))) (l21 : K.lookup f21 = some ⟨oc21, od21, .func (PySem.W.fnOf "_law_side" "_law_side" (defArgs (top 33)) (defBody (top 33)) (defScope (top 33)) .none kV21 dc21 pm21 an21 cd21 ct21), sl21⟩) (c21 : PySem.W.codeIn K cd21 "_law_side" = true) (k21 : PySem.W.keepIn K (.ref f21) = true)
    (a22 : PySem.W.nsIn K mainGlobals "_law_spot" = some (some (.ref f22))) (l22 : K.lookup f22 = some ⟨oc22, od22, .func (PySem.W.fnOf "_law_spot" "_law_spot" (defArgs (top 34)) (defBody (top 34)) (defScope (top 34)) .none kV22 dc22 pm22 an22 cd22 ct22), sl22⟩) (c22 : PySem.W.codeIn K cd22 "_law_spot" = true) (k22 : PySem.W.keepIn K (.ref f22) = true)
    (a23 : PySem.W.nsIn K mainGlobals "_law_told" = some (some (.ref f23))) (l23 : K.lookup f23 = some ⟨oc23, od23, .func (PySem.W.fnOf "_law_told" "_law_told" (defArgs (top 35)) (defBody (top 35)) (defScope (top 35)) .none kV23 dc23 pm23 an23 cd23 ct23), sl23⟩) (c23 : PySem.W.codeIn K cd23 "_law_told" = true) (k23 : PySem.W.keepIn K (.ref f23) = true)
    (a24 : PySem.W.nsIn K mainGlobals "_law_fewer" = some (some (.ref f24))) (l24 : K.lookup f24 = some ⟨oc24, od24, .func (PySem.W.fnOf "_law_fewer" "_law_fewer" (defArgs (top 36)) (defBody (top 36)) (defScope (top 36)) .none kV24 dc24 pm24 an24 cd24 ct24), sl24⟩) (c24 : PySem.W.codeIn K cd24 "_law_fewer" = true) (k24 : PySem.W.keepIn K (.ref f24) = true)
    (a25 : PySem.W.nsIn K mainGlobals "_law_drawn" = some (some (.ref f25))) (l25 : K.lookup f25 = some ⟨oc25, od25, .func (PySem.W.fnOf "_law_drawn" "_law_drawn" (defArgs (top 37)) (defBody (top 37)) (defScope (top 37)) .none kV25 dc25 pm25 an25 cd25 ct25), sl25⟩) (c25 : PySem.W.codeIn K cd25 "_law_drawn" = true) (k25 : PySem.W.keepIn K (.ref f25) = true)
    (a26 : PySem.W.nsIn K mainGlobals "law" = some (some (.ref f26))) (l26 : K.lookup f26 = some ⟨oc26, od26, .func (PySem.W.fnOf "law" "law" (defArgs (top 38)) (defBody (top 38)) (defScope (top 38)) .none kV26 dc26 pm26 an26 cd26 ct26), sl26⟩) (c26 : PySem.W.codeIn K cd26 "law" = true) (k26 : PySem.W.keepIn K (.ref f26) = true)
    (z0 : PySem.W.nsIn K mainGlobals "abs" = some none)
    (z1 : PySem.W.nsIn K mainGlobals "isinstance" = some none)
    (z2 : PySem.W.nsIn K mainGlobals "int" = some none)
    (z3 : PySem.W.nsIn K mainGlobals "bool" = some none)
    (z4 : PySem.W.nsIn K mainGlobals "len" = some none)
    (z5 : PySem.W.nsIn K mainGlobals "range" = some none)
    (z6 : PySem.W.nsIn K mainGlobals "tuple" = some none)
    (z7 : PySem.W.nsIn K mainGlobals "list" = some none)
    (z8 : PySem.W.nsIn K mainGlobals "all" = some none)
    (z9 : PySem.W.nsIn K mainGlobals "any" = some none)
    (z10 : PySem.W.nsIn K mainGlobals "sum" = some none)
    (z11 : PySem.W.nsIn K mainGlobals "zip" = some none)
    (eC : PySem.W.nsIn K mainGlobals "Cutting" = some (some (.ref aC)))
    (eD : PySem.W.nsIn K mainGlobals "MOST_DIMS" = some (some (.int 3 tD)))
    (eE : PySem.W.nsIn K mainGlobals "MOST_CUTS" = some (some (.int 7 tC)))
    (pg : PySem.W.plainGet K aC Str.empty = true)
    (hd : PySem.W.hasDictIn K aC = true)
    (po : PySem.W.plainOver K aC = true)
    (sa : PySem.W.findIn K (.ref aC) "__setattr__" = some (some (.builtin "object.__setattr__")))
    (n1 : PySem.W.findIn K (.ref aC) "own_cuts" = some none)
    (n2 : PySem.W.findIn K (.ref aC) "own_dims" = some none)
    (mk : PySem.W.makesIn K aC = true)
    (kp : PySem.W.keepIn K (.ref aC) = true)
    (gf0 : PySem.W.findIn K (.ref aC) "__init__" = some (some (.ref g0)))
    (gi0 : PySem.W.isFn K (.ref g0) = true)
    (gl0 : K.lookup g0 = some ⟨goc0, god0, .func (PySem.W.fnOf "__init__" "Cutting.__init__" (defArgs (inClass (top 23) 0)) (defBody (inClass (top 23) 0)) (defScope (inClass (top 23) 0)) .none gkV0 gdc0 gpm0 gan0 gcd0 gct0), gsl0⟩)
    (gc0 : PySem.W.codeIn K gcd0 "Cutting.__init__" = true)
    (gk0 : PySem.W.keepIn K (.ref g0) = true)
    (gf1 : PySem.W.findIn K (.ref aC) "dims" = some (some (.ref g1)))
    (gi1 : PySem.W.isFn K (.ref g1) = true)
    (gl1 : K.lookup g1 = some ⟨goc1, god1, .func (PySem.W.fnOf "dims" "Cutting.dims" (defArgs (inClass (top 23) 1)) (defBody (inClass (top 23) 1)) (defScope (inClass (top 23) 1)) .none gkV1 gdc1 gpm1 gan1 gcd1 gct1), gsl1⟩)
    (gc1 : PySem.W.codeIn K gcd1 "Cutting.dims" = true)
    (gk1 : PySem.W.keepIn K (.ref g1) = true)
    (gf2 : PySem.W.findIn K (.ref aC) "cuts" = some (some (.ref g2)))
    (gi2 : PySem.W.isFn K (.ref g2) = true)
    (gl2 : K.lookup g2 = some ⟨goc2, god2, .func (PySem.W.fnOf "cuts" "Cutting.cuts" (defArgs (inClass (top 23) 2)) (defBody (inClass (top 23) 2)) (defScope (inClass (top 23) 2)) .none gkV2 gdc2 gpm2 gan2 gcd2 gct2), gsl2⟩)
    (gc2 : PySem.W.codeIn K gcd2 "Cutting.cuts" = true)
    (gk2 : PySem.W.keepIn K (.ref g2) = true)
    (gf3 : PySem.W.findIn K (.ref aC) "many" = some (some (.ref g3)))
    (gi3 : PySem.W.isFn K (.ref g3) = true)
    (gl3 : K.lookup g3 = some ⟨goc3, god3, .func (PySem.W.fnOf "many" "Cutting.many" (defArgs (inClass (top 23) 3)) (defBody (inClass (top 23) 3)) (defScope (inClass (top 23) 3)) .none gkV3 gdc3 gpm3 gan3 gcd3 gct3), gsl3⟩)
    (gc3 : PySem.W.codeIn K gcd3 "Cutting.many" = true)
    (gk3 : PySem.W.keepIn K (.ref g3) = true)
    (gf4 : PySem.W.findIn K (.ref aC) "sides" = some (some (.ref g4)))
    (gi4 : PySem.W.isFn K (.ref g4) = true)
    (gl4 : K.lookup g4 = some ⟨goc4, god4, .func (PySem.W.fnOf "sides" "Cutting.sides" (defArgs (inClass (top 23) 4)) (defBody (inClass (top 23) 4)) (defScope (inClass (top 23) 4)) .none gkV4 gdc4 gpm4 gan4 gcd4 gct4), gsl4⟩)
    (gc4 : PySem.W.codeIn K gcd4 "Cutting.sides" = true)
    (gk4 : PySem.W.keepIn K (.ref g4) = true)
    (gf5 : PySem.W.findIn K (.ref aC) "without" = some (some (.ref g5)))
    (gi5 : PySem.W.isFn K (.ref g5) = true)
    (gl5 : K.lookup g5 = some ⟨goc5, god5, .func (PySem.W.fnOf "without" "Cutting.without" (defArgs (inClass (top 23) 5)) (defBody (inClass (top 23) 5)) (defScope (inClass (top 23) 5)) .none gkV5 gdc5 gpm5 gan5 gcd5 gct5), gsl5⟩)
    (gc5 : PySem.W.codeIn K gcd5 "Cutting.without" = true)
    (gk5 : PySem.W.keepIn K (.ref g5) = true)
    (gf6 : PySem.W.findIn K (.ref aC) "with_one" = some (some (.ref g6)))
    (gi6 : PySem.W.isFn K (.ref g6) = true)
    (gl6 : K.lookup g6 = some ⟨goc6, god6, .func (PySem.W.fnOf "with_one" "Cutting.with_one" (defArgs (inClass (top 23) 6)) (defBody (inClass (top 23) 6)) (defScope (inClass (top 23) 6)) .none gkV6 gdc6 gpm6 gan6 gcd6 gct6), gsl6⟩)
    (gc6 : PySem.W.codeIn K gcd6 "Cutting.with_one" = true)
    (gk6 : PySem.W.keepIn K (.ref g6) = true) :
    ∃ fd : FuncData, (∀ (s : Shared) (v : Value), BindsTo s fd ⟨[v], []⟩ [("_law_script", v)]) ∧ ∀ base : Heap, K.In base → base.Ns mainGlobals mg → FnOk l.prog w K mg base CX0 9 fa fd ["_law_script"] (spLaw K) := by
  have e := hfa.symm.trans (PySem.W.mg_of X G a26)
  cases e
  have ER := (show Er mg tD tC from ⟨PySem.W.mg_of X G eD, PySem.W.mg_of X G eE⟩)
  have B : Bs mg := ⟨PySem.W.mg_none_of X G z0, PySem.W.mg_none_of X G z1, PySem.W.mg_none_of X G z2, PySem.W.mg_none_of X G z3, PySem.W.mg_none_of X G z4, PySem.W.mg_none_of X G z5, PySem.W.mg_none_of X G z6, PySem.W.mg_none_of X G z7, PySem.W.mg_none_of X G z8, PySem.W.mg_none_of X G z9, PySem.W.mg_none_of X G z10, PySem.W.mg_none_of X G z11⟩
  have D0 : DefAt K mg "is_whole" (top 6) := def_mk X G a0 l0 c0 k0
  have D1 : DefAt K mg "is_number_of" (top 7) := def_mk X G a1 l1 c1 k1
  have D2 : DefAt K mg "sign_of" (top 8) := def_mk X G a2 l2 c2 k2
  have D3 : DefAt K mg "common_divisor" (top 9) := def_mk X G a3 l3 c3 k3
  have D4 : DefAt K mg "is_fraction" (top 11) := def_mk X G a4 l4 c4 k4
  have D5 : DefAt K mg "is_dims" (top 15) := def_mk X G a5 l5 c5 k5
  have D6 : DefAt K mg "is_spot" (top 16) := def_mk X G a6 l6 c6 k6
  have D7 : DefAt K mg "is_cut" (top 17) := def_mk X G a7 l7 c7 k7
  have D8 : DefAt K mg "first_place" (top 18) := def_mk X G a8 l8 c8 k8
  have D9 : DefAt K mg "same_spots" (top 19) := def_mk X G a9 l9 c9 k9
  have D10 : DefAt K mg "side_of" (top 20) := def_mk X G a10 l10 c10 k10
  have D11 : DefAt K mg "can_stand" (top 21) := def_mk X G a11 l11 c11 k11
  have D12 : DefAt K mg "checked_cuts" (top 22) := def_mk X G a12 l12 c12 k12
  have D13 : DefAt K mg "_law_cell_at" (top 25) := def_mk X G a13 l13 c13 k13
  have D14 : DefAt K mg "_law_draw" (top 26) := def_mk X G a14 l14 c14 k14
  have D15 : DefAt K mg "_law_whole" (top 27) := def_mk X G a15 l15 c15 k15
  have D16 : DefAt K mg "_law_common" (top 28) := def_mk X G a16 l16 c16 k16
  have D17 : DefAt K mg "_law_lowest" (top 29) := def_mk X G a17 l17 c17 k17
  have D18 : DefAt K mg "_law_same" (top 30) := def_mk X G a18 l18 c18 k18
  have D19 : DefAt K mg "_law_cut" (top 31) := def_mk X G a19 l19 c19 k19
  have D20 : DefAt K mg "_law_cuts" (top 32) := def_mk X G a20 l20 c20 k20
  have D21 : DefAt K mg "_law_side" (top 33) := def_mk X G a21 l21 c21 k21
  have D22 : DefAt K mg "_law_spot" (top 34) := def_mk X G a22 l22 c22 k22
  have D23 : DefAt K mg "_law_told" (top 35) := def_mk X G a23 l23 c23 k23
  have D24 : DefAt K mg "_law_fewer" (top 36) := def_mk X G a24 l24 c24 k24
  have D25 : DefAt K mg "_law_drawn" (top 37) := def_mk X G a25 l25 c25 k25
  have FL := fun_mk (st := top 38) l26 c26 k26
  exact ⟨_, fun s v => .of_eq rfl, fun base _ _ => by
    have CF : CuF K aC := ⟨⟨pg, hd, po, sa⟩, n1, n2⟩
    have hWh := ok_whole (P := l.prog) (w := w) (base := base) D0 B
    have hNu := ok_num D1 hWh
    have hSi := ok_sign (P := l.prog) (w := w) (base := base) D2
    have hCd := ok_cd (P := l.prog) (w := w) (base := base) D3 B
    have hFr := ok_frac D4 B hWh hCd
    have hDi := ok_dims D5 ER hWh
    have hSp := ok_spot D6 B hFr
    have hCu := ok_cut D7 B hWh
    have hFi := ok_first (P := l.prog) (w := w) (base := base) D8
    have hSa := ok_same D9 B hFi
    have hSo := ok_side D10 B hSi
    have hSt := ok_stand D11 B ER hCu hSa
    have hCh := ok_checked D12 B (hDi.mono (by decide)) hSt
    have hMk := ok_minit CF ⟨_, _, fun_mk (st := inClass (top 23) 0) gl0 gc0 gk0, gf0, gi0, gk0⟩ mk kp (PySem.W.mg_of X G eC) hCh
    have hMd := ok_mdims (P := l.prog) (w := w) (base := base) (mg := mg) CF ⟨_, _, fun_mk (st := inClass (top 23) 1) gl1 gc1 gk1, gf1, gi1, gk1⟩
    have hMc := ok_mcuts (P := l.prog) (w := w) (base := base) CF ⟨_, _, fun_mk (st := inClass (top 23) 2) gl2 gc2 gk2, gf2, gi2, gk2⟩ B
    have hMm := ok_mmany (P := l.prog) (w := w) (base := base) CF ⟨_, _, fun_mk (st := inClass (top 23) 3) gl3 gc3 gk3, gf3, gi3, gk3⟩ B
    have hMs := ok_msides CF ⟨_, _, fun_mk (st := inClass (top 23) 4) gl4 gc4 gk4, gf4, gi4, gk4⟩ B hSp (hSo.mono (by decide))
    have hMo := ok_mwithout CF ⟨_, _, fun_mk (st := inClass (top 23) 5) gl5 gc5 gk5, gf5, gi5, gk5⟩ B (hNu.mono (by decide)) hMk
    have hMw := ok_mwith CF ⟨_, _, fun_mk (st := inClass (top 23) 6) gl6 gc6 gk6, gf6, gi6, gk6⟩ B hMk
    have lCe := ok_cell (P := l.prog) (w := w) (base := base) D13 B
    have lDr := ok_draw (P := l.prog) (w := w) (base := base) D14 B
    have lWh := ok_lwhole (P := l.prog) (w := w) (base := base) D15 B
    have lCo := ok_lcommon (P := l.prog) (w := w) (base := base) D16 B
    have lLo := ok_llowest D17 lCo
    have lSa := ok_lsame (P := l.prog) (w := w) (base := base) D18 B
    have lCu := ok_lcut D19 B (lDr.mono (by decide))
    have lCs := ok_lcuts D20 B (lCe.mono (by decide)) lCu (lSa.mono (by decide))
    have lSi := ok_lside (P := l.prog) (w := w) (base := base) D21 B
    have lSp := ok_lspot D22 B (lDr.mono (by decide)) lLo
    have lTo := ok_told D23 B (lWh.mono (by decide)) (lSi.mono (by decide)) (hMs.mono (by decide)) (hMm.mono (by decide)) (hMc.mono (by decide)) (hMd.mono (by decide))
    have lFe := ok_fewer D24 B hMo hMw (hMc.mono (by decide)) (hMd.mono (by decide))
    have lDw := ok_drawn D25 B (lCe.mono (by decide)) (lDr.mono (by decide)) lCs (lSp.mono (by decide))
    exact ok_law FL B (lDw.mono (by decide)) lTo lFe (hMk.mono (by decide))⟩
theorem walk {l : PySem.W.OpenLaw} {q : Program} {loose : List Str} {XP : (Str → Option Value) → Heap → Prop} {YP : World → Heap → Prop} {d : DefRec} {K : Params → PySem.W.Frag} (hn : l.most = some 63) (hdf : d.params.defaults = [])
    (hY : ∀ (w : World) (h : Heap), YP w h → (K w.params).In h)
    (F : ∀ (w : World) (mg : Str → Option Value) (fa : Addr) (h : Heap), (K w.params).In h → h.Ns mainGlobals mg → mg d.name = some (.ref fa) →
      ∃ fd : FuncData, (∀ (s : Shared) (u : Value), BindsTo s fd ⟨[u], []⟩ [("_law_script", u)]) ∧ ∀ base : Heap, (K w.params).In base → base.Ns mainGlobals mg → FnOk l.prog w (K w.params) mg base CX0 9 fa fd ["_law_script"] (spLaw (K w.params))) :
    PySem.W.WalkO q loose XP YP l.row.toRowW d [] (fun f vs => PySem.call f vs) :=
  L2.walk_bits (n := 63) (k := 9) (x := "_law_script") (CX := CX0) (sp := spLaw) hn (by decide) hdf ⟨rfl, by decide, by decide⟩ hY F (fun _ _ a ns hl hb _ hS => ⟨a, ns, rfl, hS, hl, hb, fun _ => rfl⟩) fun _ _ _ _ z => z
end K4
open PySem PySem.W PyProof.Rows
set_option maxRecDepth 100000 in
set_option maxHeartbeats 0 in
theorem PySem.Challenge.cw_cutlands_k04_cuttings_told_holds : PySem.Challenge.rw_cutlands_k04_cuttings_told.Holds := by
  w_on; o_law; k_head; (case hw => w_witness2)
  k_fill
  refine K4.walk (l := PySem.Challenge.rw_cutlands_k04_cuttings_told) rfl rfl (fun w h Y => PySem.W.kIn_of Y) ?F
  case F =>
    intro w mg fa h KX G hmg
    refine' K4.all_mk KX G hmg ?a0 ?l0 ?c0 ?k0 ?a1 ?l1 ?c1 ?k1 ?a2 ?l2 ?c2 ?k2 ?a3 ?l3 ?c3 ?k3 ?a4 ?l4 ?c4 ?k4 ?a5 ?l5 ?c5 ?k5 ?a6 ?l6 ?c6 ?k6 ?a7 ?l7 ?c7 ?k7 ?a8 ?l8 ?c8 ?k8 ?a9 ?l9 ?c9 ?k9 ?a10 ?l10 ?c10 ?k10 ?a11 ?l11 ?c11 ?k11 ?a12 ?l12 ?c12 ?k12 ?a13 ?l13 ?c13 ?k13 ?a14 ?l14 ?c14 ?k14 ?a15 ?l15 ?c15 ?k15 ?a16 ?l16 ?c16 ?k16 ?a17 ?l17 ?c17 ?k17 ?a18 ?l18 ?c18 ?k18 ?a19 ?l19 ?c19 ?k19 ?a20 ?l20 ?c20 ?k20 ?a21 ?l21 ?c21 ?k21 ?a22 ?l22 ?c22 ?k22 ?a23 ?l23 ?c23 ?k23 ?a24 ?l24 ?c24 ?k24 ?a25 ?l25 ?c25 ?k25 ?a26 ?l26 ?c26 ?k26 ?z0 ?z1 ?z2 ?z3 ?z4 ?z5 ?z6 ?z7 ?z8 ?z9 ?z10 ?z11 ?eC ?eD ?eE ?pg ?hd ?po ?sa ?n1 ?n2 ?mk ?kp ?gf0 ?gi0 ?gl0 ?gc0 ?gk0 ?gf1 ?gi1 ?gl1 ?gc1 ?gk1 ?gf2 ?gi2 ?gl2 ?gc2 ?gk2 ?gf3 ?gi3 ?gl3 ?gc3 ?gk3 ?gf4 ?gi4 ?gl4 ?gc4 ?gk4 ?gf5 ?gi5 ?gl5 ?gc5 ?gk5 ?gf6 ?gi6 ?gl6 ?gc6 ?gk6
    (case a0 => k_is)
    (case l0 => k_is)
    (case c0 => k_is)
    (case k0 => k_is)
    (case a1 => k_is)
    (case l1 => k_is)
    (case c1 => k_is)
    (case k1 => k_is)
    (case a2 => k_is)
    (case l2 => k_is)
    (case c2 => k_is)
    (case k2 => k_is)
    (case a3 => k_is)
    (case l3 => k_is)
    (case c3 => k_is)
    (case k3 => k_is)
    (case a4 => k_is)
    (case l4 => k_is)
    (case c4 => k_is)
    (case k4 => k_is)
    (case a5 => k_is)
    (case l5 => k_is)
    (case c5 => k_is)
    (case k5 => k_is)
    (case a6 => k_is)
    (case l6 => k_is)
    (case c6 => k_is)
    (case k6 => k_is)
    (case a7 => k_is)
    (case l7 => k_is)
    (case c7 => k_is)
    (case k7 => k_is)
    (case a8 => k_is)
    (case l8 => k_is)
    (case c8 => k_is)
    (case k8 => k_is)
    (case a9 => k_is)
    (case l9 => k_is)
    (case c9 => k_is)
    (case k9 => k_is)
    (case a10 => k_is)
    (case l10 => k_is)
    (case c10 => k_is)
    (case k10 => k_is)
    (case a11 => k_is)
    (case l11 => k_is)
    (case c11 => k_is)
    (case k11 => k_is)
    (case a12 => k_is)
    (case l12 => k_is)
    (case c12 => k_is)
    (case k12 => k_is)
    (case a13 => k_is)
    (case l13 => k_is)
    (case c13 => k_is)
    (case k13 => k_is)
    (case a14 => k_is)
    (case l14 => k_is)
    (case c14 => k_is)
    (case k14 => k_is)
    (case a15 => k_is)
    (case l15 => k_is)
    (case c15 => k_is)
    (case k15 => k_is)
    (case a16 => k_is)
    (case l16 => k_is)
    (case c16 => k_is)
    (case k16 => k_is)
    (case a17 => k_is)
    (case l17 => k_is)
    (case c17 => k_is)
    (case k17 => k_is)
    (case a18 => k_is)
    (case l18 => k_is)
    (case c18 => k_is)
    (case k18 => k_is)
    (case a19 => k_is)
    (case l19 => k_is)
    (case c19 => k_is)
    (case k19 => k_is)
    (case a20 => k_is)
    (case l20 => k_is)
    (case c20 => k_is)
    (case k20 => k_is)
    (case a21 => k_is)
    (case l21 => k_is)
    (case c21 => k_is)
    (case k21 => k_is)
    (case a22 => k_is)
    (case l22 => k_is)
    (case c22 => k_is)
    (case k22 => k_is)
    (case a23 => k_is)
    (case l23 => k_is)
    (case c23 => k_is)
    (case k23 => k_is)
    (case a24 => k_is)
    (case l24 => k_is)
    (case c24 => k_is)
    (case k24 => k_is)
    (case a25 => k_is)
    (case l25 => k_is)
    (case c25 => k_is)
    (case k25 => k_is)
    (case a26 => k_is)
    (case l26 => k_is)
    (case c26 => k_is)
    (case k26 => k_is)
    (case z0 => k_is)
    (case z1 => k_is)
    (case z2 => k_is)
    (case z3 => k_is)
    (case z4 => k_is)
    (case z5 => k_is)
    (case z6 => k_is)
    (case z7 => k_is)
    (case z8 => k_is)
    (case z9 => k_is)
    (case z10 => k_is)
    (case z11 => k_is)
    (case eC => first | k_is | k_exc | decide)
    (case eD => first | k_is | k_exc | decide)
    (case eE => first | k_is | k_exc | decide)
    (case pg => first | k_is | k_exc | decide)
    (case hd => first | k_is | k_exc | decide)
    (case po => first | k_is | k_exc | decide)
    (case sa => first | k_is | k_exc | decide)
    (case n1 => first | k_is | k_exc | decide)
    (case n2 => first | k_is | k_exc | decide)
    (case mk => first | k_is | k_exc | decide)
    (case kp => first | k_is | k_exc | decide)
    (case gf0 => first | k_is | k_exc | decide)
    (case gi0 => first | k_is | k_exc | decide)
    (case gl0 => first | k_is | k_exc | decide)
    (case gc0 => first | k_is | k_exc | decide)
    (case gk0 => first | k_is | k_exc | decide)
    (case gf1 => first | k_is | k_exc | decide)
    (case gi1 => first | k_is | k_exc | decide)
    (case gl1 => first | k_is | k_exc | decide)
    (case gc1 => first | k_is | k_exc | decide)
    (case gk1 => first | k_is | k_exc | decide)
    (case gf2 => first | k_is | k_exc | decide)
    (case gi2 => first | k_is | k_exc | decide)
    (case gl2 => first | k_is | k_exc | decide)
    (case gc2 => first | k_is | k_exc | decide)
    (case gk2 => first | k_is | k_exc | decide)
    (case gf3 => first | k_is | k_exc | decide)
    (case gi3 => first | k_is | k_exc | decide)
    (case gl3 => first | k_is | k_exc | decide)
    (case gc3 => first | k_is | k_exc | decide)
    (case gk3 => first | k_is | k_exc | decide)
    (case gf4 => first | k_is | k_exc | decide)
    (case gi4 => first | k_is | k_exc | decide)
    (case gl4 => first | k_is | k_exc | decide)
    (case gc4 => first | k_is | k_exc | decide)
    (case gk4 => first | k_is | k_exc | decide)
    (case gf5 => first | k_is | k_exc | decide)
    (case gi5 => first | k_is | k_exc | decide)
    (case gl5 => first | k_is | k_exc | decide)
    (case gc5 => first | k_is | k_exc | decide)
    (case gk5 => first | k_is | k_exc | decide)
    (case gf6 => first | k_is | k_exc | decide)
    (case gi6 => first | k_is | k_exc | decide)
    (case gl6 => first | k_is | k_exc | decide)
    (case gc6 => first | k_is | k_exc | decide)
    (case gk6 => first | k_is | k_exc | decide)
