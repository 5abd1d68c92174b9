import PyProof.Rows.All
import Wide.All
import OpenK.AllK
import Wide.FinOn
import PyProof.EqAt
import PyProof.EqKinds
import PyProof.TupleCall
import KE.BitLaws
import PySem.Challenge.RW_bandorder_k07_chains_and_crowds_judged
set_option Elab.async false
set_option linter.all false
set_option maxRecDepth 100000
/-! THE HAND LAYER, for ints, bools, texts, own classes, lists, tuples, dicts, comprehensions, walks over dicts, enumerate, zip, reversed, texts, calls, loops. Paste it whole ahead of your own text; what your proof does not reach may be deleted. -/
namespace L2
open PySem PySem.Spec PyProof.Rows

/-- a key: an int or a str -/
abbrev Key := Sum Int Str
def keyIs : Key → Value → Bool
  | .inl k, v => Value.isInt k v
  | .inr x, v => Value.isStrOf x v
def keyH (w : World) : Key → Int
  | .inl k => hashInt k
  | .inr x => hashStr w x
theorem keyIs_shape : ∀ {k : Key} {v : Value}, keyIs k v = true → (∃ i t, k = Sum.inl i ∧ v = Value.int i t) ∨ (∃ x t, k = Sum.inr x ∧ v = Value.str x t)
  | .inl i, v, h => by
    obtain ⟨t, e⟩ := Value.isInt_shape (k := i) (v := v) h
    exact .inl ⟨i, t, rfl, e⟩
  | .inr x, v, h => by
    obtain ⟨t, e⟩ := Value.isStrOf_shape (x := x) (v := v) h
    exact .inr ⟨x, t, rfl, e⟩
theorem keyIs_int (i : Int) (t : Tok) : keyIs (.inl i) (.int i t) = true := by simp [keyIs, Value.isInt]
theorem keyIs_str (x : Str) (t : Tok) : keyIs (.inr x) (.str x t) = true := by simp [keyIs, Value.isStrOf]
theorem key_ll (a b : Int) : decide ((Sum.inl a : Key) = Sum.inl b) = (a == b) := by
  by_cases e : a = b
  · subst e; simp
  · have h : ¬ (Sum.inl a : Key) = Sum.inl b := fun q => e (Sum.inl.inj q)
    rw [decide_eq_false h]
    exact (beq_eq_false_iff_ne.mpr e).symm
theorem key_rr (a b : Str) : decide ((Sum.inr a : Key) = Sum.inr b) = decide (a = b) := by
  by_cases e : a = b
  · subst e; simp
  · have h : ¬ (Sum.inr a : Key) = Sum.inr b := fun q => e (Sum.inr.inj q)
    rw [decide_eq_false h, decide_eq_false e]
theorem key_lr (a : Int) (b : Str) : decide ((Sum.inl a : Key) = Sum.inr b) = false := decide_eq_false (fun q => nomatch q)
theorem key_rl (a : Str) (b : Int) : decide ((Sum.inr a : Key) = Sum.inl b) = false := decide_eq_false (fun q => nomatch q)

def mixKind (prog : Program) (w : World) : PySem.KeyKind prog w Key where
  is := keyIs
  hash := keyH w
  inj := fun v a b ha hb => by
    rcases keyIs_shape ha with ⟨i, t, rfl, rfl⟩ | ⟨x, t, rfl, rfl⟩
    · rcases keyIs_shape hb with ⟨j, u, rfl, e⟩ | ⟨y, u, rfl, e⟩
      · injection e with e1 _; rw [e1]
      · exact nomatch e
    · rcases keyIs_shape hb with ⟨j, u, rfl, e⟩ | ⟨y, u, rfl, e⟩
      · exact nomatch e
      · injection e with e1 _; rw [e1]
  byValue := fun k v h => by
    rcases keyIs_shape h with ⟨i, t, rfl, rfl⟩ | ⟨x, t, rfl, rfl⟩ <;> rfl
  pyHash := fun hv h => by
    rcases keyIs_shape hv with ⟨i, t, rfl, rfl⟩ | ⟨x, t, rfl, rfl⟩
    · exact wpAny_pyHash_int h
    · exact wpAny_pyHash_str h
  eqBool := fun hu hv h => by
    rcases keyIs_shape hu with ⟨i, t, rfl, rfl⟩ | ⟨x, t, rfl, rfl⟩
    · rcases keyIs_shape hv with ⟨j, u, rfl, rfl⟩ | ⟨y, u, rfl, rfl⟩
      · rw [key_ll] at h; exact wpAny_eqBool_int h
      · rw [key_lr] at h; exact SeqAt.EqAt.int_str i t y u _ _ _ _ h
    · rcases keyIs_shape hv with ⟨j, u, rfl, rfl⟩ | ⟨y, u, rfl, rfl⟩
      · rw [key_rl] at h; exact SeqAt.EqAt.str_int x t j u _ _ _ _ h
      · rw [key_rr] at h; exact wpAny_eqBool_str h
  «strs» := fun k x t v h => by
    rcases keyIs_shape h with ⟨i, u, rfl, e⟩ | ⟨y, u, rfl, e⟩
    · exact nomatch e
    · injection e with e1 _
      subst e1
      cases v <;> rfl

theorem mixKind_is (prog : Program) (w : World) (k : Key) (v : Value) : (mixKind prog w).is k v = keyIs k v := rfl
theorem mixKind_int (prog : Program) (w : World) (i : Int) (t : Tok) : (mixKind prog w).is (.inl i) (.int i t) = true := keyIs_int i t
theorem mixKind_str (prog : Program) (w : World) (x : Str) (t : Tok) : (mixKind prog w).is (.inr x) (.str x t) = true := keyIs_str x t
end L2

namespace L2
open PySem PySem.Spec PyProof.Rows

/-- a value, without the heap -/
inductive V where
  | non | bl (b : Bool) | int (i : Int) | str (x : Str) | byt (b : Array UInt8) | flt (b : UInt64) | ref (a : Addr) | ty (n : String)
  deriving DecidableEq

def RelV : V → Value → Prop
  | .non, u => u = Value.none
  | .bl b, u => u = Value.bool b
  | .int i, u => ∃ t, u = Value.int i t
  | .str x, u => ∃ t, u = Value.str x t
  | .byt b, u => ∃ t, u = Value.bytes b t
  | .flt b, u => ∃ t, u = Value.float b t
  | .ref a, u => u = Value.ref a
  | .ty n, u => u = Value.type n

abbrev Vals : List V → List Value → Prop := Paired RelV
theorem Vals.length {xs : List V} {us : List Value} (r : Vals xs us) : xs.length = us.length := Paired.length r
theorem Vals.get : ∀ {xs : List V} {us : List Value} {i : Nat} {x : V}, Vals xs us → xs[i]? = some x → ∃ u, us[i]? = some u ∧ RelV x u
  | _, _, _, _, .nil, e => by simp at e
  | _, _, 0, _, .cons r _, e => by simp at e; subst e; exact ⟨_, rfl, r⟩
  | _, _, i + 1, x, .cons _ t, e => by
    obtain ⟨u, h1, h2⟩ := Vals.get (i := i) (x := x) t (by simpa using e)
    exact ⟨u, by simpa using h1, h2⟩
theorem Vals.set {x : V} {u : Value} (r : RelV x u) : ∀ {xs : List V} {us : List Value} (i : Nat), Vals xs us → Vals (xs.set i x) (us.set i u)
  | _, _, _, .nil => .nil
  | _, _, 0, .cons _ t => .cons r t
  | _, _, i + 1, .cons q t => .cons q (Vals.set r i t)
theorem Vals.append : ∀ {xs ys : List V} {us ws : List Value}, Vals xs us → Vals ys ws → Vals (xs ++ ys) (us ++ ws)
  | _, _, _, _, .nil, s => s
  | _, _, _, _, .cons r t, s => .cons r (Vals.append t s)
theorem Vals.take : ∀ {xs : List V} {us : List Value} (n : Nat), Vals xs us → Vals (xs.take n) (us.take n)
  | _, _, 0, _ => .nil
  | _, _, _ + 1, .nil => .nil
  | _, _, n + 1, .cons r t => .cons r (Vals.take n t)
theorem Vals.drop : ∀ {xs : List V} {us : List Value} (n : Nat), Vals xs us → Vals (xs.drop n) (us.drop n)
  | _, _, 0, r => r
  | _, _, _ + 1, .nil => .nil
  | _, _, n + 1, .cons _ t => Vals.drop n t
theorem Vals.none_of : ∀ {xs : List V} {us : List Value} {i : Nat}, Vals xs us → xs[i]? = none → us[i]? = none := fun {xs us i} r e => by
  have h1 := r.length
  have h2 : xs.length ≤ i := List.getElem?_eq_none_iff.mp e
  exact List.getElem?_eq_none_iff.mpr (by omega)

def RelO : Option V → Option Value → Prop
  | some v, some u => RelV v u
  | none, none => True
  | _, _ => False
def KV {κ : Type} : List (κ × V) → List (κ × Value) → Prop := Paired fun (p : κ × V) (q : κ × Value) => p.1 = q.1 ∧ RelV p.2 q.2

/-- a key of a dict (00_mix): an int or a text -/
def kV : Key → V
  | .inl i => .int i
  | .inr x => .str x

/-- what stands at a tracked address -/
inductive HO where
  /-- a list -/
  | lst (xs : List V)
  /-- a tuple (never changes) -/
  | tup (xs : List V)
  /-- a dict whose keys are ints and texts; one whose keys are tuples of ints and texts (the empty one is both) -/
  | dK (kvs : List (Key × V)) | dT (kvs : List (List Key × V))
  /-- a set of ints: its members, its size -/
  | set (S : Int → Bool) (n : Nat)
  /-- an instance of the class at C, its dict at dx, its attributes -/
  | ins (C dx : Addr) (fs : List (Str × V))
  /-- the dict of the instance at x -/
  | own (x : Addr)
  /-- the dict of an exception -/
  | xd (fs : List (Str × V))
  /-- a bound method, f of x -/
  | met (f x : Addr)
  /-- a range object lo, lo + 1, .. below hi -/
  | rng (lo hi : Int)
  /-- a thing that is known to the object (the script; a dict while a loop walks it): read, never written while it is so -/
  | frz (o : Obj) (u : HO)
  /-- a code object's table -/
  | tbl (ps : Array Value)
  /-- any other thing, by what is true of its one object (a def of one's own: SetO a S n := HO.ext fun h => ..) -/
  | ext (φ : Heap → Prop)

abbrev Hp := Addr → Option HO
def upd (H : Hp) (a : Addr) (o : HO) : Hp := fun b => if b = a then some o else H b
theorem upd_same {H : Hp} {a : Addr} {o : HO} : upd H a o a = some o := by unfold upd; rw [if_pos rfl]
theorem upd_ne {H : Hp} {a b : Addr} {o : HO} (h : b ≠ a) : upd H a o b = H b := by unfold upd; rw [if_neg h]
theorem upd_upd {H : Hp} {a : Addr} {o u : HO} : upd (upd H a o) a u = upd H a u := by
  funext b; unfold upd; split <;> rfl
/-- two objects of different content stand apart -/
theorem ne_of {H : Hp} {a b : Addr} {o u : HO} (h : H a = some o) (h' : H b = some u) (d : o ≠ u) : a ≠ b := by
  intro e; subst e; rw [h] at h'; exact d (Option.some.inj h')
theorem ne_of_none {H : Hp} {a b : Addr} {o : HO} (h : H a = some o) (h' : H b = none) : a ≠ b := by
  intro e; subst e; rw [h] at h'; cases h'

section
variable (P : Program) (w : World)
def ObjOk (H : Hp) (h : Heap) (a : Addr) : HO → Prop
  | .lst xs => xs.length ≤ sizeLine ∧ ∃ (its : List Value) (n : Nat), Vals xs its ∧ h.get? a = some { cls := .type "list", data := .seq its.toArray n }
  | .tup xs => xs.length ≤ sizeLine ∧ ∃ its : List Value, Vals xs its ∧ IsTup h a its.toArray
  | .dK kvs => kvs.length ≤ sizeLine ∧ (a == sysModules) = false ∧ ∃ vs, KV kvs vs ∧ h.DictOf (mixKind P w) a vs
  | .dT kvs => kvs.length ≤ sizeLine ∧ (a == sysModules) = false ∧ ∃ xs : List (List Key × Addr × Value),
      Paired (fun (p : List Key × V) (q : List Key × Addr × Value) => p.1 = q.1 ∧ H q.2.1 = some (.tup (p.1.map kV)) ∧ RelV p.2 q.2.2) kvs xs ∧
      ∃ o es ep, h.get? a = some o ∧ o.ExactDict ∧ o.data = .dict es ep ∧ es.toList = xs.map (entryOfKey (tupleKind (mixKind P w))) ∧ (xs.map (·.1)).Nodup
  | .set S n => h.SetOf (intKind P w) a S n
  | .ins C dx fs => H dx = some (.own a) ∧ fs.length ≤ 1000 ∧ dx ≠ a ∧ h.get? a = some (PySem.W.instObj C dx) ∧
      ∃ mA, h.Ns1 dx mA ∧ (∀ f, RelO (fs.lookup f) (mA f)) ∧ PySem.Within mA (fs.map (·.1))
  | .own _ => ∃ o, h.get? a = some o
  | .xd fs => ∃ mA, h.Ns1 a mA ∧ ∀ f, RelO (fs.lookup f) (mA f)
  | .rng lo hi => ∃ t u v, h.get? a = some { cls := .type "range", data := .fields #[.int lo t, .int hi u, .int 1 v] }
  | .frz o u => h.get? a = some o ∧ ObjOk H h a u
  | .tbl ps => h.get? a = some { cls := .none, data := .fields ps }
  | .met f x => h.get? a = some (PySem.W.methodObj (.ref f) (.ref x))
  | .ext φ => φ h ∧ (∃ o, h.get? a = some o) ∧ ∀ h1 h2 : Heap, φ h1 → (∀ o, h1.get? a = some o → h2.get? a = some o) → φ h2
/-- the abstract heap is held -/
def HOk (H : Hp) (h : Heap) : Prop := ∀ a o, H a = some o → ObjOk P w H h a o
end

section
variable {P : Program} {w : World} {H H' : Hp} {h h' : Heap} {a : Addr} {o : HO}
theorem ObjOk.lt (x : ObjOk P w H h a o) : a < h.objs.size := by
  cases o with
  | lst xs => obtain ⟨_, _, _, _, e⟩ := x; exact Heap.lt_size e
  | tup xs => obtain ⟨_, _, _, p⟩ := x; exact p.lt
  | dK kvs => obtain ⟨_, _, _, _, o, _, _, e, _⟩ := x; exact Heap.lt_size e
  | dT kvs => obtain ⟨_, _, _, _, o, _, _, e, _⟩ := x; exact Heap.lt_size e
  | set S n => obtain ⟨o, _, _, _, e, _⟩ := x; exact Heap.lt_size e
  | ins C dx fs => obtain ⟨_, _, _, e, _⟩ := x; exact Heap.lt_size e
  | own y => obtain ⟨_, e⟩ := x; exact Heap.lt_size e
  | xd fs => obtain ⟨_, ⟨_, _, _, e, _⟩, _⟩ := x; exact Heap.lt_size e
  | rng lo hi => obtain ⟨_, _, _, e⟩ := x; exact Heap.lt_size e
  | frz ob u => obtain ⟨e, _⟩ := x; exact Heap.lt_size e
  | tbl ps => exact Heap.lt_size (show h.get? a = some _ from x)
  | met f y => exact Heap.lt_size (show h.get? a = some _ from x)
  | ext φ => obtain ⟨_, ⟨_, e⟩, _⟩ := x; exact Heap.lt_size e
theorem Paired.mapP {α β : Type} {F G : α → β → Prop} : ∀ {l₁ : List α} {l₂ : List β}, Paired F l₁ l₂ → (∀ a b, F a b → G a b) → Paired G l₁ l₂
  | _, _, .nil, _ => .nil
  | _, _, .cons r t, f => .cons (f _ _ r) (Paired.mapP t f)
theorem Paired.imp' {α β : Type} {F G : α → β → Prop} (f : ∀ a b, F a b → G a b) {l₁ : List α} {l₂ : List β} (r : Paired F l₁ l₂) : Paired G l₁ l₂ := Paired.mapP r f
/-- what an object's description leans on: its own object, its own dict, the tuples -/
theorem ObjOk.stay (x : ObjOk P w H h a o) (k : ∀ b u, (b = a ∨ H b = some (.own a)) → h.get? b = some u → h'.get? b = some u)
    (ho : ∀ b, H b = some (.own a) → H' b = some (.own a)) (ht : ∀ b xs, H b = some (.tup xs) → H' b = some (.tup xs)) : ObjOk P w H' h' a o := by
  induction o with
  | lst xs => obtain ⟨z, its, n, r, e⟩ := x; exact ⟨z, its, n, r, k _ _ (.inl rfl) e⟩
  | tup xs => obtain ⟨z, its, r, ob, e, c⟩ := x; exact ⟨z, its, r, ob, k _ _ (.inl rfl) e, c⟩
  | dK kvs => obtain ⟨z, y, vs, r, ob, es, ep, e, c⟩ := x; exact ⟨z, y, vs, r, ob, es, ep, k _ _ (.inl rfl) e, c⟩
  | dT kvs =>
    obtain ⟨z, y, xs, r, ob, es, ep, e, c⟩ := x
    exact ⟨z, y, xs, Paired.mapP r fun p q z => ⟨z.1, ht _ _ z.2.1, z.2.2⟩, ob, es, ep, k _ _ (.inl rfl) e, c⟩
  | set S n => obtain ⟨ob, es, ep, t, e, c⟩ := x; exact ⟨ob, es, ep, t, k _ _ (.inl rfl) e, c⟩
  | ins C dx fs =>
    obtain ⟨d, z, ne, e, mA, ⟨od, es, ep, e2, c⟩, r⟩ := x
    exact ⟨ho _ d, z, ne, k _ _ (.inl rfl) e, mA, ⟨od, es, ep, k _ _ (.inr d) e2, c⟩, r⟩
  | own y => obtain ⟨ob, e⟩ := x; exact ⟨ob, k _ _ (.inl rfl) e⟩
  | xd fs => obtain ⟨mA, ⟨od, es, ep, e, c⟩, r⟩ := x; exact ⟨mA, ⟨od, es, ep, k _ _ (.inl rfl) e, c⟩, r⟩
  | rng lo hi => obtain ⟨t, u, v, e⟩ := x; exact ⟨t, u, v, k _ _ (.inl rfl) e⟩
  | frz ob u ih => obtain ⟨e, q⟩ := x; exact ⟨k _ _ (.inl rfl) e, ih q⟩
  | tbl ps =>
    have e : h.get? a = some { cls := .none, data := .fields ps } := x
    show h'.get? a = some { cls := .none, data := .fields ps }
    exact k a _ (.inl rfl) e
  | met f y =>
    have e : h.get? a = some (PySem.W.methodObj (.ref f) (.ref y)) := x
    show h'.get? a = some (PySem.W.methodObj (.ref f) (.ref y))
    exact k a _ (.inl rfl) e
  | ext φ => obtain ⟨p, ⟨o, e⟩, st⟩ := x; exact ⟨st _ _ p fun o q => k _ _ (.inl rfl) q, ⟨o, k _ _ (.inl rfl) e⟩, st⟩
theorem HOk.lt (x : HOk P w H h) (e : H a = some o) : a < h.objs.size := (x a o e).lt
theorem HOk.fresh (x : HOk P w H h) (e : h.objs.size ≤ a) : H a = none := by
  cases q : H a with
  | none => rfl
  | some u => exact absurd (Nat.lt_of_lt_of_le (x.lt q) e) (Nat.lt_irrefl _)
/-- every object of the heap is kept -/
theorem HOk.kept (x : HOk P w H h) (k : ∀ b u, h.get? b = some u → h'.get? b = some u) : HOk P w H h' := fun a o e =>
  (x a o e).stay (fun b u _ q => k b u q) (fun _ q => q) fun _ _ q => q
/-- a new object is laid and tracked -/
theorem HOk.laid (x : HOk P w H h) (k : ∀ b u, h.get? b = some u → h'.get? b = some u) (hp : h.objs.size ≤ a) (new : ObjOk P w (upd H a o) h' a o) : HOk P w (upd H a o) h' := fun b u e => by
  have hn := x.fresh hp
  by_cases hb : b = a
  · subst hb; rw [upd_same] at e; cases e; exact new
  · rw [upd_ne hb] at e
    exact (x b u e).stay (fun c v _ q => k c v q) (fun c q => by rw [upd_ne (ne_of_none q hn)]; exact q) fun c xs q => by rw [upd_ne (ne_of_none q hn)]; exact q
end

/-- what may be read as u: it is u, or a known u -/
def Rd (H : Hp) (a : Addr) (u : HO) : Prop := H a = some u ∨ ∃ o, H a = some (.frz o u)
theorem Rd.of {H : Hp} {a : Addr} {u : HO} (h : H a = some u) : Rd H a u := .inl h
theorem Rd.ok {P : Program} {w : World} {H : Hp} {h : Heap} {a : Addr} {u : HO} (r : Rd H a u) (x : HOk P w H h) : ObjOk P w H h a u := by
  rcases r with r | ⟨o, r⟩
  · exact x a u r
  · obtain ⟨_, q⟩ := x a _ r
    exact q
/-- what may be written -/
def Mut : Option HO → Prop
  | some (.lst _) => True
  | some (.dK _) => True
  | some (.dT _) => True
  | some (.set _ _) => True
  | some (.ins _ _ _) => True
  | some (.ext _) => True
  | _ => False
section
variable {P : Program} {w : World} {H : Hp} {h h' : Heap} {x e : Addr} {o' : HO}
/-- the object at e is changed: x itself, or the dict of the instance x -/
theorem HOk.write (ok : HOk P w H h) (mu : Mut (H x)) (he : e = x ∨ H e = some (.own x)) (k : ∀ b u, b ≠ e → h.get? b = some u → h'.get? b = some u) (heo : ∃ u, h'.get? e = some u)
    (new : ObjOk P w (upd H x o') h' x o') : HOk P w (upd H x o') h' := fun b u q => by
  have nown : ∀ c y, H c = some (.own y) → c ≠ x := fun c y r z => by subst z; rw [r] at mu; exact mu
  have ntup : ∀ c xs, H c = some (.tup xs) → c ≠ x := fun c xs r z => by subst z; rw [r] at mu; exact mu
  by_cases hb : b = x
  · subst hb; rw [upd_same] at q; cases q; exact new
  · rw [upd_ne hb] at q
    by_cases hbe : b = e
    · have q' : H b = some (.own x) := by
        rcases he with z | z
        · exact absurd (hbe.trans z) hb
        · rw [hbe]; exact z
      rw [q] at q'; cases q'
      obtain ⟨v, hv⟩ := heo
      exact ⟨v, by rw [hbe]; exact hv⟩
    · refine (ok b u q).stay (fun c v hc r => k c v ?_ r) (fun c r => by rw [upd_ne (nown c b r)]; exact r) fun c xs r => by rw [upd_ne (ntup c xs r)]; exact r
      rcases hc with rfl | hc
      · exact hbe
      · rintro rfl
        rcases he with z | z
        · exact nown c b hc z
        · rw [hc] at z; cases z; exact hb rfl
end

/-! ### kept unless tracked; of the frames at fs (the callers') the slots may change (an exception that passes writes there); of the records at ex (iterators) nothing is said -/
structure Un (fs ex : List Addr) (H H' : Hp) (h h' : Heap) : Prop where
  keep : ∀ b o, h.get? b = some o → H b = none → b ∉ fs → b ∉ ex → h'.get? b = some o
  slot : ∀ b o, h.get? b = some o → H b = none → b ∈ fs → b ∉ ex → ∃ sl, h'.get? b = some { o with slots := sl }
  free : ∀ b o, h.get? b = some o → H b = none → b ∉ ex → H' b = none
  there : ∀ b o, h.get? b = some o → b ∉ ex → ∃ o', h'.get? b = some o'
  tups : ∀ b xs, H b = some (.tup xs) → H' b = some (.tup xs)
  frzs : ∀ b o u, H b = some (.frz o u) → H' b = some (.frz o u)
  tbls : ∀ b ps, H b = some (.tbl ps) → ∃ more, H' b = some (.tbl (ps ++ more))
section
variable {fs fs' ex ex' : List Addr} {H H1 H2 : Hp} {h h1 h2 h' : Heap} {a x e : Addr} {o : HO}
theorem Un.any (u : Un fs ex H H1 h h1) {b : Addr} {ob : Obj} (q : h.get? b = some ob) (n : H b = none) (hx : b ∉ ex) : ∃ sl, h1.get? b = some { ob with slots := sl } := by
  by_cases hb : b ∈ fs
  · exact u.slot b ob q n hb hx
  · exact ⟨ob.slots, u.keep b ob q n hb hx⟩
theorem Un.trans (a : Un fs ex H H1 h h1) (b : Un fs ex H1 H2 h1 h2) : Un fs ex H H2 h h2 where
  keep := fun c ob q n hc hx => b.keep c ob (a.keep c ob q n hc hx) (a.free c ob q n hx) hc hx
  slot := fun c ob q n hc hx => by
    obtain ⟨sl, e1⟩ := a.slot c ob q n hc hx
    obtain ⟨sl', e2⟩ := b.slot c _ e1 (a.free c ob q n hx) hc hx
    exact ⟨sl', e2⟩
  free := fun c ob q n hx => by
    obtain ⟨o', e1⟩ := a.there c ob q hx
    exact b.free c o' e1 (a.free c ob q n hx) hx
  there := fun c ob q hx => by
    obtain ⟨o', e1⟩ := a.there c ob q hx
    exact b.there c o' e1 hx
  tups := fun c xs q => b.tups c xs (a.tups c xs q)
  frzs := fun c ob xs q => b.frzs c ob xs (a.frzs c ob xs q)
  tbls := fun c ps q => by
    obtain ⟨m1, e1⟩ := a.tbls c ps q
    obtain ⟨m2, e2⟩ := b.tbls c _ e1
    exact ⟨m1 ++ m2, by rw [e2, Array.append_assoc]⟩
theorem Un.kept (k : ∀ b u, h.get? b = some u → h'.get? b = some u) : Un fs ex H H h h' :=
  ⟨fun b ob q _ _ _ => k b ob q, fun b ob q _ _ _ => ⟨ob.slots, k b ob q⟩, fun _ _ _ n _ => n, fun b ob q _ => ⟨ob, k b ob q⟩, fun _ _ q => q, fun _ _ _ q => q, fun _ ps q => ⟨#[], by rw [q]; simp⟩⟩
theorem Un.refl : Un fs ex H H h h := Un.kept fun _ _ q => q
theorem Un.laid (k : ∀ b u, h.get? b = some u → h'.get? b = some u) (hp : h.objs.size ≤ a) (hn : H a = none) : Un fs ex H (upd H a o) h h' where
  keep := fun b u q _ _ _ => k b u q
  slot := fun b u q _ _ _ => ⟨u.slots, k b u q⟩
  free := fun b u q n _ => by rw [upd_ne (Nat.ne_of_lt (Nat.lt_of_lt_of_le (Heap.lt_size q) hp))]; exact n
  there := fun b u q _ => ⟨u, k b u q⟩
  tups := fun b xs q => by rw [upd_ne (ne_of_none q hn)]; exact q
  frzs := fun b u xs q => by rw [upd_ne (ne_of_none q hn)]; exact q
  tbls := fun b ps q => ⟨#[], by rw [upd_ne (ne_of_none q hn), q]; simp⟩
theorem Un.write (mu : Mut (H x)) (he : e = x ∨ H e = some (.own x)) (k : ∀ b u, b ≠ e → h.get? b = some u → h'.get? b = some u) (heo : ∃ u, h'.get? e = some u) : Un fs ex H (upd H x o) h h' := by
  have hx : ∀ b, H b = none → b ≠ x := fun b n z => by subst z; rw [n] at mu; exact mu
  have hb : ∀ b, H b = none → b ≠ e := fun b n z => by
    subst z
    rcases he with r | r
    · exact hx b n r
    · rw [n] at r; cases r
  have hm : ∀ b u, H b = some u → ¬ Mut (some u) → b ≠ x := fun b u q nm z => by subst z; rw [q] at mu; exact nm mu
  refine ⟨fun b u q n _ _ => k b u (hb b n) q, fun b u q n _ _ => ⟨u.slots, k b u (hb b n) q⟩, fun b u q n _ => by rw [upd_ne (hx b n)]; exact n, fun b u q _ => ?_,
    fun b xs q => by rw [upd_ne (hm b _ q fun z => z)]; exact q, fun b u xs q => by rw [upd_ne (hm b _ q fun z => z)]; exact q, fun b ps q => ⟨#[], by rw [upd_ne (hm b _ q fun z => z), q]; simp⟩⟩
  by_cases hbe : b = e
  · subst hbe; exact heo
  · exact ⟨u, k b u hbe q⟩
theorem Un.mono (u : Un fs ex H H1 h h1) (hs : ∀ b ∈ fs, b ∈ fs') (hx : ∀ b ∈ ex, b ∈ ex') : Un fs' ex' H H1 h h1 :=
  ⟨fun b ob q n hb he => u.keep b ob q n (fun z => hb (hs b z)) fun z => he (hx b z), fun _ _ q n _ he => u.any q n fun z => he (hx _ z), fun b ob q n he => u.free b ob q n fun z => he (hx b z), fun b ob q he => u.there b ob q fun z => he (hx b z), u.tups, u.frzs, u.tbls⟩
end

/-! ### the heap without what is tracked -/
def trk (h : Heap) (H : Hp) : List Addr := (List.range h.objs.size).filter fun a => (H a).isSome
def hidT (h : Heap) (H : Hp) : Heap := PySem.W.hideAll h (trk h H)
theorem hidT_size (h : Heap) (H : Hp) : (hidT h H).objs.size = h.objs.size := PySem.W.hideAll_size _ _
theorem hidT_get {h : Heap} {H : Hp} {b : Addr} {o : Obj} (e : h.get? b = some o) (n : H b = none) : (hidT h H).get? b = some o :=
  PySem.W.hideAll_get _ e fun hm => by
    have q : (H b).isSome = true := (List.mem_filter.mp hm).2
    rw [n] at q; simp at q
theorem of_hidT {h : Heap} {H : Hp} {b : Addr} {o : Obj} (e : (hidT h H).get? b = some o) : h.get? b = some o ∧ H b = none := by
  have e' : h.get? b = some o := PySem.W.of_hideAll (trk h H) e
  refine ⟨e', ?_⟩
  cases q : H b with
  | none => rfl
  | some x =>
    have hm : b ∈ trk h H := List.mem_filter.mpr ⟨List.mem_range.mpr (Heap.lt_size e'), by simp [q]⟩
    have z : (hidT h H).get? b = none := PySem.W.hideAll_none (trk h H) hm
    rw [z] at e; cases e

/-! ### OpenK's ledger, filled with every new object but one -/
def allNews (g h : Heap) (L : Addr) : List (Addr × Obj) := (List.range h.objs.size).filterMap fun a => if a = L ∨ (g.get? a).isSome = true then none else (h.get? a).map fun o => (a, o)
theorem mem_allNews {g h : Heap} {L a : Addr} {o : Obj} (h1 : a ≠ L) (h2 : g.get? a = none) (h3 : h.get? a = some o) : (a, o) ∈ allNews g h L :=
  List.mem_filterMap.mpr ⟨a, List.mem_range.mpr (Heap.lt_size h3), by simp [h1, h2, h3]⟩
theorem of_mem_allNews {g h : Heap} {L : Addr} {p : Addr × Obj} (hp : p ∈ allNews g h L) : p.1 ≠ L ∧ g.get? p.1 = none ∧ h.get? p.1 = some p.2 := by
  obtain ⟨b, _, e⟩ := List.mem_filterMap.mp hp
  split at e
  · cases e
  · rename_i hn
    cases q : h.get? b with
    | none => rw [q] at e; simp at e
    | some u =>
      rw [q] at e
      simp only [Option.map_some, Option.some.injEq] at e
      subst e
      refine ⟨fun z => hn (.inl z), ?_, q⟩
      show g.get? b = none
      cases r : g.get? b with
      | none => rfl
      | some v => exact (hn (.inr (by simp [r]))).elim
def rest (g h : Heap) (L d : Addr) : List (Addr × Obj) := (allNews g h L).filter fun p => decide (p.1 ≠ d)
theorem rest_ne {g h : Heap} {L d : Addr} : ∀ p ∈ rest g h L d, p.1 ≠ d := fun p hp => of_decide_eq_true (List.mem_filter.mp hp).2
theorem mem_rest {g h : Heap} {L d a : Addr} {o : Obj} (h1 : a ≠ L) (h2 : g.get? a = none) (h3 : h.get? a = some o) (h4 : a ≠ d) : (a, o) ∈ rest g h L d :=
  List.mem_filter.mpr ⟨mem_allNews h1 h2 h3, decide_eq_true h4⟩
theorem news_all {g h : Heap} {L : Addr} : News g L h (allNews g h L) := fun p hp => let ⟨a, b, c⟩ := of_mem_allNews hp; ⟨c, a, b⟩
theorem news_at {g h : Heap} {L d : Addr} {o : Obj} (h1 : d ≠ L) (h2 : g.get? d = none) (h3 : h.get? d = some o) : News g L h ((d, o) :: rest g h L d) := fun p hp => by
  rcases List.mem_cons.mp hp with rfl | hp
  · exact ⟨h3, h1, h2⟩
  · exact news_all p (List.mem_filter.mp hp).1
/-- behind a rule that changed d alone: all else but the frame is kept -/
theorem kept_of_news {g h h' : Heap} {L d : Addr} {m : Str → Option Value} (k : ∀ b o, g.get? b = some o → h.get? b = some o) (F : Fr g L h' m) (N : News g L h' (rest g h L d)) :
    ∀ b o, b ≠ L → b ≠ d → h.get? b = some o → h'.get? b = some o := fun b o h1 h2 e => by
  cases q : g.get? b with
  | some u =>
    have := k b u q
    rw [e] at this; cases this
    exact F.keep b _ q
  | none => exact (N (b, o) (mem_rest h1 q e h2)).1
end L2

namespace L2
open PySem PySem.Spec PyProof.Rows

/-- the module's facts, over the base: the heap at the law's entry without what is tracked there -/
structure Mod (K : PySem.W.Frag) (mg : Str → Option Value) (base : Heap) : Prop where
  kin : K.In base
  glob : base.Ns mainGlobals mg
  blt : ∃ mb, base.Ns builtinsNs mb ∧ ∀ x : Str, x ≠ "__name__" → mb x = bootBuiltins x
  nolimit : base.NoLimit

/-- the context: a def's body (or a comprehension's block) running. base: fixed through the whole law; s₀, H₀: the entry; outer: the frames whose slots others may change (a def's callers); stack: all frames that run;
   ex: iterators that were made ahead of the entry and are walked here (a comprehension's); fn: the names whose cells were made at the entry (a def: all; a comprehension's block: its own); calm: not within an except suite; pn: pins that every state bears; xe: what is wanted of an exception that leaves the code -/
structure Cx where
  prog : Program
  w : World
  K : PySem.W.Frag
  mg : Str → Option Value
  base : Heap
  A : Around
  N : List Str
  s_0 : Shared
  H_0 : Hp
  env : Env
  outer : List Env
  stack : List Env
  ex : List Addr
  fn : Str → Bool
  calm : Bool
  pn : List (Addr × Obj)
  xe : Value → Shared → Prop
/-- the callers' frames -/
def frs (l : List Env) : List Addr := l.filterMap (·.frame)
abbrev Cx.fs (X : Cx) : List Addr := frs X.outer

def Vis (sc : Scope) (x : Str) : Prop := sc.names.lookup x = some .local ∨ sc.names.lookup x = some .cell ∨ sc.names.lookup x = some .free
def Loc (sc : Scope) (x : Str) : Prop := sc.names.lookup x = some .local ∨ sc.names.lookup x = some .cell
def Look (env : Env) (h : Heap) (m : Str → Option Value) (x : Str) (u : Value) : Prop :=
  (env.kindOf x = some .local ∧ m x = some u) ∨ ((env.kindOf x = some .cell ∨ env.kindOf x = some .free) ∧ ∃ c, env.cells.lookup x = some c ∧ h.IsCell c (some u))

structure Cx.Ok (X : Cx) : Prop where
  mod : Mod X.K X.mg X.base
  kind : X.env.scope.kind = .function
  glob : X.env.globals = mainGlobals
  blt : X.env.builtins = builtinsNs
  above : X.s_0.heap.objs.size ≤ X.env.locals
  inj : ∀ x y c, X.env.cells.lookup x = some c → X.env.cells.lookup y = some c → x = y
  has : ∀ x, (X.env.kindOf x = some .cell ∨ X.env.kindOf x = some .free) → ∃ c, X.env.cells.lookup x = some c
  cab : ∀ x c, X.fn x = true → X.env.cells.lookup x = some c → X.s_0.heap.objs.size ≤ c
  hd : X.calm = true → X.A.handled = none
  frames : X.A.frames = some X.stack
  stk : X.stack = X.outer ∨ (X.stack = X.env :: X.outer ∧ X.env.frame = some X.env.locals)
  exf : ∀ b ∈ X.ex, b ≠ X.env.locals ∧ ∀ x c, X.env.cells.lookup x = some c → c ≠ b
  bs : ∀ b o, X.base.get? b = some o → X.s_0.heap.get? b = some o ∧ X.H_0 b = none
  bsz : X.base.objs.size ≤ X.s_0.heap.objs.size
  noex : ∀ b o, X.base.get? b = some o → b ∉ X.ex
  exfs : ∀ b ∈ X.ex, b ∉ X.fs
  funs : X.s_0.heap.FunFrames X.base X.outer
  frf : ∀ b ∈ X.fs, X.H_0 b = none

structure Inv (X : Cx) (pins : List (Addr × Obj)) (σ : List (Option V)) (H : Hp) (s : Shared) : Prop where
  ok : X.Ok
  os : s.os = X.s_0.os
  bare : AllBare s.gens
  base : Un X.fs X.ex X.H_0 H X.s_0.heap s.heap
  loc : ∃ m, s.heap.Ns X.env.locals m ∧ ∀ (i : Nat) (x : Str) (v : V), X.N[i]? = some x → σ[i]? = some (some v) → Vis X.env.scope x → ∃ u, RelV v u ∧ Look X.env s.heap m x u
  cell : ∀ x c, X.env.cells.lookup x = some c → ∃ v, s.heap.IsCell c v
  free : H X.env.locals = none
  freeC : ∀ x c, X.env.cells.lookup x = some c → H c = none
  pin : ∀ p ∈ X.pn ++ pins, s.heap.get? p.1 = some p.2 ∧ H p.1 = none ∧ p.1 ≠ X.env.locals ∧ p.1 ∉ X.fs ∧ ∀ v, p.2.data ≠ .cell v
  hok : HOk X.prog X.w H s.heap
  len : σ.length = X.N.length

section
variable {X : Cx} {pins : List (Addr × Obj)} {σ : List (Option V)} {H H' : Hp} {s : Shared} {h' : Heap}

theorem Cx.Ok.nofr (ok : X.Ok) {b : Addr} {o : Obj} (e : X.base.get? b = some o) : b ∉ X.fs := fun hb => by
  have := (ok.funs.mem hb).1
  rw [e] at this; cases this
theorem Inv.bs (I : Inv X pins σ H s) : ∀ b o, X.base.get? b = some o → s.heap.get? b = some o ∧ H b = none := fun b o e =>
  ⟨I.base.keep b o (I.ok.bs b o e).1 (I.ok.bs b o e).2 (I.ok.nofr e) (I.ok.noex b o e), I.base.free b o (I.ok.bs b o e).1 (I.ok.bs b o e).2 (I.ok.noex b o e)⟩
theorem Inv.bk (I : Inv X pins σ H s) : ∀ b o, X.base.get? b = some o → s.heap.get? b = some o := fun b o e => (I.bs b o e).1
theorem Inv.mod (I : Inv X pins σ H s) : Mod X.K X.mg X.base := I.ok.mod
theorem Inv.kIn (I : Inv X pins σ H s) : X.K.In s.heap := I.ok.mod.kin.keeps I.bk
theorem Inv.nolimit (I : Inv X pins σ H s) : s.heap.NoLimit := I.ok.mod.nolimit.keeps I.bk
/-- the frame over the base: for OpenK's rules (K.In X.base is I.mod.kin) -/
theorem Inv.fr (I : Inv X pins σ H s) : ∃ m, Fr X.base X.env.locals s.heap m :=
  let ⟨m, hn, _⟩ := I.loc
  ⟨m, hn, I.bk, Nat.le_trans I.ok.bsz I.ok.above⟩
theorem Inv.lt (I : Inv X pins σ H s) : X.env.locals < s.heap.objs.size := let ⟨_, hn, _⟩ := I.loc; hn.lt
theorem Inv.sz (I : Inv X pins σ H s) : X.s_0.heap.objs.size ≤ s.heap.objs.size := Nat.le_trans I.ok.above (Nat.le_of_lt I.lt)
theorem Inv.nofs (I : Inv X pins σ H s) {a : Addr} (h : s.heap.objs.size ≤ a) : a ∉ X.fs := fun hb => by
  obtain ⟨_, o, ho, _⟩ := I.ok.funs.mem hb
  exact absurd (Nat.lt_of_lt_of_le (Heap.lt_size ho) (Nat.le_trans I.sz h)) (Nat.lt_irrefl _)
theorem Inv.cne (I : Inv X pins σ H s) : ∀ x c, X.env.cells.lookup x = some c → c ≠ X.env.locals := fun x c e z => by
  obtain ⟨v, o, ho, hd⟩ := I.cell x c e
  obtain ⟨m, ⟨o', es, ep, ho', hd', _⟩, _⟩ := I.loc
  rw [z, ho'] at ho; cases ho; rw [hd'] at hd; cases hd
theorem Inv.funs (I : Inv X pins σ H s) : s.heap.FunFrames X.base X.outer := by
  have all : ∀ (l : List Env), (∀ b ∈ frs l, b ∈ X.fs) → X.s_0.heap.FunFrames X.base l → s.heap.FunFrames X.base l := by
    intro l
    induction l with
    | nil => intro _ _; trivial
    | cons env r ih =>
      intro hs hl
      obtain ⟨hk, ⟨L, o, hf, hn, ho, hd⟩, hr⟩ := hl
      have hL : L ∈ X.fs := hs L (by unfold frs; rw [List.filterMap_cons, hf]; exact List.mem_cons_self)
      obtain ⟨sl, e⟩ := I.base.slot L o ho (I.ok.frf L hL) hL fun z => I.ok.exfs L z hL
      exact ⟨hk, ⟨L, _, hf, hn, e, hd⟩, ih (fun b hb => hs b (by unfold frs; rw [List.filterMap_cons, hf]; exact List.mem_cons_of_mem _ hb)) hr⟩
  exact all X.outer (fun _ hb => hb) I.ok.funs

/-- the frames that run, for a call -/
theorem Inv.stack (I : Inv X pins σ H s) : s.heap.FunFrames X.base X.stack := by
  rcases I.ok.stk with e | ⟨e, hf⟩
  · rw [e]; exact I.funs
  · rw [e]
    obtain ⟨m, hn, _⟩ := I.loc
    refine .cons (by rw [I.ok.kind]; decide) hf hn ?_ I.funs
    exact Heap.get?_none_of_le (Nat.le_trans I.ok.bsz I.ok.above)
theorem Inv.stkSub (I : Inv X pins σ H s) : ∀ b ∈ frs X.stack, b ∈ X.env.locals :: X.fs := fun b hb => by
  rcases I.ok.stk with e | ⟨e, hf⟩
  · rw [e] at hb; exact List.mem_cons_of_mem _ hb
  · rw [e] at hb
    unfold frs at hb
    rw [List.filterMap_cons, hf] at hb
    exact hb
theorem Inv.stkFree (I : Inv X pins σ H s) : ∀ b ∈ frs X.stack, H b = none := fun b hb => by
  rcases List.mem_cons.mp (I.stkSub b hb) with e | hb
  · rw [e]; exact I.free
  · obtain ⟨_, o, ho, _⟩ := I.ok.funs.mem hb
    exact I.base.free b o ho (I.ok.frf b hb) fun z => I.ok.exfs b z hb

/-- THE STEP: the untracked objects but the frame and the records at ch are kept (the callers' frames up to slots), the frame's map is kept, the new abstract heap is held -/
theorem Inv.step {g' : Array GenState} {t' : Nat} {d' : Drawn} {ch : List Addr} (I : Inv X pins σ H s)
    (hch : ∀ b ∈ ch, (b ∈ X.ex ∨ X.s_0.heap.objs.size ≤ b) ∧ b ≠ X.env.locals ∧ (∀ x c, X.env.cells.lookup x = some c → c ≠ b) ∧ ∀ p ∈ X.pn ++ pins, p.1 ≠ b)
    (keep : ∀ b o, b ≠ X.env.locals → b ∉ X.fs → b ∉ ch → s.heap.get? b = some o → H b = none → h'.get? b = some o)
    (slot : ∀ b o, b ≠ X.env.locals → b ∈ X.fs → b ∉ ch → s.heap.get? b = some o → H b = none → ∃ sl, h'.get? b = some { o with slots := sl }) (free : ∀ b o, b ∉ ch → s.heap.get? b = some o → H b = none → H' b = none)
    (there : ∀ b o, b ∉ ch → s.heap.get? b = some o → ∃ o', h'.get? b = some o')
    (tups : ∀ b xs, H b = some (.tup xs) → H' b = some (.tup xs)) (frzs : ∀ b o u, H b = some (.frz o u) → H' b = some (.frz o u)) (tbls : ∀ b ps, H b = some (.tbl ps) → ∃ more, H' b = some (.tbl (ps ++ more)))
    (ns : ∀ m, s.heap.Ns X.env.locals m → h'.Ns X.env.locals m) (hok : HOk X.prog X.w H' h') (hg : AllBare g') :
    Inv X pins σ H' { s with heap := h', gens := g', drawn := d', toks := t' } := by
  have neL : ∀ b o, X.s_0.heap.get? b = some o → b ≠ X.env.locals := fun b o e => Nat.ne_of_lt (Nat.lt_of_lt_of_le (Heap.lt_size e) I.ok.above)
  have neC : ∀ b o, X.s_0.heap.get? b = some o → b ∉ X.ex → b ∉ ch := fun b o e hx hb => by
    rcases (hch b hb).1 with z | z
    · exact hx z
    · exact absurd (Nat.lt_of_lt_of_le (Heap.lt_size e) z) (Nat.lt_irrefl _)
  have cellK : ∀ x c, X.env.cells.lookup x = some c → ∀ v, s.heap.IsCell c v → h'.IsCell c v := fun x c e v ⟨o, ho, hd⟩ => by
    have nch : c ∉ ch := fun z => (hch c z).2.2.1 x c e rfl
    by_cases hc : c ∈ X.fs
    · obtain ⟨sl, q⟩ := slot c o (I.cne x c e) hc nch ho (I.freeC x c e)
      exact ⟨_, q, hd⟩
    · exact ⟨o, keep c o (I.cne x c e) hc nch ho (I.freeC x c e), hd⟩
  refine ⟨I.ok, I.os, hg, ⟨fun b o e n hb hx => ?_, fun b o e n hb hx => ?_, fun b o e n hx => ?_, fun b o e hx => ?_, fun b xs e => tups b xs (I.base.tups b xs e), fun b o xs e => frzs b o xs (I.base.frzs b o xs e), fun b ps e => ?_⟩, ?_, fun x c e => ?_, ?_, fun x c e => ?_, fun p hp => ?_, hok, I.len⟩
  · exact keep b o (neL b o e) hb (neC b o e hx) (I.base.keep b o e n hb hx) (I.base.free b o e n hx)
  · obtain ⟨sl, e1⟩ := I.base.slot b o e n hb hx
    obtain ⟨sl', e2⟩ := slot b _ (neL b o e) hb (neC b o e hx) e1 (I.base.free b o e n hx)
    exact ⟨sl', e2⟩
  · obtain ⟨o', e1⟩ := I.base.there b o e hx
    exact free b o' (neC b o e hx) e1 (I.base.free b o e n hx)
  · obtain ⟨o', e1⟩ := I.base.there b o e hx
    exact there b o' (neC b o e hx) e1
  · obtain ⟨m1, e1⟩ := I.base.tbls b ps e
    obtain ⟨m2, e2⟩ := tbls b _ e1
    exact ⟨m1 ++ m2, by rw [e2, Array.append_assoc]⟩
  · obtain ⟨m, hn, hl⟩ := I.loc
    refine ⟨m, ns m hn, fun i x v e1 e2 e3 => ?_⟩
    obtain ⟨u, r, l⟩ := hl i x v e1 e2 e3
    refine ⟨u, r, ?_⟩
    rcases l with l | ⟨k, c, e, z⟩
    · exact .inl l
    · exact .inr ⟨k, c, e, cellK x c e _ z⟩
  · obtain ⟨v, z⟩ := I.cell x c e
    exact ⟨v, cellK x c e v z⟩
  · obtain ⟨m, ⟨o, _, _, ho, _⟩, _⟩ := I.loc
    exact free _ o (fun z => (hch _ z).2.1 rfl) ho I.free
  · obtain ⟨v, o, ho, hd⟩ := I.cell x c e
    exact free c o (fun z => (hch c z).2.2.1 x c e rfl) ho (I.freeC x c e)
  · obtain ⟨e, n, ne, nf, d⟩ := I.pin p hp
    have nch : p.1 ∉ ch := fun z => (hch p.1 z).2.2.2 p hp rfl
    exact ⟨keep p.1 p.2 ne nf nch e n, free p.1 p.2 nch e n, ne, nf, d⟩
/-- .. where the frame's own object is kept too -/
theorem Inv.un {t' : Nat} (I : Inv X pins σ H s) (u : Un X.fs [] H H' s.heap h') (hok : HOk X.prog X.w H' h') : Inv X pins σ H' { s with heap := h', toks := t' } := by
  obtain ⟨m, ⟨o, es, ep, ho, r⟩, _⟩ := id I.loc
  obtain ⟨sl, hL⟩ := u.any ho I.free (by simp)
  exact I.step (g' := s.gens) (d' := s.drawn) (ch := []) (fun _ z => nomatch z) (fun b o _ hb _ e n => u.keep b o e n hb (by simp)) (fun b o _ hb _ e n => u.slot b o e n hb (by simp)) (fun b o _ e n => u.free b o e n (by simp)) (fun b o _ e => u.there b o e (by simp)) u.tups u.frzs u.tbls (fun m' hm => by
    obtain ⟨o', es', ep', ho', r'⟩ := hm
    rw [ho] at ho'; cases ho'
    exact ⟨_, es', ep', hL, r'⟩) hok I.bare
/-- behind a call (or a comprehension's block): the slots of this frame may have changed too, the records at ch may have turned -/
theorem Inv.call {g' : Array GenState} {t' : Nat} {d' : Drawn} {ch : List Addr} (I : Inv X pins σ H s) (u : Un (frs X.stack) ch H H' s.heap h') (hok : HOk X.prog X.w H' h') (hg : AllBare g')
    (hch : ∀ b ∈ ch, (b ∈ X.ex ∨ X.s_0.heap.objs.size ≤ b) ∧ b ≠ X.env.locals ∧ (∀ x c, X.env.cells.lookup x = some c → c ≠ b) ∧ ∀ p ∈ X.pn ++ pins, p.1 ≠ b) :
    Inv X pins σ H' { s with heap := h', gens := g', drawn := d', toks := t' } := by
  obtain ⟨m, ⟨o, es, ep, ho, r⟩, _⟩ := id I.loc
  obtain ⟨sl, hL⟩ := u.any ho I.free fun z => (hch _ z).2.1 rfl
  exact I.step (ch := ch) hch (fun b o hL hb hc e n => u.keep b o e n (fun z => (List.mem_cons.mp (I.stkSub b z)).elim hL hb) hc) (fun b o _ _ hc e n => u.any e n hc) (fun b o hc e n => u.free b o e n hc) (fun b o hc e => u.there b o e hc) u.tups u.frzs u.tbls (fun m' hm => by
    obtain ⟨o', es', ep', ho', r'⟩ := hm
    rw [ho] at ho'; cases ho'
    exact ⟨_, es', ep', hL, r'⟩) hok hg
/-- an untracked record of ours (an iterator) has turned -/
theorem Inv.turned {t' : Nat} {it : Addr} (I : Inv X pins σ H s) (k : ∀ b o, b ≠ it → s.heap.get? b = some o → h'.get? b = some o) (hn : H it = none) (hL : it ≠ X.env.locals)
    (h1 : it ∈ X.ex ∨ X.s_0.heap.objs.size ≤ it) (h2 : ∀ x c, X.env.cells.lookup x = some c → c ≠ it) (h3 : ∀ p ∈ X.pn ++ pins, p.1 ≠ it) : Inv X pins σ H { s with heap := h', toks := t' } := by
  have nit : ∀ b u, H b = some u → b ≠ it := fun b u e z => by rw [z, hn] at e; cases e
  refine I.step (g' := s.gens) (d' := s.drawn) (ch := [it]) (fun b hb => ?_) (fun b o _ _ hc e _ => k b o (fun z => hc (by simp [z])) e) (fun b o _ _ hc e _ => ⟨o.slots, k b o (fun z => hc (by simp [z])) e⟩) (fun _ _ _ _ n => n)
    (fun b o hc e => ⟨o, k b o (fun z => hc (by simp [z])) e⟩) (fun _ _ e => e) (fun _ _ _ e => e) (fun b ps e => ⟨#[], by rw [e]; simp⟩) (fun m hm => ?_) (fun b u e => ?_) I.bare
  · have e : b = it := by simpa using hb
    subst e
    exact ⟨h1, hL, h2, h3⟩
  · obtain ⟨o, es, ep, ho, r⟩ := hm
    exact ⟨o, es, ep, k _ o (Ne.symm hL) ho, r⟩
  · refine (I.hok b u e).stay (fun c v hc q => k c v ?_ q) (fun _ q => q) fun _ _ q => q
    rcases hc with z | z
    · rw [z]; exact nit b u e
    · exact nit c _ z
theorem Inv.tok (I : Inv X pins σ H s) (t : Nat) : Inv X pins σ H { s with toks := t } := I.un (h' := s.heap) (t' := t) Un.refl I.hok
/-- all objects kept -/
theorem Inv.kept {t' : Nat} (I : Inv X pins σ H s) (k : ∀ b u, s.heap.get? b = some u → h'.get? b = some u) : Inv X pins σ H { s with heap := h', toks := t' } := I.un (Un.kept k) (I.hok.kept k)
/-- a new object laid and tracked -/
theorem Inv.laid {a : Addr} {o : HO} {t' : Nat} (I : Inv X pins σ H s) (k : ∀ b u, s.heap.get? b = some u → h'.get? b = some u) (hp : s.heap.objs.size ≤ a) (new : ObjOk X.prog X.w (upd H a o) h' a o) :
    Inv X pins σ (upd H a o) { s with heap := h', toks := t' } := I.un (Un.laid k hp (I.hok.fresh hp)) (I.hok.laid k hp new)
/-- an object written -/
theorem Inv.write {x e : Addr} {o : HO} {t' : Nat} (I : Inv X pins σ H s) (mu : Mut (H x)) (he : e = x ∨ H e = some (.own x)) (k : ∀ b u, b ≠ e → s.heap.get? b = some u → h'.get? b = some u) (heo : ∃ u, h'.get? e = some u)
    (new : ObjOk X.prog X.w (upd H x o) h' x o) : Inv X pins σ (upd H x o) { s with heap := h', toks := t' } := I.un (Un.write mu he k heo) (I.hok.write mu he k heo new)
/-- forgetting slots, pins -/
theorem Inv.weak {σ' : List (Option V)} (I : Inv X pins σ H s) (hl : σ'.length = σ.length) (w : ∀ (i : Nat) v, σ'[i]? = some (some v) → σ[i]? = some (some v)) : Inv X pins σ' H s :=
  ⟨I.ok, I.os, I.bare, I.base, let ⟨m, hn, hl'⟩ := I.loc; ⟨m, hn, fun i x v e1 e2 e3 => hl' i x v e1 (w i v e2) e3⟩, I.cell, I.free, I.freeC, I.pin, I.hok, hl.trans I.len⟩
theorem Inv.pins_of {pins' : List (Addr × Obj)} (I : Inv X pins σ H s) (h : ∀ p ∈ pins', s.heap.get? p.1 = some p.2 ∧ H p.1 = none ∧ p.1 ≠ X.env.locals ∧ p.1 ∉ X.fs ∧ ∀ v, p.2.data ≠ .cell v) : Inv X pins' σ H s :=
  ⟨I.ok, I.os, I.bare, I.base, I.loc, I.cell, I.free, I.freeC, fun p hp => (List.mem_append.mp hp).elim (fun z => I.pin p (List.mem_append_left _ z)) (h p), I.hok, I.len⟩

theorem nodup_ix {N : List Str} (hN : N.Nodup) {i j : Nat} {x : Str} (a : N[i]? = some x) (b : N[j]? = some x) : i = j := by
  obtain ⟨h1, e1⟩ := List.getElem?_eq_some_iff.mp a
  obtain ⟨h2, e2⟩ := List.getElem?_eq_some_iff.mp b
  exact (List.getElem_inj hN).mp (e1.trans e2.symm)

/-- a name is stored; what changed -/
theorem store_ok2 {M : Model} {A : Around} {E : Value → Shared → Prop} {i : Nat} {x : Str} {v : V} {u : Value} {Q : Unit → Shared → Prop} (I : Inv X pins σ H s) (hN : X.N.Nodup) (hi : X.N[i]? = some x) (hx : Loc X.env.scope x) (r : RelV v u)
    (h : ∀ s', Inv X pins (σ.set i (some v)) H s' → (∃ a, Heap.SameBut a s.heap s'.heap ∧ (a = X.env.locals ∨ X.env.cells.lookup x = some a)) → Q () s') (hf : X.fn x = true ∨ X.env.scope.names.lookup x = some .local := by first | exact .inl rfl | exact .inr rfl | assumption) : wpAny M A (storeName X.env x u) Q E s := by
  obtain ⟨m, hn, hl⟩ := id I.loc
  have hcls : (X.env.scope.kind == .class || (X.env.scope.kind == .module && X.env.locals != X.env.globals)) = false := by rw [I.ok.kind]; rfl
  have hiσ : i < σ.length := by rw [I.len]; exact (List.getElem?_eq_some_iff.mp hi).1
  have cne := I.cne
  have tracked : ∀ {a : Addr} {h' : Heap}, (∃ o, s.heap.get? a = some o ∧ H a = none) → Heap.SameBut a s.heap h' → HOk X.prog X.w H h' := fun {a h'} ha hs b ob e => by
    obtain ⟨_, _, hfree⟩ := ha
    refine (I.hok b ob e).stay (fun c w' hc q => (hs.2 c ?_).trans q) (fun _ q => q) fun _ _ q => q
    rintro rfl
    rcases hc with rfl | hc
    · rw [hfree] at e; cases e
    · rw [hfree] at hc; cases hc
  rcases hx with hk | hk
  · refine wpAny_storeName_local hk hn (fun h' hn' hs => ?_) hcls
    obtain ⟨oL, _, _, hoL, _⟩ := id hn
    refine h _ ⟨I.ok, I.os, I.bare, ⟨fun b o e n hb hx => ?_, fun b o e n hb hx => ?_, I.base.free, fun b o e hx => ?_, I.base.tups, I.base.frzs, I.base.tbls⟩, ⟨_, hn', fun j y v' e1 e2 e3 => ?_⟩, fun y c e => ?_, I.free, I.freeC, fun p hp => ?_, tracked ⟨oL, hoL, I.free⟩ hs, by simpa using I.len⟩ ⟨_, hs, .inl rfl⟩
    · exact (hs.2 b (Nat.ne_of_lt (Nat.lt_of_lt_of_le (Heap.lt_size e) I.ok.above))).trans (I.base.keep b o e n hb hx)
    · obtain ⟨sl, e1⟩ := I.base.slot b o e n hb hx
      exact ⟨sl, (hs.2 b (Nat.ne_of_lt (Nat.lt_of_lt_of_le (Heap.lt_size e) I.ok.above))).trans e1⟩
    · obtain ⟨o', e1⟩ := I.base.there b o e hx
      exact ⟨o', (hs.2 b (Nat.ne_of_lt (Nat.lt_of_lt_of_le (Heap.lt_size e) I.ok.above))).trans e1⟩
    · by_cases hj : j = i
      · subst hj
        rw [hi] at e1; cases e1
        rw [List.getElem?_set_self hiσ] at e2
        cases e2
        exact ⟨u, r, .inl ⟨hk, by simp⟩⟩
      · rw [List.getElem?_set_ne (Ne.symm hj)] at e2
        obtain ⟨u', r', q⟩ := hl j y v' e1 e2 e3
        refine ⟨u', r', ?_⟩
        rcases q with ⟨k, e⟩ | ⟨k, c, e, z⟩
        · refine .inl ⟨k, ?_⟩
          have : y ≠ x := fun e => hj (nodup_ix hN e1 (e ▸ hi))
          simp [this, e]
        · exact .inr ⟨k, c, e, z.sameBut hs (cne y c e)⟩
    · obtain ⟨w', z⟩ := I.cell y c e
      exact ⟨w', z.sameBut hs (cne y c e)⟩
    · obtain ⟨e, n, ne, nf, d⟩ := I.pin p hp
      exact ⟨(hs.2 p.1 ne).trans e, n, ne, nf, d⟩
  · have hfn : X.fn x = true := by
      rcases hf with z | z
      · exact z
      · rw [z] at hk; cases hk
    obtain ⟨c, hc⟩ := I.ok.has x (.inl hk)
    obtain ⟨w', z⟩ := I.cell x c hc
    refine wpAny_storeName_cell I.ok.kind hk hc z (fun h' hc' hs => ?_)
    obtain ⟨oc, hoc, hocd⟩ := id z
    refine h { s with heap := h' } ⟨I.ok, I.os, I.bare, ⟨fun b o e n hb hx => ?_, fun b o e n hb hx => ?_, I.base.free, fun b o e hx => ?_, I.base.tups, I.base.frzs, I.base.tbls⟩, ⟨m, hn.sameBut hs (Ne.symm (cne x c hc)), fun j y v' e1 e2 e3 => ?_⟩, fun y c' e => ?_, I.free, I.freeC, fun p hp => ?_, tracked ⟨oc, hoc, I.freeC x c hc⟩ hs, by simpa using I.len⟩ ⟨c, hs, .inr hc⟩
    · exact (hs.2 b (Nat.ne_of_lt (Nat.lt_of_lt_of_le (Heap.lt_size e) (I.ok.cab x c hfn hc)))).trans (I.base.keep b o e n hb hx)
    · obtain ⟨sl, e1⟩ := I.base.slot b o e n hb hx
      exact ⟨sl, (hs.2 b (Nat.ne_of_lt (Nat.lt_of_lt_of_le (Heap.lt_size e) (I.ok.cab x c hfn hc)))).trans e1⟩
    · obtain ⟨o', e1⟩ := I.base.there b o e hx
      exact ⟨o', (hs.2 b (Nat.ne_of_lt (Nat.lt_of_lt_of_le (Heap.lt_size e) (I.ok.cab x c hfn hc)))).trans e1⟩
    · by_cases hj : j = i
      · subst hj
        rw [hi] at e1; cases e1
        rw [List.getElem?_set_self hiσ] at e2
        cases e2
        exact ⟨u, r, .inr ⟨.inl hk, c, hc, hc'⟩⟩
      · rw [List.getElem?_set_ne (Ne.symm hj)] at e2
        obtain ⟨u', r', q⟩ := hl j y v' e1 e2 e3
        refine ⟨u', r', ?_⟩
        rcases q with q | ⟨k, c', e, z'⟩
        · exact .inl q
        · refine .inr ⟨k, c', e, z'.sameBut hs ?_⟩
          rintro rfl
          exact hj (nodup_ix hN e1 (I.ok.inj _ _ _ e hc ▸ hi))
    · by_cases hcc : c' = c
      · subst hcc; exact ⟨_, hc'⟩
      · obtain ⟨w2, z2⟩ := I.cell y c' e
        exact ⟨w2, z2.sameBut hs hcc⟩
    · obtain ⟨e, n, ne, nf, d⟩ := I.pin p hp
      refine ⟨(hs.2 p.1 ?_).trans e, n, ne, nf, d⟩
      intro q
      rw [q, hoc] at e
      have q' : oc = p.2 := Option.some.inj e
      exact d w' (by rw [← q']; exact hocd)
theorem store_ok {M : Model} {A : Around} {E : Value → Shared → Prop} {i : Nat} {x : Str} {v : V} {u : Value} {Q : Unit → Shared → Prop} (I : Inv X pins σ H s) (hN : X.N.Nodup) (hi : X.N[i]? = some x) (hx : Loc X.env.scope x) (r : RelV v u)
    (h : ∀ s', Inv X pins (σ.set i (some v)) H s' → Q () s') (hf : X.fn x = true ∨ X.env.scope.names.lookup x = some .local := by first | exact .inl rfl | exact .inr rfl | assumption) : wpAny M A (storeName X.env x u) Q E s :=
  store_ok2 I hN hi hx r (fun s' I' _ => h s' I') hf
/-- behind a call or a block, the state as it is -/
theorem Inv.call' {s' : Shared} {ch : List Addr} (I : Inv X pins σ H s) (ho : s'.os = s.os) (u : Un (frs X.stack) ch H H' s.heap s'.heap) (hok : HOk X.prog X.w H' s'.heap) (hg : AllBare s'.gens)
    (hch : ∀ b ∈ ch, (b ∈ X.ex ∨ X.s_0.heap.objs.size ≤ b) ∧ b ≠ X.env.locals ∧ (∀ x c, X.env.cells.lookup x = some c → c ≠ b) ∧ ∀ p ∈ X.pn ++ pins, p.1 ≠ b) : Inv X pins σ H' s' := by
  obtain ⟨h', g', d', t', o'⟩ := s'
  have e : o' = s.os := ho
  subst e
  exact I.call (g' := g') (t' := t') (d' := d') u hok hg hch
end

/-! ### the judgements -/
/-- an exception: its class, its own dict's address (where it has one), the abstract heap behind it -/
abbrev XK := Value → Option Addr → Hp → Prop
abbrev St := List (Option V)
abbrev VK := V → Hp → Prop
/-- an expression's reading; a test's; an argument list's -/
abbrev TE := St → Hp → VK → Prop
abbrev TT := St → Hp → (Bool → Hp → Prop) → Prop
abbrev TA := St → Hp → (List V → Hp → Prop) → Prop
/-- what is wanted behind a statement -/
structure Ends where
  nx : St → Hp → Prop
  rt : VK
  bk : St → Hp → Prop := fun _ _ => False
  ct : St → Hp → Prop := fun _ _ => False
abbrev TS := Ends → St → Hp → Prop

def EP (X : Cx) (pins : List (Addr × Obj)) (σ : St) (Q : VK) (u : Value) (s' : Shared) : Prop := ∃ v H', Inv X pins σ H' s' ∧ RelV v u ∧ Q v H'
def TP (X : Cx) (pins : List (Addr × Obj)) (σ : St) (Q : Bool → Hp → Prop) (b : Bool) (s' : Shared) : Prop := ∃ H', Inv X pins σ H' s' ∧ Q b H'
def AP (X : Cx) (pins : List (Addr × Obj)) (σ : St) (Q : List V → Hp → Prop) (us : List Value) (s' : Shared) : Prop := ∃ vs H', Inv X pins σ H' s' ∧ Vals vs us ∧ Q vs H'
def SP (X : Cx) (pins : List (Addr × Obj)) (D : Ends) (f : Flow) (s' : Shared) : Prop :=
  match f with
  | .next => ∃ σ' H', Inv X pins σ' H' s' ∧ D.nx σ' H'
  | .brk => ∃ σ' H', Inv X pins σ' H' s' ∧ D.bk σ' H'
  | .cont => ∃ σ' H', Inv X pins σ' H' s' ∧ D.ct σ' H'
  | .ret u => ∃ v σ' H', Inv X pins σ' H' s' ∧ RelV v u ∧ D.rt v H'

def PE (X : Cx) (e : Expr) (t : TE) : Prop :=
  ∀ (pins : List (Addr × Obj)) (s : Shared) (σ : St) (H : Hp) (Q : VK), Inv X pins σ H s → t σ H Q → wpAny (model X.prog X.w) X.A (eval e X.env) (EP X pins σ Q) X.xe s
def PT (X : Cx) (e : Expr) (t : TT) : Prop :=
  ∀ (pins : List (Addr × Obj)) (s : Shared) (σ : St) (H : Hp) (Q : Bool → Hp → Prop), Inv X pins σ H s → t σ H Q → wpAny (model X.prog X.w) X.A (isTrue e X.env (eval e X.env)) (TP X pins σ Q) X.xe s
/-- a test whatever its 'whole' is (and, or) -/
def PW (X : Cx) (e : Expr) (t : TT) : Prop :=
  ∀ (whole : Sem Value) (pins : List (Addr × Obj)) (s : Shared) (σ : St) (H : Hp) (Q : Bool → Hp → Prop), Inv X pins σ H s → t σ H Q → wpAny (model X.prog X.w) X.A (isTrue e X.env whole) (TP X pins σ Q) X.xe s
theorem PW.pt {X : Cx} {e : Expr} {t : TT} (h : PW X e t) : PT X e t := h _
/-- an argument list (no star), from the left -/
def PA (X : Cx) (es : List Expr) (t : TA) : Prop :=
  ∀ (pos : Pos) (pins : List (Addr × Obj)) (s : Shared) (σ : St) (H : Hp) (Q : List V → Hp → Prop), Inv X pins σ H s → t σ H Q → wpAny (model X.prog X.w) X.A (spliced (backTo pos (starEach es X.env))) (AP X pins σ Q) X.xe s
def PS (X : Cx) (st : Stmt) (t : TS) : Prop :=
  ∀ (pins : List (Addr × Obj)) (s : Shared) (σ : St) (H : Hp) (D : Ends), Inv X pins σ H s → t D σ H → wpAny (model X.prog X.w) X.A (exec st X.env) (SP X pins D) X.xe s
def PSs (X : Cx) (st : List Stmt) (t : TS) : Prop :=
  ∀ (pins : List (Addr × Obj)) (s : Shared) (σ : St) (H : Hp) (D : Ends), Inv X pins σ H s → t D σ H → wpAny (model X.prog X.w) X.A (execs st X.env) (SP X pins D) X.xe s
/-- weaken the end -/
theorem thn {α : Type} {t : Sem α} {Q Q' : α → Shared → Prop} {M : Model} {A : Around} {E : Value → Shared → Prop} {s : Shared} (h : wpAny M A t Q E s) (hQ : ∀ a s, Q a s → Q' a s) : wpAny M A t Q' E s := wpAny_mono h hQ fun _ _ x => x
end L2

namespace L2
open PySem PySem.Spec PyProof.Rows
section
variable {X : Cx}

/-- two expressions in a row -/
theorem bin {a b : Expr} {ta tb : TE} (ha : PE X a ta) (hb : PE X b tb) {pins : List (Addr × Obj)} {s : Shared} {σ : St} {H : Hp} {R : V → V → Hp → Prop} (I : Inv X pins σ H s) (h : ta σ H fun x H1 => tb σ H1 fun y H2 => R x y H2)
    {α : Type} {Q : α → Shared → Prop} {f : Value → Value → Sem α}
    (hf : ∀ v u s2 x y H2, Inv X pins σ H2 s2 → RelV x v → RelV y u → R x y H2 → wpAny (model X.prog X.w) X.A (f v u) Q X.xe s2) :
    wpAny (model X.prog X.w) X.A (eval a X.env) (fun v s₁ => wpAny (model X.prog X.w) X.A (eval b X.env) (fun u s₂ => wpAny (model X.prog X.w) X.A (f v u) Q X.xe s₂) X.xe s₁) X.xe s := by
  refine thn (ha pins s σ H _ I h) fun v s1 ⟨x, H1, I1, r1, q1⟩ => ?_
  refine thn (hb pins s1 σ H1 _ I1 q1) fun u s2 ⟨y, H2, I2, r2, q2⟩ => ?_
  exact hf v u s2 x y H2 I2 r1 r2 q2

/-! ### names and constants -/
def tVar (i : Nat) : TE := fun σ H Q => ∃ v, σ[i]? = some (some v) ∧ Q v H
def tC (v : V) : TE := fun _ H Q => Q v H
theorem pe_var {i : Nat} {x : Str} {pos : Pos} (hN : X.N[i]? = some x) (hv : Vis X.env.scope x) (hd : (x == ("__debug__" : Str)) = false := by decide) (hcd : (x == ("__classdict__" : Str)) = false := by decide) : PE X (.Name x pos) (tVar i) := by
  intro pins s σ H Q I h
  obtain ⟨v, e, h⟩ := h
  obtain ⟨m, hn, hl⟩ := I.loc
  obtain ⟨u, r, l⟩ := hl i x v hN e hv
  have fin : EP X pins σ Q u s := ⟨v, H, I, r, h⟩
  rcases l with ⟨hk, hm⟩ | ⟨hk, c, hc, hcell⟩
  · exact wpAny_Name (wpAny_loadName_local I.ok.kind hk hn hm fin) hd
  · rcases hk with hk | hk
    · exact wpAny_Name (wpAny_loadName_cell I.ok.kind hk hc hcell fin) hd
    · exact wpAny_Name (wpAny_loadName_free I.ok.kind hk hc hcell fin hcd) hd
theorem pe_int {i j pos} : PE X (.Constant (.int i) j pos) (tC (.int i)) := fun _ _ _ H _ I h => wpAny_Constant_int ⟨.int i, H, I.tok _, ⟨_, rfl⟩, h⟩
theorem pe_bl {b j pos} : PE X (.Constant (.bool b) j pos) (tC (.bl b)) := fun _ _ _ H _ I h => Constant_bool ⟨.bl b, H, I, rfl, h⟩
theorem pe_non {j pos} : PE X (.Constant .none j pos) (tC .non) := fun _ _ _ H _ I h => Constant_none ⟨.non, H, I, rfl, h⟩
theorem pe_str {x j pos} : PE X (.Constant (.str x) j pos) (tC (.str x)) := fun _ _ _ H _ I h => Calls.Constant_str ⟨.str x, H, I.tok _, ⟨_, rfl⟩, h⟩

/-- a global name of the def -/
def Gl (X : Cx) (x : Str) : Prop := X.env.kindOf x = some .globalImplicit
theorem ld_glob {E : Value → Shared → Prop} {pins : List (Addr × Obj)} {s : Shared} {σ : St} {H : Hp} {x : Str} {u : Value} {pos : Pos} {Q : Value → Shared → Prop} (I : Inv X pins σ H s) (hg : Gl X x) (hm : X.mg x = some u) (h : Q u s)
    (hd : (x == ("__debug__" : Str)) = false := by decide) : wpAny (model X.prog X.w) X.A (eval (.Name x pos) X.env) Q E s :=
  Calls.Name_function_global I.ok.kind hg (Calls.loadGlobal_global (by rw [I.ok.glob]; exact I.mod.glob.keeps I.bk) hm h) hd
theorem ld_blt {E : Value → Shared → Prop} {pins : List (Addr × Obj)} {s : Shared} {σ : St} {H : Hp} {x : Str} {u : Value} {pos : Pos} {Q : Value → Shared → Prop} (I : Inv X pins σ H s) (hg : Gl X x) (hm : X.mg x = none) (hv : bootBuiltins x = some u) (h : Q u s)
    (hn : x ≠ "__name__" := by decide) (hd : (x == ("__debug__" : Str)) = false := by decide) : wpAny (model X.prog X.w) X.A (eval (.Name x pos) X.env) Q E s := by
  obtain ⟨mb, h1, h2⟩ := I.mod.blt
  exact Calls.Name_function_global I.ok.kind hg (Calls.loadGlobal_builtin (by rw [I.ok.glob]; exact I.mod.glob.keeps I.bk) hm (by rw [I.ok.blt]; exact h1.keeps I.bk) ((h2 x hn).trans hv) h) hd
/-- a module's constant, a class, a function, as a value -/
theorem pe_glob {x : Str} {v : V} {u : Value} {pos : Pos} (hg : Gl X x) (hm : X.mg x = some u) (r : RelV v u) (hd : (x == ("__debug__" : Str)) = false := by decide) : PE X (.Name x pos) (tC v) :=
  fun _ _ _ H _ I h => ld_glob I hg hm ⟨v, H, I, r, h⟩ hd
theorem pe_bltn {x : Str} {v : V} {u : Value} {pos : Pos} (hg : Gl X x) (hm : X.mg x = none) (hv : bootBuiltins x = some u) (r : RelV v u) (hn : x ≠ "__name__" := by decide) (hd : (x == ("__debug__" : Str)) = false := by decide) : PE X (.Name x pos) (tC v) :=
  fun _ _ _ H _ I h => ld_blt I hg hm hv ⟨v, H, I, r, h⟩ hn hd

/-! ### arithmetic -/
/-- two ints -/
def t2I (ta tb : TE) (k : Int → Int → Hp → Prop) : St → Hp → Prop := fun σ H => ta σ H fun x H1 => tb σ H1 fun y H2 => ∃ i j, x = .int i ∧ y = .int j ∧ k i j H2
def tAdd (ta tb : TE) : TE := fun σ H Q => t2I ta tb (fun i j H2 => Q (.int (i + j)) H2) σ H
def tSub (ta tb : TE) : TE := fun σ H Q => t2I ta tb (fun i j H2 => Q (.int (i - j)) H2) σ H
/-- the left factor below 2^64 -/
def tMul (ta tb : TE) : TE := fun σ H Q => t2I ta tb (fun i j H2 => (-(2 ^ 64) < i ∧ i < 2 ^ 64) ∧ Q (.int (i * j)) H2) σ H
variable {a b : Expr} {ta tb : TE} {pos : Pos}
theorem pe_add (ha : PE X a ta) (hb : PE X b tb) : PE X (.BinOp a .Add b pos) (tAdd ta tb) := by
  intro pins s σ H Q I h
  refine wpAny_BinOp (bin ha hb I h fun v u s2 x y H2 I2 rx ry q => ?_)
  obtain ⟨i, j, rfl, rfl, q⟩ := q
  obtain ⟨t, rfl⟩ := rx
  obtain ⟨t', rfl⟩ := ry
  exact add_int ⟨.int _, H2, I2.tok _, ⟨_, rfl⟩, q⟩
theorem pe_sub (ha : PE X a ta) (hb : PE X b tb) : PE X (.BinOp a .Sub b pos) (tSub ta tb) := by
  intro pins s σ H Q I h
  refine wpAny_BinOp (bin ha hb I h fun v u s2 x y H2 I2 rx ry q => ?_)
  obtain ⟨i, j, rfl, rfl, q⟩ := q
  obtain ⟨t, rfl⟩ := rx
  obtain ⟨t', rfl⟩ := ry
  exact sub_int ⟨.int _, H2, I2.tok _, ⟨_, rfl⟩, q⟩
theorem pe_mul (ha : PE X a ta) (hb : PE X b tb) : PE X (.BinOp a .Mult b pos) (tMul ta tb) := by
  intro pins s σ H Q I h
  refine wpAny_BinOp (bin ha hb I h fun v u s2 x y H2 I2 rx ry q => ?_)
  obtain ⟨i, j, rfl, rfl, ⟨q1, q2⟩, q⟩ := q
  obtain ⟨t, rfl⟩ := rx
  obtain ⟨t', rfl⟩ := ry
  exact mul_int ⟨.int _, H2, I2.tok _, ⟨_, rfl⟩, q⟩ (.of_left (intBits_le_64 q1 q2))

/-! ### comparisons -/
def PC (X : Cx) (op : CmpOp) (a b : Expr) (t : TE) : Prop :=
  ∀ (pins : List (Addr × Obj)) (s : Shared) (σ : St) (H : Hp) (Q : VK), Inv X pins σ H s → t σ H Q →
    wpAny (model X.prog X.w) X.A (eval a X.env) (fun v s₁ => wpAny (model X.prog X.w) X.A (eval b X.env) (fun u s₂ => wpAny (model X.prog X.w) X.A (compareOp op v u) (EP X pins σ Q) X.xe s₂) X.xe s₁) X.xe s
theorem nobehind (b : Expr) {op : CmpOp} (h : op ≠ .In) (h2 : op ≠ .NotIn) : behindInMarks op b = false := by
  have e1 : (op == CmpOp.In) = false := by cases op <;> first | rfl | exact absurd rfl h
  have e2 : (op == CmpOp.NotIn) = false := by cases op <;> first | rfl | exact absurd rfl h2
  cases b <;> simp [behindInMarks, e1, e2]
def tCmp (p : Int → Int → Bool) (ta tb : TE) : TE := fun σ H Q => t2I ta tb (fun i j H2 => Q (.bl (p i j)) H2) σ H
abbrev tLt : TE → TE → TE := tCmp fun i j => decide (i < j)
abbrev tLe : TE → TE → TE := tCmp fun i j => decide (i ≤ j)
abbrev tGt : TE → TE → TE := tCmp fun i j => decide (j < i)
abbrev tGe : TE → TE → TE := tCmp fun i j => decide (j ≤ i)
abbrev tEqI : TE → TE → TE := tCmp fun i j => decide (i = j)
abbrev tNeI : TE → TE → TE := tCmp fun i j => !decide (i = j)
/-- a comparison of two ints, by its rule -/
theorem pc_int {op : CmpOp} {p : Int → Int → Bool} (ha : PE X a ta) (hb : PE X b tb)
    (rule : ∀ (i j : Int) (t u : Tok) (Q : Value → Shared → Prop) (s : Shared), Q (.bool (p i j)) s → wpAny (model X.prog X.w) X.A (compareOp op (.int i t) (.int j u)) Q X.xe s) : PC X op a b (tCmp p ta tb) := by
  intro pins s σ H Q I h
  refine bin ha hb I h fun v u s2 x y H2 I2 rx ry q => ?_
  obtain ⟨i, j, rfl, rfl, q⟩ := q
  obtain ⟨t, rfl⟩ := rx
  obtain ⟨t', rfl⟩ := ry
  exact rule i j t t' _ s2 ⟨.bl _, H2, I2, rfl, q⟩
theorem pc_lt (ha : PE X a ta) (hb : PE X b tb) : PC X .Lt a b (tLt ta tb) := pc_int ha hb fun _ _ _ _ _ _ h => lt_int h
theorem pc_le (ha : PE X a ta) (hb : PE X b tb) : PC X .LtE a b (tLe ta tb) := pc_int ha hb fun _ _ _ _ _ _ h => le_int h
theorem pc_gt (ha : PE X a ta) (hb : PE X b tb) : PC X .Gt a b (tGt ta tb) := pc_int ha hb fun _ _ _ _ _ _ h => gt_int h
theorem pc_ge (ha : PE X a ta) (hb : PE X b tb) : PC X .GtE a b (tGe ta tb) := pc_int ha hb fun _ _ _ _ _ _ h => ge_int h
theorem pc_eqI (ha : PE X a ta) (hb : PE X b tb) : PC X .Eq a b (tEqI ta tb) := pc_int ha hb fun _ _ _ _ _ _ h => eq_int (by rw [Bool.beq_eq_decide_eq]; exact h)
theorem pc_neI (ha : PE X a ta) (hb : PE X b tb) : PC X .NotEq a b (tNeI ta tb) := pc_int ha hb fun _ _ _ _ _ _ h => ne_int (by rw [bne, Bool.beq_eq_decide_eq]; exact h)
/-- is None -/
def tIsN (ta : TE) : TE := fun σ H Q => ta σ H fun x H1 => Q (.bl (decide (x = .non))) H1
def tNotN (ta : TE) : TE := fun σ H Q => ta σ H fun x H1 => Q (.bl (!decide (x = .non))) H1
theorem RelV.none_iff {x : V} {v : Value} (r : RelV x v) : (v == Value.none) = decide (x = .non) := by
  cases x with
  | non => cases r; rfl
  | bl _ => cases r; rfl
  | int _ => obtain ⟨t, rfl⟩ := r; rfl
  | str _ => obtain ⟨t, rfl⟩ := r; rfl
  | byt _ => obtain ⟨t, rfl⟩ := r; rfl
  | flt _ => obtain ⟨t, rfl⟩ := r; rfl
  | ref _ => cases r; rfl
  | ty _ => cases r; rfl
theorem pc_isN {j pos'} (ha : PE X a ta) : PC X .Is a (.Constant .none j pos') (tIsN ta) := by
  intro pins s σ H Q I h
  refine thn (ha pins s σ H _ I h) fun v s1 ⟨x, H1, I1, r1, q1⟩ => ?_
  exact Constant_none (is_none_gen ⟨.bl _, H1, I1, by rw [r1.none_iff]; rfl, q1⟩)
theorem pc_notN {j pos'} (ha : PE X a ta) : PC X .IsNot a (.Constant .none j pos') (tNotN ta) := by
  intro pins s σ H Q I h
  refine thn (ha pins s σ H _ I h) fun v s1 ⟨x, H1, I1, r1, q1⟩ => ?_
  exact Constant_none (isnot_none_gen ⟨.bl _, H1, I1, by rw [r1.none_iff]; rfl, q1⟩)
/-- a comparison as a value, as a test -/
def tB (t : TE) : TT := fun σ H Q => t σ H fun x H1 => ∃ c, x = .bl c ∧ Q c H1
theorem pe_cmp {op : CmpOp} {t : TE} (h : PC X op a b t) (h1 : behindInMarks op b = false := by first | exact nobehind _ (by decide) (by decide) | rfl) : PE X (.Compare a [op] [b] pos) t := fun pins s σ H Q I hw => wpAny_Compare1 (h pins s σ H Q I hw) h1
theorem pt_cmp {op : CmpOp} {t : TE} (h : PC X op a b t) (h1 : behindInMarks op b = false := by first | exact nobehind _ (by decide) (by decide) | rfl) : PT X (.Compare a [op] [b] pos) (tB t) := by
  intro pins s σ H Q I hw
  refine wpAny_isTrue_Compare1 (thn (h pins s σ H _ I hw) fun v s1 h1 => thn h1 fun u s2 h2 => thn h2 fun c s3 ⟨x, H1, I1, r1, q1⟩ => ?_) h1
  obtain ⟨d, rfl, q⟩ := q1
  cases r1
  exact wpAny_truthy_bool ⟨H1, I1, q⟩
/-- an expression whose value is a bool, as a test -/
theorem pt_val {e : Expr} {t : TE} (h : PE X e t) (he : ∀ whole, isTrue e X.env whole = (do let v ← whole; standAt e.pos; holding [v] (truthy v)) := by intro _; rfl) : PT X e (tB t) := by
  intro pins s σ H Q I hw
  refine isTrue_plain (thn (h pins s σ H _ I hw) fun v s1 ⟨x, H1, I1, r1, q1⟩ => ?_) (he _)
  obtain ⟨d, rfl, q⟩ := q1
  cases r1
  exact wpAny_truthy_bool ⟨H1, I1, q⟩

/-! ### and, or, not -/
variable {tA tB' : TT} {rest : List Expr}
def tAnd (t u : TT) : TT := fun σ H Q => t σ H fun c H1 => if c = true then u σ H1 Q else Q false H1
def tOr (t u : TT) : TT := fun σ H Q => t σ H fun c H1 => if c = true then Q true H1 else u σ H1 Q
def tNot (t : TT) : TT := fun σ H Q => t σ H fun c H1 => Q (!c) H1
theorem pw_and1 (ha : PT X a tA) : PW X (.BoolOp .And [a] pos) tA := by
  intro wh pins s σ H Q I h
  refine isTrue_and (thn (ha pins s σ H Q I h) fun c s1 e => ?_)
  cases c with
  | true => exact isTrue_and_nil e
  | false => exact e
theorem pw_or1 (ha : PT X a tA) : PW X (.BoolOp .Or [a] pos) tA := by
  intro wh pins s σ H Q I h
  refine isTrue_or (thn (ha pins s σ H Q I h) fun c s1 e => ?_)
  cases c with
  | false => exact isTrue_or_nil e
  | true => exact e
theorem pw_and (ha : PT X a tA) (hb : PW X (.BoolOp .And (b :: rest) pos) tB') : PW X (.BoolOp .And (a :: b :: rest) pos) (tAnd tA tB') := by
  intro wh pins s σ H Q I h
  refine isTrue_and (thn (ha pins s σ H _ I h) fun c s1 ⟨H1, I1, q1⟩ => ?_)
  cases c with
  | true => exact hb wh pins s1 σ H1 Q I1 q1
  | false => exact ⟨H1, I1, q1⟩
theorem pw_or (ha : PT X a tA) (hb : PW X (.BoolOp .Or (b :: rest) pos) tB') : PW X (.BoolOp .Or (a :: b :: rest) pos) (tOr tA tB') := by
  intro wh pins s σ H Q I h
  refine isTrue_or (thn (ha pins s σ H _ I h) fun c s1 ⟨H1, I1, q1⟩ => ?_)
  cases c with
  | true => exact ⟨H1, I1, q1⟩
  | false => exact hb wh pins s1 σ H1 Q I1 q1
theorem pt_not (ha : PT X a tA) : PT X (.UnaryOp .Not a pos) (tNot tA) := by
  intro pins s σ H Q I h
  exact isTrue_not (ha pins s σ H (fun c H1 => Q (!c) H1) I h)
/-- .. as values (bools) -/
def tAndV (ta tb : TE) : TE := fun σ H Q => ta σ H fun x H1 => ∃ c, x = .bl c ∧ if c = true then tb σ H1 Q else Q (.bl false) H1
def tOrV (ta tb : TE) : TE := fun σ H Q => ta σ H fun x H1 => ∃ c, x = .bl c ∧ if c = true then Q (.bl true) H1 else tb σ H1 Q
def tNotV (ta : TE) : TE := fun σ H Q => ta σ H fun x H1 => ∃ c, x = .bl c ∧ Q (.bl (!c)) H1
theorem pe_one {op} {t : TE} (h : PE X a t) : PE X (.BoolOp op [a] pos) t := fun pins s σ H Q I hw => BoolOp_one (h pins s σ H Q I hw)
theorem pe_and (ha : PE X a ta) (hb : PE X (.BoolOp .And (b :: rest) pos) tb) : PE X (.BoolOp .And (a :: b :: rest) pos) (tAndV ta tb) := by
  intro pins s σ H Q I h
  refine BoolOp_and (thn (ha pins s σ H _ I h) fun v s1 ⟨x, H1, I1, r1, q1⟩ => ?_)
  obtain ⟨c, rfl, q1⟩ := q1
  cases r1
  refine wpAny_truthy_bool ?_
  cases c with
  | true => exact hb pins s1 σ H1 Q I1 q1
  | false => exact ⟨.bl false, H1, I1, rfl, q1⟩
theorem pe_or (ha : PE X a ta) (hb : PE X (.BoolOp .Or (b :: rest) pos) tb) : PE X (.BoolOp .Or (a :: b :: rest) pos) (tOrV ta tb) := by
  intro pins s σ H Q I h
  refine BoolOp_or (thn (ha pins s σ H _ I h) fun v s1 ⟨x, H1, I1, r1, q1⟩ => ?_)
  obtain ⟨c, rfl, q1⟩ := q1
  cases r1
  refine wpAny_truthy_bool ?_
  cases c with
  | false => exact hb pins s1 σ H1 Q I1 q1
  | true => exact ⟨.bl true, H1, I1, rfl, q1⟩
theorem pe_not (ha : PE X a ta) : PE X (.UnaryOp .Not a pos) (tNotV ta) := by
  intro pins s σ H Q I h
  refine UnaryOp_ (thn (ha pins s σ H _ I h) fun v s1 ⟨x, H1, I1, r1, q1⟩ => ?_)
  obtain ⟨c, rfl, q1⟩ := q1
  cases r1
  exact not_of (wpAny_truthy_bool ⟨.bl (!c), H1, I1, rfl, q1⟩)
/-- a if t else b -/
def tIf (t : TT) (ta tb : TE) : TE := fun σ H Q => t σ H fun c H1 => if c = true then ta σ H1 Q else tb σ H1 Q
theorem pe_ifExp {c : Expr} (hc : PT X c tA) (ha : PE X a ta) (hb : PE X b tb) : PE X (.IfExp c a b pos) (tIf tA ta tb) := by
  intro pins s σ H Q I h
  refine wpAny_IfExp (thn (hc pins s σ H _ I h) fun d s1 ⟨H1, I1, q1⟩ => ?_)
  cases d with
  | true => exact ha pins s1 σ H1 Q I1 q1
  | false => exact hb pins s1 σ H1 Q I1 q1
end
end L2

namespace L2
open PySem PySem.Spec PyProof.Rows

/-! ### a list, a tuple that is read: tracked, frozen, or an object of the module -/
def SqL (K : PySem.W.Frag) (H : Hp) (a : Addr) (xs : List V) : Prop :=
  Rd H a (.lst xs) ∨
    ∃ (o : Obj) (its : Array Value) (n : Nat), K.lookup a = some o ∧ o.cls = .type "list" ∧ o.dict = none ∧ o.data = .seq its n ∧ its.size ≤ sizeLine ∧ Vals xs its.toList
def SqT (K : PySem.W.Frag) (H : Hp) (a : Addr) (xs : List V) : Prop :=
  Rd H a (.tup xs) ∨
    ∃ (o : Obj) (its : Array Value) (n : Nat), K.lookup a = some o ∧ o.cls = .type "tuple" ∧ o.data = .seq its n ∧ its.size ≤ sizeLine ∧ Vals xs its.toList
def absV : Value → Option V
  | .none => some .non
  | .bool b => some (.bl b)
  | .int i _ => some (.int i)
  | .str x _ => some (.str x)
  | .bytes b _ => some (.byt b)
  | .float b _ => some (.flt b)
  | .ref a => some (.ref a)
  | .type n => some (.ty n)
  | _ => none
theorem RelV.abs {x : V} {u : Value} (r : RelV x u) : absV u = some x := by
  cases x with
  | non => cases r; rfl
  | bl _ => cases r; rfl
  | int _ => obtain ⟨t, rfl⟩ := r; rfl
  | str _ => obtain ⟨t, rfl⟩ := r; rfl
  | byt _ => obtain ⟨t, rfl⟩ := r; rfl
  | flt _ => obtain ⟨t, rfl⟩ := r; rfl
  | ref _ => cases r; rfl
  | ty _ => cases r; rfl
theorem RelV.inj {x y : V} {u : Value} (r : RelV x u) (q : RelV y u) : x = y := Option.some.inj (r.abs.symm.trans q.abs)
theorem Vals.inj : ∀ {xs ys : List V} {us : List Value}, Vals xs us → Vals ys us → xs = ys
  | _, _, _, .nil, .nil => rfl
  | _, _, _, .cons r t, .cons r' t' => by rw [r.inj r', Vals.inj t t']
section
variable {X : Cx} {pins : List (Addr × Obj)} {σ : St} {H : Hp} {s : Shared} {a : Addr} {xs ys : List V}
theorem SqL.of {K : PySem.W.Frag} (h : H a = some (.lst xs)) : SqL K H a xs := .inl (.inl h)
theorem SqT.of {K : PySem.W.Frag} (h : H a = some (.tup xs)) : SqT K H a xs := .inl (.inl h)
theorem Inv.list (I : Inv X pins σ H s) (h : SqL X.K H a xs) : ∃ its : List Value, Vals xs its ∧ PlainL s.heap a its.toArray ∧ xs.length ≤ sizeLine := by
  rcases h with h | ⟨o, its, n, hk, hc, hd, hs, hz, r⟩
  · obtain ⟨z, its, n, r, e⟩ := h.ok I.hok
    exact ⟨its, r, ⟨_, n, e, rfl, rfl, rfl⟩, z⟩
  · refine ⟨its.toList, r, ⟨o, n, I.kIn a o hk, hc, hd, by simpa using hs⟩, ?_⟩
    have e := r.length
    simp only [Array.length_toList] at e
    omega
theorem Inv.tuple (I : Inv X pins σ H s) (h : SqT X.K H a xs) : ∃ its : List Value, Vals xs its ∧ IsTup s.heap a its.toArray ∧ xs.length ≤ sizeLine := by
  rcases h with h | ⟨o, its, n, hk, hc, hs, hz, r⟩
  · obtain ⟨z, its, r, p⟩ := h.ok I.hok
    exact ⟨its, r, p, z⟩
  · refine ⟨its.toList, r, ⟨o, I.kIn a o hk, hc, n, by simpa using hs⟩, ?_⟩
    have e := r.length
    simp only [Array.length_toList] at e
    omega
theorem Inv.list_inj (I : Inv X pins σ H s) (h : SqL X.K H a xs) (h' : SqL X.K H a ys) : xs = ys := by
  obtain ⟨its, r, ⟨o, n, e, _, _, d⟩, _⟩ := I.list h
  obtain ⟨its', r', ⟨o', n', e', _, _, d'⟩, _⟩ := I.list h'
  rw [e] at e'; cases e'
  rw [d] at d'
  injection d' with d1 _
  have : its = its' := by simpa using congrArg Array.toList d1
  subst this
  exact r.inj r'
theorem Inv.tuple_inj (I : Inv X pins σ H s) (h : SqT X.K H a xs) (h' : SqT X.K H a ys) : xs = ys := by
  obtain ⟨its, r, ⟨o, e, _, n, d⟩, _⟩ := I.tuple h
  obtain ⟨its', r', ⟨o', e', _, n', d'⟩, _⟩ := I.tuple h'
  rw [e] at e'; cases e'
  rw [d] at d'
  injection d' with d1 _
  have : its = its' := by simpa using congrArg Array.toList d1
  subst this
  exact r.inj r'
end

/-! ### another wish about exceptions -/
abbrev Cx.wish (X : Cx) (E : Value → Shared → Prop) : Cx := { X with xe := E }
/-- no exception leaves -/
abbrev Cx.nox (X : Cx) : Cx := X.wish fun _ _ => False
theorem Cx.Ok.wish {X : Cx} (ok : X.Ok) (E : Value → Shared → Prop) : (X.wish E).Ok :=
  ⟨ok.mod, ok.kind, ok.glob, ok.blt, ok.above, ok.inj, ok.has, ok.cab, ok.hd, ok.frames, ok.stk, ok.exf, ok.bs, ok.bsz, ok.noex, ok.exfs, ok.funs, ok.frf⟩
theorem Cx.Ok.unwish {X : Cx} {E : Value → Shared → Prop} (ok : (X.wish E).Ok) : X.Ok :=
  ⟨ok.mod, ok.kind, ok.glob, ok.blt, ok.above, ok.inj, ok.has, ok.cab, ok.hd, ok.frames, ok.stk, ok.exf, ok.bs, ok.bsz, ok.noex, ok.exfs, ok.funs, ok.frf⟩
section
variable {X : Cx} {pins : List (Addr × Obj)} {σ : St} {H : Hp} {s : Shared} {E : Value → Shared → Prop}
theorem Inv.wish (I : Inv X pins σ H s) (E : Value → Shared → Prop) : Inv (X.wish E) pins σ H s := ⟨I.ok.wish E, I.os, I.bare, I.base, I.loc, I.cell, I.free, I.freeC, I.pin, I.hok, I.len⟩
theorem Inv.unwish (I : Inv (X.wish E) pins σ H s) : Inv X pins σ H s := ⟨I.ok.unwish, I.os, I.bare, I.base, I.loc, I.cell, I.free, I.freeC, I.pin, I.hok, I.len⟩
theorem SP.unwish {D : Ends} {f : Flow} {s' : Shared} (h : SP (X.wish E) pins D f s') : SP X pins D f s' := by
  cases f with
  | next => obtain ⟨σ', H', I, q⟩ := h; exact ⟨σ', H', I.unwish, q⟩
  | brk => obtain ⟨σ', H', I, q⟩ := h; exact ⟨σ', H', I.unwish, q⟩
  | cont => obtain ⟨σ', H', I, q⟩ := h; exact ⟨σ', H', I.unwish, q⟩
  | ret u => obtain ⟨v, σ', H', I, r, q⟩ := h; exact ⟨v, σ', H', I.unwish, r, q⟩
theorem PE.nox {e : Expr} {t : TE} (h : PE X.nox e t) : PE X e t := fun pins s σ H Q I hw =>
  wpAny_mono (h pins s σ H Q (I.wish _) hw) (fun _ _ ⟨v, H', I', r, q⟩ => ⟨v, H', I'.unwish, r, q⟩) fun _ _ z => False.elim z
theorem PT.nox {e : Expr} {t : TT} (h : PT X.nox e t) : PT X e t := fun pins s σ H Q I hw =>
  wpAny_mono (h pins s σ H Q (I.wish _) hw) (fun _ _ ⟨H', I', q⟩ => ⟨H', I'.unwish, q⟩) fun _ _ z => False.elim z
theorem PSs.nox {st : List Stmt} {t : TS} (h : PSs X.nox st t) : PSs X st t := fun pins s σ H D I hw =>
  wpAny_mono (h pins s σ H D (I.wish _) hw) (fun _ _ q => q.unwish) fun _ _ z => False.elim z
end

/-! ### blocks and small statements -/
section
variable {X : Cx} {st : Stmt} {rest : List Stmt} {t u : TS} {e : Expr} {te : TE} {pos : Pos}
def tNext : TS := fun D σ H => D.nx σ H
def tSeq (t u : TS) : TS := fun D σ H => t { D with nx := u D } σ H
theorem pss_nil : PSs X [] tNext := fun _ _ σ H _ I h => wpAny_execs_nil ⟨σ, H, I, h⟩
theorem pss_cons (h1 : PS X st t) (h2 : PSs X rest u) : PSs X (st :: rest) (tSeq t u) := by
  intro pins s σ H D I h
  refine wpAny_execs_cons (thn (h1 pins s σ H { D with nx := u D } I h) fun f s1 q => ?_)
  cases f with
  | next =>
    obtain ⟨σ', H', I', q⟩ := q
    exact h2 pins s1 σ' H' D I' q
  | ret v => exact q
  | brk => exact q
  | cont => exact q
theorem pss_one (h1 : PS X st t) : PSs X [st] t := by
  intro pins s σ H D I h
  refine wpAny_execs_cons (thn (h1 pins s σ H D I h) fun f s1 q => ?_)
  cases f with
  | next => exact wpAny_execs_nil q
  | ret v => exact q
  | brk => exact q
  | cont => exact q
def tBreak : TS := fun D σ H => D.bk σ H
def tCont : TS := fun D σ H => D.ct σ H
theorem ps_pass : PS X (.Pass pos) tNext := fun _ _ σ H _ I h => wpAny_Pass ⟨σ, H, I, h⟩
theorem ps_break : PS X (.Break pos) tBreak := fun _ _ σ H _ I h => wpAny_Break ⟨σ, H, I, h⟩
theorem ps_continue : PS X (.Continue pos) tCont := fun _ _ σ H _ I h => wpAny_Continue ⟨σ, H, I, h⟩
/-- in a def's body nothing is shown -/
theorem Inv.quiet {pins : List (Addr × Obj)} {σ : St} {H : Hp} {s : Shared} (I : Inv X pins σ H s) : interactive X.env = false := by simp [interactive, I.ok.kind]
/-- a docstring -/
theorem ps_doc {x j pos pos'} : PS X (.Expr (.Constant (.str x) j pos) pos') tNext := fun _ s σ H _ I h => wpAny_Expr (Calls.Constant_str (show SP X _ _ .next { s with toks := s.toks + 1 } from ⟨σ, H, I.tok _, h⟩)) I.quiet
/-- an expression whose value is dropped -/
def tDrop (te : TE) : TS := fun D σ H => te σ H fun _ H1 => D.nx σ H1
theorem ps_expr (he : PE X e te) (hs : swapsWith e none pos.line X.env = pure false := by rfl) : PS X (.Expr e pos) (tDrop te) := by
  intro pins s σ H D I h
  exact wpAny_Expr_any (thn (he pins s σ H _ I h) fun v s1 ⟨x, H1, I1, r1, q1⟩ => ⟨σ, H1, I1, q1⟩) I.quiet hs
def tRet (te : TE) : TS := fun D σ H => te σ H D.rt
theorem ps_ret (he : PE X e te) : PS X (.Return (some e) pos) (tRet te) := by
  intro pins s σ H D I h
  exact wpAny_Return_some (thn (he pins s σ H _ I h) fun v s1 ⟨x, H1, I1, r1, q1⟩ => ⟨x, σ, H1, I1, r1, q1⟩)
def tRetN : TS := fun D _ H => D.rt .non H
theorem ps_retN : PS X (.Return none pos) tRetN := fun _ _ σ H _ I h => wpAny_Return_none ⟨.non, σ, H, I, rfl, h⟩
def tIfS (c : TT) (t u : TS) : TS := fun D σ H => c σ H fun b H1 => if b = true then t D σ H1 else u D σ H1
theorem ps_if {c : Expr} {a b : List Stmt} {tc : TT} (hc : PT X c tc) (ha : PSs X a t) (hb : PSs X b u) : PS X (.If c a b pos) (tIfS tc t u) := by
  intro pins s σ H D I h
  refine wpAny_If (thn (hc pins s σ H _ I h) fun d s1 ⟨H1, I1, q1⟩ => ?_)
  cases d with
  | true => exact ha pins s1 σ H1 D I1 q1
  | false => exact hb pins s1 σ H1 D I1 q1
/-- code that the proof never comes to -/
def tNever : TS := fun _ _ _ => False
theorem ps_never : PS X st tNever := fun _ _ _ _ _ _ h => h.elim
theorem pss_never {sts : List Stmt} : PSs X sts tNever := fun _ _ _ _ _ _ h => h.elim
end

/-! ### targets -/
abbrev TG := V → St → Hp → (St → Hp → Prop) → Prop
abbrev TGs := List V → St → Hp → (St → Hp → Prop) → Prop
def PG (X : Cx) (target : Expr) (t : TG) : Prop :=
  ∀ (pins : List (Addr × Obj)) (s : Shared) (σ : St) (H : Hp) (v : V) (u : Value) (Q : St → Hp → Prop), Inv X pins σ H s → RelV v u → t v σ H Q →
    wpAny (model X.prog X.w) X.A (assign target X.env u) (fun _ s' => ∃ σ' H', Inv X pins σ' H' s' ∧ Q σ' H') X.xe s
/-- several targets, one after another -/
def PGs (X : Cx) (ts : List Expr) (t : TGs) : Prop :=
  ∀ (pins : List (Addr × Obj)) (s : Shared) (σ : St) (H : Hp) (vs : List V) (us : List Value) (Q : St → Hp → Prop), Inv X pins σ H s → Vals vs us → t vs σ H Q →
    wpAny (model X.prog X.w) X.A (assignInOrder ((assignEach ts X.env).map (·.2)) us) (fun _ s' => ∃ σ' H', Inv X pins σ' H' s' ∧ Q σ' H') X.xe s
/-- o[i] = v, by values -/
abbrev TSet := V → V → V → Hp → (Hp → Prop) → Prop
def PSet (X : Cx) (t : TSet) : Prop :=
  ∀ (pins : List (Addr × Obj)) (s : Shared) (σ : St) (H : Hp) (o i v : V) (ov iv u : Value) (Q : Hp → Prop), Inv X pins σ H s → RelV o ov → RelV i iv → RelV v u → t o i v H Q →
    wpAny (model X.prog X.w) X.A (setItem ov iv u) (fun _ s' => ∃ H', Inv X pins σ H' s' ∧ Q H') X.xe s
/-- a op= b, by values -/
abbrev TIp := V → V → Hp → VK → Prop
def PIp (X : Cx) (op : Operator) (t : TIp) : Prop :=
  ∀ (pins : List (Addr × Obj)) (s : Shared) (σ : St) (H : Hp) (x y : V) (v u : Value) (Q : VK), Inv X pins σ H s → RelV x v → RelV y u → t x y H Q →
    wpAny (model X.prog X.w) X.A (inplaceOp op v u) (EP X pins σ Q) X.xe s
section
variable {X : Cx} {pos : Pos}
def gName (i : Nat) : TG := fun v σ H Q => Q (σ.set i (some v)) H
theorem pg_name {i : Nat} {x : Str} (hN : X.N.Nodup) (hi : X.N[i]? = some x) (hx : Loc X.env.scope x) (hf : X.fn x = true ∨ X.env.scope.names.lookup x = some .local := by first | exact .inl rfl | exact .inr rfl | assumption) : PG X (.Name x pos) (gName i) := by
  intro pins s σ H v u Q I r h
  exact wpAny_assign_Name (store_ok I hN hi hx r (fun s' I' => ⟨_, H, I', h⟩) hf)
def gNil : TGs := fun vs σ H Q => vs = [] ∧ Q σ H
def gCons (t : TG) (u : TGs) : TGs := fun vs σ H Q => ∃ v r, vs = v :: r ∧ t v σ H fun σ' H' => u r σ' H' Q
theorem pgs_nil : PGs X [] gNil := by
  intro pins s σ H vs us Q I r h
  obtain ⟨e, h⟩ := h
  subst e
  cases r
  exact assignInOrder_nil ⟨σ, H, I, h⟩
theorem pgs_cons {e : Expr} {es : List Expr} {t : TG} {u : TGs} (h1 : PG X e t) (h2 : PGs X es u)
    (hs : (assignEach (e :: es) X.env).map (·.2) = assign e X.env :: (assignEach es X.env).map (·.2) := by rfl) : PGs X (e :: es) (gCons t u) := by
  intro pins s σ H vs us Q I r h
  obtain ⟨v, vr, e1, h⟩ := h
  subst e1
  cases r with
  | cons r rr =>
    rw [hs]
    refine assignInOrder_cons (thn (h1 pins s σ H _ _ _ I r h) fun _ s1 ⟨σ1, H1, I1, q1⟩ => ?_)
    exact h2 pins s1 σ1 H1 _ _ Q I1 rr q1
/-- (a, b, ..) = a tuple of that length -/
def gTup (K : PySem.W.Frag) (n : Nat) (t : TGs) : TG := fun v σ H Q => ∃ a xs, v = .ref a ∧ SqT K H a xs ∧ xs.length = n ∧ t xs σ H Q
theorem pg_tup {es : List Expr} {k : Nat} {t : TGs} {n : Nat} (hc : X.calm = true) (h : PGs X es t)
    (hn : (assignEach es X.env).length = n := by rfl) (hst : (assignEach es X.env).findIdx? (·.1) = none := by rfl) : PG X (.Tuple es k pos) (gTup X.K n t) := by
  intro pins s σ H v u Q I r hw
  obtain ⟨a, xs, e1, hq, hl, hw⟩ := hw
  subst e1
  cases r
  obtain ⟨its, rv, ht, hz⟩ := I.tuple hq
  refine assign_Tuple_tuple (I.ok.hd hc) ht (by simp [hn, ← hl, rv.length]) hst fun h' hx => ?_
  have I1 : Inv X pins σ H { s with heap := h' } := I.kept (t' := s.toks) fun b o e => hx b o (Nat.ne_of_lt (Heap.lt_size e)) e
  exact h pins _ σ H xs _ Q I1 (by simpa using rv) hw
/-- o[i] = .. -/
def gSub (to ti : TE) (t : TSet) : TG := fun v σ H Q => to σ H fun o H1 => ti σ H1 fun i H2 => t o i v H2 fun H3 => Q σ H3
theorem pg_sub {o i : Expr} {to ti : TE} {t : TSet} (ho : PE X o to) (hi : PE X i ti) (hs : PSet X t)
    (ha : ∀ v, assign (.Subscript o i pos) X.env v = (do
      let ov ← holding [v] (eval o X.env)
      let iv ← holding [v, ov] (eval i X.env)
      standAt pos
      holding [v, ov, iv] (setItem ov iv v)
      release [v, ov, iv] []) := by intro _; rfl) : PG X (.Subscript o i pos) (gSub to ti t) := by
  intro pins s σ H v u Q I r h
  rw [ha]
  refine wpAny_bind (wpAny_holding (thn (ho pins s σ H _ I h) fun ov s1 ⟨x, H1, I1, r1, q1⟩ => ?_))
  refine wpAny_bind (wpAny_holding (thn (hi pins s1 σ H1 _ I1 q1) fun iv s2 ⟨y, H2, I2, r2, q2⟩ => ?_))
  refine wpAny_bind (wpAny_standAt (wpAny_bind (wpAny_holding (thn (hs pins s2 σ H2 x y v ov iv u _ I2 r1 r2 r q2) fun _ s3 ⟨H3, I3, q3⟩ => ?_))))
  exact wpAny_release ⟨σ, H3, I3, q3⟩
/-- target = value -/
def tAsg (te : TE) (g : TG) : TS := fun D σ H => te σ H fun x H1 => g x σ H1 D.nx
theorem ps_asg {tg e : Expr} {te : TE} {g : TG} (he : PE X e te) (hg : PG X tg g) (hs : swapsWithSole [tg] e pos.line X.env = pure false := by rfl) (hw : swappedStores [tg] e X.env = pure none := by rfl)
    (h1 : (assignEach [tg] X.env).map (·.2) = [assign tg X.env] := by rfl) : PS X (.Assign [tg] e pos) (tAsg te g) := by
  intro pins s σ H D I h
  refine wpAny_Assign_stores (thn (he pins s σ H _ I h) fun v s1 ⟨x, H1, I1, r1, q1⟩ => ?_) hs hw
  rw [h1]
  exact thn (hg pins s1 σ H1 x v _ I1 r1 q1) fun _ s2 q => q
/-- name = value -/
theorem ps_set {i : Nat} {x : Str} {e : Expr} {te : TE} {pos' : Pos} (hN : X.N.Nodup) (hi : X.N[i]? = some x) (hx : Loc X.env.scope x) (he : PE X e te) (hs : swapsWith e (some (.Name x pos')) pos.line X.env = pure false := by rfl) (hf : X.fn x = true ∨ X.env.scope.names.lookup x = some .local := by first | exact .inl rfl | exact .inr rfl | assumption) :
    PS X (.Assign [.Name x pos'] e pos) (tAsg te (gName i)) := by
  intro pins s σ H D I h
  refine wpAny_Assign_Name (thn (he pins s σ H _ I h) fun v s1 ⟨y, H1, I1, r1, q1⟩ => ?_) hs
  exact store_ok I1 hN hi hx r1 (fun s2 I2 => ⟨_, H1, I2, q1⟩) hf
/-- a, b = x, y with plain local names: stored from the right; the pair itself is not tracked (the opening rows as in PyProof/Rows/TupAssign.lean:23) -/
def tPar (i j : Nat) (ta : TA) : TS := fun D σ H => ta σ H fun vs H1 => ∃ v w, vs = [v, w] ∧ D.nx ((σ.set i (some v)).set j (some w)) H1
theorem ps_par {i j : Nat} {x y : Str} {a b : Expr} {ta : TA} {px py pt : Pos} {kt k2 pt2} (hc : X.calm = true) (hN : X.N.Nodup) (hi : X.N[i]? = some x) (hj : X.N[j]? = some y) (hij : i ≠ j)
    (hx : X.env.scope.names.lookup x = some .local) (hy : X.env.scope.names.lookup y = some .local) (ha : PA X [a, b] ta)
    (hw : swappedStores [.Tuple [.Name x px, .Name y py] kt pt] (.Tuple [a, b] k2 pt2) X.env = pure (some [x, y]))
    (hs : swapsWithSole [.Tuple [.Name x px, .Name y py] kt pt] (.Tuple [a, b] k2 pt2) pos.line X.env = pure false := by rfl) :
    PS X (.Assign [.Tuple [.Name x px, .Name y py] kt pt] (.Tuple [a, b] k2 pt2) pos) (tPar i j ta) := by
  intro pins s σ H D I h
  rw [exec_Assign_arm]
  refine wpAny_bind (wpAny_standAt ?_)
  rw [hs]
  refine wpAny_bind (wpAny_pure ?_)
  rw [if_neg (by decide)]
  refine wpAny_bind (Tuple_ (thn (ha _ pins s σ H _ I h) fun us s1 ⟨vs, H1, I1, r1, q1⟩ => ?_))
  obtain ⟨v, w, e1, q1⟩ := q1
  subst e1
  obtain ⟨u1, u2, rfl, rv, rw'⟩ : ∃ u1 u2, us = [u1, u2] ∧ RelV v u1 ∧ RelV w u2 := by
    cases r1 with
    | cons p q =>
      cases q with
      | cons p' q' =>
        cases q'
        exact ⟨_, _, rfl, p, p'⟩
  refine wpAny_newObj_type ?_ (by show 2 ≤ sizeLine; decide)
  have I2 : Inv X pins σ H1 { s1 with heap := s1.heap.push { cls := .type "tuple", data := .seq [u1, u2].toArray } } := I1.kept (t' := s1.toks) fun b o e => Heap.get?_push_of_some _ e
  rw [hw]
  refine wpAny_bind (wpAny_pure ?_)
  show wpAny (model X.prog X.w) X.A (do rule "assign.swapped-stores"; let items ← unpackItems (.ref s1.heap.objs.size) 2 none; assignInOrder [fun v => bindName X.env y v, fun v => bindName X.env x v] items.reverse; pure Flow.next) _ _ _
  refine wpAny_bind (wpAny_rule (wpAny_bind (unpackItems_tuple (items := #[u1, u2]) (I.ok.hd hc) (IsTup.new s1.heap _) fun h' hx' => ?_)))
  have I3 := I2.kept (h' := h') (t' := s1.toks) fun b o e => hx' b o (Nat.ne_of_lt (Heap.lt_size e)) e
  show wpAny _ _ (assignInOrder [fun v => bindName X.env y v, fun v => bindName X.env x v] [u2, u1] >>= fun _ => pure Flow.next) _ _ _
  refine wpAny_bind (assignInOrder_cons (wpAny_bindName (store_ok I3 hN hj (.inl hy) rw' (fun s2 I4 => ?_) (.inr hy))))
  refine assignInOrder_cons (wpAny_bindName (store_ok I4 hN hi (.inl hx) rv (fun s3 I5 => assignInOrder_nil (wpAny_pure ?_)) (.inr hx)))
  rw [List.set_comm _ _ (Ne.symm hij)] at I5
  exact ⟨_, H1, I5, q1⟩
/-- name op= e -/
def tAug (i : Nat) (te : TE) (ti : TIp) : TS := fun D σ H => ∃ x, σ[i]? = some (some x) ∧ te σ H fun y H1 => ti x y H1 fun z H2 => D.nx (σ.set i (some z)) H2
theorem ps_aug {i : Nat} {x : Str} {e : Expr} {te : TE} {op : Operator} {ti : TIp} {pos' : Pos} (hN : X.N.Nodup) (hi : X.N[i]? = some x) (hx : Loc X.env.scope x) (he : PE X e te) (ho : PIp X op ti) (hf : X.fn x = true ∨ X.env.scope.names.lookup x = some .local := by first | exact .inl rfl | exact .inr rfl | assumption) :
    PS X (.AugAssign (.Name x pos') op e pos) (tAug i te ti) := by
  intro pins s σ H D I h
  obtain ⟨v, e1, h⟩ := h
  obtain ⟨m, hn, hl⟩ := I.loc
  have vis : Vis X.env.scope x := by rcases hx with k | k; exact .inl k; exact .inr (.inl k)
  obtain ⟨u, r, l⟩ := hl i x v hi e1 vis
  refine wpAny_AugAssign_Name ?_
  have go : wpAny (model X.prog X.w) X.A (eval e X.env) (fun w s₂ => wpAny (model X.prog X.w) X.A (inplaceOp op u w) (fun r s₃ => wpAny (model X.prog X.w) X.A (storeName X.env x r) (fun _ => SP X pins D .next) X.xe s₃) X.xe s₂) X.xe s := by
    refine thn (he pins s σ H _ I h) fun w s1 ⟨y, H1, I1, r1, q1⟩ => ?_
    refine thn (ho pins s1 σ H1 v y u w _ I1 r r1 q1) fun z s2 ⟨zv, H2, I2, r2, q2⟩ => ?_
    exact store_ok I2 hN hi hx r2 (fun s3 I3 => ⟨_, H2, I3, q2⟩) hf
  rcases l with ⟨hk, hm⟩ | ⟨hk, c, hc, hcell⟩
  · exact wpAny_loadName_local I.ok.kind hk hn hm go
  · rcases hk with hk | hk
    · exact wpAny_loadName_cell I.ok.kind hk hc hcell go
    · rcases hx with k | k
      · have : X.env.scope.names.lookup x = some .free := hk
        rw [k] at this; cases this
      · have : X.env.scope.names.lookup x = some .free := hk
        rw [k] at this; cases this
/-- o[i] op= e -/
def tAugS (to ti te : TE) (tget : V → V → Hp → VK → Prop) (tip : TIp) (tset : TSet) : TS := fun D σ H => to σ H fun o H1 => ti σ H1 fun i H2 => tget o i H2 fun x H3 => te σ H3 fun y H4 => tip x y H4 fun z H5 => tset o i z H5 fun H6 => D.nx σ H6
/-- o[i], by values -/
def PGet (X : Cx) (t : V → V → Hp → VK → Prop) : Prop :=
  ∀ (pins : List (Addr × Obj)) (s : Shared) (σ : St) (H : Hp) (o i : V) (ov iv : Value) (Q : VK), Inv X pins σ H s → RelV o ov → RelV i iv → t o i H Q →
    wpAny (model X.prog X.w) X.A (getItem ov iv) (EP X pins σ Q) X.xe s
theorem ps_augS {o i e : Expr} {to ti te : TE} {tget : V → V → Hp → VK → Prop} {tip : TIp} {tset : TSet} {op : Operator} {tpos : Pos} (ho : PE X o to) (hi : PE X i ti) (hg : PGet X tget) (he : PE X e te) (hp : PIp X op tip) (hs : PSet X tset)
    (ha : ∀ ov iv new, augStore i ov iv new = (do holding [new, ov, iv] (setItem ov iv new); release [new, ov, iv] []; pure .next) := by intros; rfl) : PS X (.AugAssign (.Subscript o i tpos) op e pos) (tAugS to ti te tget tip tset) := by
  intro pins s σ H D I h
  refine wpAny_AugAssign_SubscriptAny (thn (ho pins s σ H _ I h) fun ov s1 ⟨x1, H1, I1, r1, q1⟩ => ?_) ha
  refine thn (hi pins s1 σ H1 _ I1 q1) fun iv s2 ⟨x2, H2, I2, r2, q2⟩ => ?_
  refine thn (hg pins s2 σ H2 x1 x2 ov iv _ I2 r1 r2 q2) fun old s3 ⟨x3, H3, I3, r3, q3⟩ => ?_
  refine thn (he pins s3 σ H3 _ I3 q3) fun v s4 ⟨x4, H4, I4, r4, q4⟩ => ?_
  refine thn (hp pins s4 σ H4 x3 x4 old v _ I4 r3 r4 q4) fun new s5 ⟨x5, H5, I5, r5, q5⟩ => ?_
  exact thn (hs pins s5 σ H5 x1 x2 x5 ov iv new _ I5 r1 r2 r5 q5) fun _ s6 ⟨H6, I6, q6⟩ => ⟨σ, H6, I6, q6⟩
/-- ints -/
def ipI (f : Int → Int → Int) : TIp := fun x y H Q => ∃ i j, x = .int i ∧ y = .int j ∧ Q (.int (f i j)) H
theorem ip_add : PIp X .Add (ipI fun i j => i + j) := by
  intro pins s σ H x y v u Q I r1 r2 h
  obtain ⟨i, j, e1, e2, q⟩ := h
  subst e1; subst e2
  obtain ⟨t, rfl⟩ := r1
  obtain ⟨t', rfl⟩ := r2
  exact iadd_int ⟨.int _, H, I.tok _, ⟨_, rfl⟩, q⟩
theorem ip_sub : PIp X .Sub (ipI fun i j => i - j) := by
  intro pins s σ H x y v u Q I r1 r2 h
  obtain ⟨i, j, e1, e2, q⟩ := h
  subst e1; subst e2
  obtain ⟨t, rfl⟩ := r1
  obtain ⟨t', rfl⟩ := r2
  exact isub_int ⟨.int _, H, I.tok _, ⟨_, rfl⟩, q⟩
end

/-! ### while -/
section
variable {X : Cx} {pos : Pos}
/-- the invariant W with its measure -/
def tWhile (c : TT) (tb : TS) : TS := fun D σ H => ∃ W : Nat → St → Hp → Prop, (∃ m, W m σ H) ∧ ∀ m σ H, W m σ H →
  c σ H fun b H1 => if b = true then ∃ N : St → Hp → Prop, (∀ σ' H', N σ' H' → ∃ m', m' < m ∧ W m' σ' H') ∧ tb { D with nx := N, ct := N, bk := D.nx } σ H1 else D.nx σ H1
theorem ps_while {c : Expr} {body : List Stmt} {tc : TT} {tb : TS} (hp : PassesOwn (model X.prog X.w) X.A X.env X.xe) (hc : PT X c tc) (hb : PSs X body tb) : PS X (.While c body [] pos) (tWhile tc tb) := by
  intro pins s σ H D I h
  obtain ⟨W, ⟨m0, w0⟩, turn⟩ := h
  refine wpAny_While (codeAny_whileLoop (fun n s' => ∃ σ' H', Inv X pins σ' H' s' ∧ W n σ' H') ?_ m0 ⟨σ, H, I, w0⟩)
  rintro n s1 ⟨σ1, H1, I1, w1⟩
  refine wpAny_passesOwn hp (thn (hc pins s1 σ1 H1 _ I1 (turn n σ1 H1 w1)) fun b s2 ⟨H2, I2, q2⟩ => ?_)
  cases b with
  | true =>
    obtain ⟨N, hN, q2⟩ := q2
    rw [if_pos rfl]
    refine wpAny_passesOwn hp (thn (hb pins s2 σ1 H2 _ I2 q2) fun f s3 q3 => ?_)
    cases f with
    | next =>
      obtain ⟨σ3, H3, I3, n3⟩ := q3
      obtain ⟨m', hm, w3⟩ := hN σ3 H3 n3
      exact ⟨m', hm, σ3, H3, I3, w3⟩
    | cont =>
      obtain ⟨σ3, H3, I3, n3⟩ := q3
      obtain ⟨m', hm, w3⟩ := hN σ3 H3 n3
      exact ⟨m', hm, σ3, H3, I3, w3⟩
    | brk => exact q3
    | ret v => exact q3
  | false =>
    rw [if_neg Bool.false_ne_true]
    exact wpAny_execs_nil ⟨σ1, H2, I2, q2⟩
end

/-! ### what a loop or a comprehension walks -/
/-- at turn i: it yields x (the heap may grow), or it stops -/
structure It where
  go : Nat → Hp → Prop
  yld : Nat → Hp → V → Hp → Prop
  stop : Nat → Hp → Prop
/-- the iterator's own objects may turn: they are not the frame's, not pinned, younger than the entry (or a comprehension's own) -/
def FpOk (X : Cx) (pins : List (Addr × Obj)) (H : Hp) (b : Addr) : Prop :=
  H b = none ∧ b ≠ X.env.locals ∧ b ∉ X.fs ∧ (b ∈ X.ex ∨ X.s_0.heap.objs.size ≤ b) ∧ (∀ x c, X.env.cells.lookup x = some c → c ≠ b) ∧ ∀ p ∈ X.pn ++ pins, p.1 ≠ b
theorem Inv.fpOk {X : Cx} {pins : List (Addr × Obj)} {σ : St} {H H' : Hp} {s : Shared} {b : Addr} (I : Inv X pins σ H s) (hb : s.heap.objs.size ≤ b) (hn : H' b = none) : FpOk X pins H' b := by
  refine ⟨hn, Nat.ne_of_gt (Nat.lt_of_lt_of_le I.lt hb), I.nofs hb, .inr (Nat.le_trans I.sz hb), fun x c e z => ?_, fun p hp z => ?_⟩
  · obtain ⟨v, q⟩ := I.cell x c e
    exact absurd (Nat.lt_of_lt_of_le q.lt (by rw [z]; exact hb)) (Nat.lt_irrefl _)
  · exact absurd (Nat.lt_of_lt_of_le (Heap.lt_size (I.pin p hp).1) (by rw [z]; exact hb)) (Nat.lt_irrefl _)
structure Turn (P : Program) (w : World) (K : PySem.W.Frag) (tg : Expr) (J : It) (fp : List Addr) (it : Addr) (tn : Nat → Heap → Prop) : Prop where
  mem : it ∈ fp
  obj : ∀ i h, tn i h → ∀ b ∈ fp, ∃ o, h.get? b = some o ∧ ∀ v, o.data ≠ .cell v
  keep : ∀ i h h', tn i h → (∀ b ∈ fp, ∀ o, h.get? b = some o → h'.get? b = some o) → tn i h'
  item : ∀ (X : Cx), X.prog = P → X.w = w → X.K = K → X.calm = true → ∀ (i : Nat) (pins : List (Addr × Obj)) (s : Shared) (σ : St) (H : Hp) (E : Value → Shared → Prop), Inv X pins σ H s → (∀ b ∈ fp, FpOk X pins H b) → tn i s.heap → J.go i H →
    wpAny (model P w) X.A (pyNext (.ref it)) (fun r s1 => ∃ u, r = some u ∧
      wpAny (model P w) X.A (letOwnedTupleGo tg (.ref it) u) (fun _ s2 => ∃ x H', Inv X pins σ H' s2 ∧ RelV x u ∧ J.yld i H x H' ∧ tn (i + 1) s2.heap ∧ ∀ b ∈ fp, H' b = none) E s1) E s
  done : ∀ (X : Cx), X.prog = P → X.w = w → X.K = K → X.calm = true → ∀ (i : Nat) (pins : List (Addr × Obj)) (s : Shared) (σ : St) (H : Hp) (E : Value → Shared → Prop), Inv X pins σ H s → (∀ b ∈ fp, FpOk X pins H b) → tn i s.heap → J.stop i H →
    wpAny (model P w) X.A (pyNext (.ref it)) (fun r s1 => r = none ∧ Inv X pins σ H s1) E s
  self : ∀ (A : Around) (i : Nat) (s : Shared) (Q : Value → Shared → Prop) (E : Value → Shared → Prop), tn i s.heap → Q (.ref it) s → wpAny (model P w) A (pyIter (.ref it)) Q E s
abbrev TI := St → Hp → (It → Hp → Prop) → Prop
/-- an iterator has come -/
def PIE (X : Cx) (pins : List (Addr × Obj)) (σ : St) (tg : Expr) (R : It → Hp → Prop) (itv : Value) (s2 : Shared) : Prop :=
  ∃ (it : Addr) (fp : List Addr) (tn : Nat → Heap → Prop) (J : It) (H' : Hp), itv = .ref it ∧ Inv X pins σ H' s2 ∧ Turn X.prog X.w X.K tg J fp it tn ∧ tn 0 s2.heap ∧ (∀ b ∈ fp, FpOk X pins H' b) ∧ R J H'
def PI (X : Cx) (tg iter : Expr) (wi : TI) : Prop :=
  ∀ (pins : List (Addr × Obj)) (s : Shared) (σ : St) (H : Hp) (R : It → Hp → Prop), Inv X pins σ H s → wi σ H R →
    wpAny (model X.prog X.w) X.A (eval iter X.env) (fun v s1 => wpAny (model X.prog X.w) X.A (pyIter v) (PIE X pins σ tg R) X.xe s1) X.xe s

/-- the step ahead of the store is nothing for an iterator that keeps no tuple -/
theorem go_of {M : Model} {A : Around} {E : Value → Shared → Prop} {s : Shared} {tg : Expr} {it : Addr} {u : Value} {o : Obj} {n : String} {vs : Array Value} {Q : Unit → Shared → Prop} (ho : s.heap.get? it = some o) (hc : o.cls = .type n) (hd : o.data = .fields vs)
    (hn : ["enumerate", "zip", "dict_itemiterator", "dict_reverseitemiterator", "odict_iterator", "itertools.zip_longest", "itertools.pairwise"].contains n = false) (hQ : Q () s) : wpAny M A (letOwnedTupleGo tg (.ref it) u) Q E s := by
  unfold letOwnedTupleGo
  cases tg <;> first
    | exact wpAny_pure hQ
    | (cases u <;> first
        | exact wpAny_pure hQ
        | (refine wpAny_bind (wpAny_load ho ?_)
           rw [hc, hd]
           show wpAny M A (if (["enumerate", "zip", "dict_itemiterator", "dict_reverseitemiterator", "odict_iterator", "itertools.zip_longest", "itertools.pairwise"].contains n && vs[0]? == some (rawInt _)) = true then _ else _) Q E s
           rw [if_neg (by intro h; rw [hn, Bool.false_and] at h; cases h)]
           exact wpAny_pure hQ))

/-- the list at a, as it stands at each turn (a loop may append to it) -/
def Itl (K : PySem.W.Frag) (a : Addr) : It :=
  ⟨fun i H => ∃ xs x, SqL K H a xs ∧ xs[i]? = some x, fun i H x H' => H' = H ∧ ∀ xs, SqL K H a xs → xs[i]? = some x, fun i H => ∃ xs, SqL K H a xs ∧ xs.length ≤ i⟩
def Itt (K : PySem.W.Frag) (a : Addr) : It :=
  ⟨fun i H => ∃ xs x, SqT K H a xs ∧ xs[i]? = some x, fun i H x H' => H' = H ∧ ∀ xs, SqT K H a xs → xs[i]? = some x, fun i H => ∃ xs, SqT K H a xs ∧ xs.length ≤ i⟩
/-- lo, lo + 1, .. (n of them) -/
def Itr (lo : Int) (n : Nat) : It := ⟨fun i _ => i < n, fun i H x H' => H' = H ∧ x = .int (lo + i), fun i _ => n ≤ i⟩
theorem turn_list {P : Program} {w : World} {K : PySem.W.Frag} {tg : Expr} (a it : Addr) : Turn P w K tg (Itl K a) [it] it (fun i h => h.IsListIter it a i) where
  mem := by simp
  obj := fun i h st b hb => by
    have e : b = it := by simpa using hb
    subst e
    obtain ⟨o, e, c, d⟩ := st
    exact ⟨o, e, fun v z => by rw [d] at z; cases z⟩
  keep := fun i h h' st k => st.at fun o e => k it (by simp) o e
  item := by
    intro X hP hw hK hc i pins s σ H E I hf st hg
    subst hP hw hK
    obtain ⟨xs, x, hq, hx⟩ := hg
    obtain ⟨its, rv, p, hz⟩ := I.list hq
    obtain ⟨u, hu, ru⟩ := rv.get hx
    obtain ⟨f0, f1, f2, f3, f4, f5⟩ := hf it (by simp)
    refine wpAny_pyNext_list_item st p.isList (x := u) (by simpa using hu) fun h' st' sb => ?_
    have I1 : Inv X pins σ H { s with heap := h' } := I.turned (t' := s.toks) (fun b o hb e => (sb.2 b hb).trans e) f0 f1 f3 f4 f5
    obtain ⟨o, e, c, d⟩ := id st'
    exact ⟨u, rfl, go_of (s := { s with heap := h' }) e c d (by decide) ⟨x, H, I1, ru, ⟨rfl, fun ys hy => by rw [I.list_inj hy hq]; exact hx⟩, st', fun b hb => (hf b hb).1⟩⟩
  done := by
    intro X hP hw hK hc i pins s σ H E I hf st hg
    subst hP hw hK
    obtain ⟨xs, hq, hx⟩ := hg
    obtain ⟨its, rv, p, hz⟩ := I.list hq
    obtain ⟨f0, f1, f2, f3, f4, f5⟩ := hf it (by simp)
    have hl := rv.length
    exact wpAny_pyNext_list_end (I.ok.hd hc) st p.isList (by simp; omega) fun h' eb => ⟨rfl, I.turned (t' := s.toks) (fun b o hb e => eb b o hb e) f0 f1 f3 f4 f5⟩
  self := fun _ _ _ _ _ st h => wpAny_pyIter_listiter st h
theorem turn_tuple {P : Program} {w : World} {K : PySem.W.Frag} {tg : Expr} (a it : Addr) : Turn P w K tg (Itt K a) [it] it (fun i h => h.IsTupleIter it a i) where
  mem := by simp
  obj := fun i h st b hb => by
    have e : b = it := by simpa using hb
    subst e
    obtain ⟨o, e, c, d⟩ := st
    exact ⟨o, e, fun v z => by rw [d] at z; cases z⟩
  keep := fun i h h' st k => st.at fun o e => k it (by simp) o e
  item := by
    intro X hP hw hK hc i pins s σ H E I hf st hg
    subst hP hw hK
    obtain ⟨xs, x, hq, hx⟩ := hg
    obtain ⟨its, rv, p, hz⟩ := I.tuple hq
    obtain ⟨u, hu, ru⟩ := rv.get hx
    obtain ⟨f0, f1, f2, f3, f4, f5⟩ := hf it (by simp)
    refine wpAny_pyNext_tuple_item st (show s.heap.IsTuple a its.toArray from p) (x := u) (by simpa using hu) fun h' st' sb => ?_
    have I1 : Inv X pins σ H { s with heap := h' } := I.turned (t' := s.toks) (fun b o hb e => (sb.2 b hb).trans e) f0 f1 f3 f4 f5
    obtain ⟨o, e, c, d⟩ := id st'
    exact ⟨u, rfl, go_of (s := { s with heap := h' }) e c d (by decide) ⟨x, H, I1, ru, ⟨rfl, fun ys hy => by rw [I.tuple_inj hy hq]; exact hx⟩, st', fun b hb => (hf b hb).1⟩⟩
  done := by
    intro X hP hw hK hc i pins s σ H E I hf st hg
    subst hP hw hK
    obtain ⟨xs, hq, hx⟩ := hg
    obtain ⟨its, rv, p, hz⟩ := I.tuple hq
    obtain ⟨f0, f1, f2, f3, f4, f5⟩ := hf it (by simp)
    have hl := rv.length
    exact wpAny_pyNext_tuple_end (I.ok.hd hc) st (show s.heap.IsTuple a its.toArray from p) (by simp; omega) fun h' eb => ⟨rfl, I.turned (t' := s.toks) (fun b o hb e => eb b o hb e) f0 f1 f3 f4 f5⟩
  self := fun _ _ _ _ _ st h => wpAny_pyIter_tupleiter st h
theorem turn_range {P : Program} {w : World} {K : PySem.W.Frag} {tg : Expr} (it : Addr) (lo : Int) (n : Nat) : Turn P w K tg (Itr lo n) [it] it (fun i h => IsRangeIter h it (lo + (i : Nat) * 1) ((n : Int) - (i : Nat)) 1) where
  mem := by simp
  obj := fun i h st b hb => by
    have e : b = it := by simpa using hb
    subst e
    exact ⟨_, st, fun v z => by
      have z' : Data.fields _ = Data.cell v := z
      cases z'⟩
  keep := fun i h h' st k => k it (by simp) _ st
  item := by
    intro X hP hw hK hc i pins s σ H E I hf st hg
    subst hP hw hK
    obtain ⟨f0, f1, f2, f3, f4, f5⟩ := hf it (by simp)
    have W := Walks.range (prog := X.prog) (w := X.w) (I.ok.hd hc) it lo 1 n
    refine W.item i s _ _ hg st fun v h' tk hv st' kk => ?_
    obtain ⟨t, rfl⟩ := hv
    have I1 : Inv X pins σ H { s with heap := h', toks := tk } := I.turned (fun b o hb e => kk b o (by simpa using hb) e) f0 f1 f3 f4 f5
    refine ⟨_, rfl, go_of (s := { s with heap := h', toks := tk }) (n := "range_iterator") st' rfl rfl (by decide) ⟨.int (lo + i), H, I1, ⟨t, ?_⟩, ⟨rfl, rfl⟩, st', fun b hb => (hf b hb).1⟩⟩
    rw [Int.mul_one]
  done := by
    intro X hP hw hK hc i pins s σ H E I hf st hg
    subst hP hw hK
    obtain ⟨f0, f1, f2, f3, f4, f5⟩ := hf it (by simp)
    exact wpAny_pyNext_range_end (I.ok.hd hc) st (by have : n ≤ i := hg; omega) fun h' eb => ⟨rfl, I.turned (t' := s.toks) (fun b o hb e => eb b o hb e) f0 f1 f3 f4 f5⟩
  self := fun _ _ _ _ _ st h => wpAny_pyIter_rangeiter st h
end L2

namespace L2
open PySem PySem.Spec PyProof.Rows
section
variable {X : Cx} {tg : Expr}
def iList (K : PySem.W.Frag) (tl : TE) : TI := fun σ H R => tl σ H fun x H1 => ∃ a, x = .ref a ∧ (∃ xs, SqL K H1 a xs) ∧ R (Itl K a) H1
def iTup (K : PySem.W.Frag) (tl : TE) : TI := fun σ H R => tl σ H fun x H1 => ∃ a, x = .ref a ∧ (∃ xs, SqT K H1 a xs) ∧ R (Itt K a) H1
theorem pi_list {l : Expr} {tl : TE} (hl : PE X l tl) : PI X tg l (iList X.K tl) := by
  intro pins s σ H R I h
  refine thn (hl pins s σ H _ I h) fun v s1 ⟨x, H1, I1, r1, q1⟩ => ?_
  obtain ⟨a, e, ⟨xs, hq⟩, q⟩ := q1
  subst e
  cases r1
  obtain ⟨its, rv, p, hz⟩ := I1.list hq
  refine wpAny_pyIter_list p.isList ?_
  refine ⟨s1.heap.objs.size, [s1.heap.objs.size], _, _, H1, rfl, I1.kept (t' := s1.toks) fun b o e => Heap.get?_push_of_some _ e, turn_list a _, ⟨_, Heap.get?_push_size _ rfl, rfl, rfl⟩, fun b hb => ?_, q⟩
  have e : b = s1.heap.objs.size := by simpa using hb
  subst e
  exact I1.fpOk (Nat.le_refl _) (I1.hok.fresh (Nat.le_refl _))
theorem pi_tup {l : Expr} {tl : TE} (hl : PE X l tl) : PI X tg l (iTup X.K tl) := by
  intro pins s σ H R I h
  refine thn (hl pins s σ H _ I h) fun v s1 ⟨x, H1, I1, r1, q1⟩ => ?_
  obtain ⟨a, e, ⟨xs, hq⟩, q⟩ := q1
  subst e
  cases r1
  obtain ⟨its, rv, p, hz⟩ := I1.tuple hq
  refine wpAny_pyIter_tuple (show s1.heap.IsTuple a its.toArray from p) ?_
  refine ⟨s1.heap.objs.size, [s1.heap.objs.size], _, _, H1, rfl, I1.kept (t' := s1.toks) fun b o e => Heap.get?_push_of_some _ e, turn_tuple a _, ⟨_, Heap.get?_push_size _ rfl, rfl, rfl⟩, fun b hb => ?_, q⟩
  have e : b = s1.heap.objs.size := by simpa using hb
  subst e
  exact I1.fpOk (Nat.le_refl _) (I1.hok.fresh (Nat.le_refl _))
/-- a range object just made, walked -/
theorem range_it {pins : List (Addr × Obj)} {σ : St} {H : Hp} {s : Shared} {R : It → Hp → Prop} {E : Value → Shared → Prop} {lo hi : Int} {t u v : Tok} {tk : Nat} (I : Inv X pins σ H s) (h1 : -(2 ^ 62) ≤ lo) (h2 : lo < 2 ^ 62) (h3 : -(2 ^ 62) ≤ hi) (h4 : hi < 2 ^ 62)
    (q : R (Itr lo (hi - lo).toNat) H) : wpAny (model X.prog X.w) X.A (pyIter (.ref s.heap.objs.size)) (PIE X pins σ tg R) E { s with heap := s.heap.push { cls := .type "range", data := .fields #[.int lo t, .int hi u, .int 1 v] }, toks := tk } := by
  refine wpAny_pyIter_range (IsRange.new ..) (small_one h1 h2 h3 h4) ?_
  have I1 : Inv X pins σ H { s with heap := s.heap.push { cls := .type "range", data := .fields #[.int lo t, .int hi u, .int 1 v] }, toks := tk } := I.kept fun b o e => Heap.get?_push_of_some _ e
  refine ⟨(s.heap.push { cls := .type "range", data := .fields #[.int lo t, .int hi u, .int 1 v] }).objs.size, [(s.heap.push { cls := .type "range", data := .fields #[.int lo t, .int hi u, .int 1 v] }).objs.size], _, _, H, rfl,
    I1.kept (t' := tk) fun b o e => Heap.get?_push_of_some _ e, turn_range _ lo (hi - lo).toNat, ?_, fun b hb => ?_, q⟩
  · have e1 : lo + ((0 : Nat) : Int) * 1 = lo := by simp
    have e2 : (((hi - lo).toNat : Nat) : Int) - ((0 : Nat) : Int) = Builtin.Range.rangeSize lo hi 1 := by rw [rangeSize_one]; split <;> omega
    show IsRangeIter _ _ (lo + ((0 : Nat) : Int) * 1) ((((hi - lo).toNat : Nat) : Int) - ((0 : Nat) : Int)) 1
    rw [e1, e2]
    exact Heap.get?_push_size _ rfl
  · have e : b = (s.heap.push { cls := .type "range", data := .fields #[.int lo t, .int hi u, .int 1 v] }).objs.size := by simpa using hb
    subst e
    exact I1.fpOk (Nat.le_refl _) (I1.hok.fresh (Nat.le_refl _))
def iRng1 (ta : TA) : TI := fun σ H R => ta σ H fun vs H1 => ∃ j : Int, vs = [.int j] ∧ -(2 ^ 62) ≤ j ∧ j < 2 ^ 62 ∧ R (Itr 0 j.toNat) H1
def iRng2 (ta : TA) : TI := fun σ H R => ta σ H fun vs H1 => ∃ i j : Int, vs = [.int i, .int j] ∧ (-(2 ^ 62) ≤ i ∧ i < 2 ^ 62 ∧ -(2 ^ 62) ≤ j ∧ j < 2 ^ 62) ∧ R (Itr i (j - i).toNat) H1
theorem pi_range1 {a : Expr} {ta : TA} {p pos : Pos} (hg : Gl X "range") (hm : X.mg "range" = none) (ha : PA X [a] ta) (hs : starEach [a] X.env = [(false, eval a X.env)] := by rfl) : PI X tg (.Call (.Name "range" p) [a] [] pos) (iRng1 ta) := by
  intro pins s σ H R I h
  refine Call_ (ld_blt I hg hm boot_range (PyProof.Rows.callWith_type1 (thn (ha pos pins s σ H _ I h) fun us s1 ⟨vs, H1, I1, r1, q1⟩ => ?_) hs rfl))
  obtain ⟨j, e, q1, q2, q⟩ := q1
  subst e
  cases r1 with
  | cons r rr =>
    cases rr
    obtain ⟨t, rfl⟩ := r
    exact call_range_1 (range_it I1 (by omega) (by omega) q1 q2 (by simpa using q))
theorem pi_range2 {a b : Expr} {ta : TA} {p pos : Pos} (hg : Gl X "range") (hm : X.mg "range" = none) (ha : PA X [a, b] ta) (hs : starEach [a, b] X.env = [(false, eval a X.env), (false, eval b X.env)] := by rfl) (hs2 : starEach [b] X.env = [(false, eval b X.env)] := by rfl) :
    PI X tg (.Call (.Name "range" p) [a, b] [] pos) (iRng2 ta) := by
  intro pins s σ H R I h
  refine Call_ (ld_blt I hg hm boot_range (PyProof.Rows.callWith_type1 (thn (ha pos pins s σ H _ I h) fun us s1 ⟨vs, H1, I1, r1, q1⟩ => ?_) (by rw [hs, hs2]) (by rw [hs2]; rfl)))
  obtain ⟨i, j, e, ⟨q1, q2, q3, q4⟩, q⟩ := q1
  subst e
  cases r1 with
  | cons r rr =>
    cases rr with
    | cons r' rr =>
      cases rr
      obtain ⟨t, rfl⟩ := r
      obtain ⟨t', rfl⟩ := r'
      exact call_range_2 (range_it I1 q1 q2 q3 q4 q)

/-! ### for -/
/-- W: the invariant by the turn and a measure; N: what the body is to reach -/
def tFor (wi : TI) (g : TG) (tb : TS) : TS := fun D σ H => wi σ H fun J H1 => ∃ W : Nat → Nat → St → Hp → Prop, (∃ m, W 0 m σ H1) ∧ ∀ i m σ H, W i m σ H →
  (J.stop i H ∧ D.nx σ H) ∨ (J.go i H ∧ ∃ N : St → Hp → Prop, (∀ σ' H', N σ' H' → ∃ m', m' < m ∧ W (i + 1) m' σ' H') ∧ ∀ x H', J.yld i H x H' → g x σ H' fun σ2 H2 => tb { D with nx := N, ct := N, bk := D.nx } σ2 H2)
/-- the records at fp as they stand -/
def pinsAt (fp : List Addr) (h : Heap) : List (Addr × Obj) := fp.filterMap fun b => (h.get? b).map fun o => (b, o)
theorem mem_pinsAt {fp : List Addr} {h : Heap} {b : Addr} {o : Obj} (hb : b ∈ fp) (e : h.get? b = some o) : (b, o) ∈ pinsAt fp h := List.mem_filterMap.mpr ⟨b, hb, by rw [e]; rfl⟩
theorem of_pinsAt {fp : List Addr} {h : Heap} {p : Addr × Obj} (hp : p ∈ pinsAt fp h) : p.1 ∈ fp ∧ h.get? p.1 = some p.2 := by
  obtain ⟨b, hb, e⟩ := List.mem_filterMap.mp hp
  cases q : h.get? b with
  | none => rw [q] at e; cases e
  | some o =>
    rw [q] at e
    have e' : (b, o) = p := Option.some.inj e
    subst e'
    exact ⟨hb, q⟩
theorem Inv.pinned {pins : List (Addr × Obj)} {σ : St} {H : Hp} {s : Shared} {fp : List Addr} (I : Inv X pins σ H s) (hf : ∀ b ∈ fp, FpOk X pins H b) (ho : ∀ b ∈ fp, ∃ o, s.heap.get? b = some o ∧ ∀ v, o.data ≠ .cell v) : Inv X (pins ++ pinsAt fp s.heap) σ H s :=
  I.pins_of fun p hp => (List.mem_append.mp hp).elim (fun z => I.pin p (List.mem_append_right _ z)) fun z => by
    obtain ⟨hb, e⟩ := of_pinsAt z
    obtain ⟨f0, f1, f2, _⟩ := hf p.1 hb
    obtain ⟨o, e', d⟩ := ho p.1 hb
    rw [e] at e'; cases e'
    exact ⟨e, f0, f1, f2, d⟩
theorem Inv.unpinned {pins pl : List (Addr × Obj)} {σ : St} {H : Hp} {s : Shared} (I : Inv X (pins ++ pl) σ H s) : Inv X pins σ H s := I.pins_of fun p hp => I.pin p (List.mem_append_right _ (List.mem_append_left _ hp))
theorem ps_for {iter : Expr} {body : List Stmt} {wi : TI} {g : TG} {tb : TS} {pos : Pos} (hp : PassesOwn (model X.prog X.w) X.A X.env X.xe) (hc : X.calm = true) (hi : PI X tg iter wi) (hg : PG X tg g) (hb : PSs X body tb)
    (hs : ∀ x, foldedSetIterable iter X.env x = pure x := by intro _; rfl) : PS X (.For tg iter body [] pos) (tFor wi g tb) := by
  intro pins s σ H D I h
  refine wpAny_For (thn (hi pins s σ H _ I h) fun v s1 h1 => thn h1 fun itv s2 h2 => ?_) hs
  obtain ⟨it, fp, tn, J, H2, e, I2, T, st2, f2, W, ⟨m0, w0⟩, turn⟩ := h2
  subst e
  -- what stays true of the iterator's objects through the loop
  have stat : ∀ {H' : Hp}, (∀ b ∈ fp, H' b = none) → ∀ b ∈ fp, FpOk X pins H' b := fun hn b hb => ⟨hn b hb, (f2 b hb).2⟩
  refine codeAny_forLoop_any (fun n s' => ∃ i σ' H', Inv X pins σ' H' s' ∧ tn i s'.heap ∧ (∀ b ∈ fp, H' b = none) ∧ W i n σ' H') ?_ m0 ⟨0, σ, H2, I2, st2, fun b hb => (f2 b hb).1, w0⟩
  rintro n s3 ⟨i, σ3, H3, I3, st3, fr3, w3⟩
  rcases turn i n σ3 H3 w3 with ⟨stop, qn⟩ | ⟨go, N, hN, step⟩
  · refine wpAny_passesOwn hp (thn (T.done X rfl rfl rfl hc i pins s3 σ3 H3 X.xe I3 (stat fr3) st3 stop) fun r s4 ⟨hr, I4⟩ => ?_)
    subst hr
    exact wpAny_execs_nil ⟨σ3, H3, I4, qn⟩
  · refine wpAny_passesOwn hp (thn (T.item X rfl rfl rfl hc i pins s3 σ3 H3 X.xe I3 (stat fr3) st3 go) fun r s4 ⟨u, hr, h4⟩ => ?_)
    subst hr
    refine wpAny_passesOwn hp (thn h4 fun _ s5 ⟨x, H5, I5, r5, y5, st5, fr5⟩ => ?_)
    have I5' := I5.pinned (stat fr5) (T.obj _ _ st5)
    refine wpAny_passesOwn hp (thn (hg _ s5 σ3 H5 x u _ I5' r5 (step x H5 y5)) fun _ s6 ⟨σ6, H6, I6, q6⟩ => ?_)
    refine wpAny_passesOwn hp (thn (hb _ s6 σ6 H6 _ I6 q6) fun f s7 q7 => ?_)
    have again : ∀ {σ7 : St} {H7 : Hp}, Inv X (pins ++ pinsAt fp s5.heap) σ7 H7 s7 → N σ7 H7 → ∃ m, m < n ∧ ∃ i σ' H', Inv X pins σ' H' s7 ∧ tn i s7.heap ∧ (∀ b ∈ fp, H' b = none) ∧ W i m σ' H' := fun {σ7 H7} I7 n7 => by
      obtain ⟨m', hm, w7⟩ := hN σ7 H7 n7
      refine ⟨m', hm, i + 1, σ7, H7, I7.unpinned, T.keep _ _ _ st5 fun b hb o e => (I7.pin (b, o) (List.mem_append_right _ (List.mem_append_right _ (mem_pinsAt hb e)))).1, fun b hb => ?_, w7⟩
      obtain ⟨o, e, d⟩ := T.obj _ _ st5 b hb
      exact (I7.pin (b, o) (List.mem_append_right _ (List.mem_append_right _ (mem_pinsAt hb e)))).2.1
    cases f with
    | next => obtain ⟨σ7, H7, I7, n7⟩ := q7; exact again I7 n7
    | cont => obtain ⟨σ7, H7, I7, n7⟩ := q7; exact again I7 n7
    | brk => obtain ⟨σ7, H7, I7, q7⟩ := q7; exact ⟨σ7, H7, I7.unpinned, q7⟩
    | ret v => obtain ⟨x7, σ7, H7, I7, r7, q7⟩ := q7; exact ⟨x7, σ7, H7, I7.unpinned, r7, q7⟩
end

/-! ### the forms one uses -/
/-- over a list that the body leaves as it is -/
theorem for_list {K : PySem.W.Frag} {a : Addr} {xs : List V} {g : TG} {tb : TS} {D : Ends} {σ : St} {H : Hp} (Pv : Nat → St → Hp → Prop) (h0 : Pv 0 σ H) (hl : ∀ i σ H, i ≤ xs.length → Pv i σ H → SqL K H a xs)
    (hs : ∀ i x σ H, xs[i]? = some x → Pv i σ H → g x σ H fun σ2 H2 => tb { D with nx := Pv (i + 1), ct := Pv (i + 1), bk := D.nx } σ2 H2) (hd : ∀ σ H, Pv xs.length σ H → D.nx σ H) :
    ∃ W : Nat → Nat → St → Hp → Prop, (∃ m, W 0 m σ H) ∧ ∀ i m σ H, W i m σ H →
      ((Itl K a).stop i H ∧ D.nx σ H) ∨ ((Itl K a).go i H ∧ ∃ N : St → Hp → Prop, (∀ σ' H', N σ' H' → ∃ m', m' < m ∧ W (i + 1) m' σ' H') ∧ ∀ x H', (Itl K a).yld i H x H' → g x σ H' fun σ2 H2 => tb { D with nx := N, ct := N, bk := D.nx } σ2 H2) := by
  refine ⟨fun i m σ H => m = xs.length - i ∧ i ≤ xs.length ∧ Pv i σ H, ⟨xs.length, by simp, Nat.zero_le _, h0⟩, ?_⟩
  rintro i m σ H ⟨rfl, hi, p⟩
  have q := hl i σ H hi p
  by_cases hlt : i < xs.length
  · refine .inr ⟨⟨xs, xs[i], q, by simp [hlt]⟩, Pv (i + 1), fun σ' H' p' => ⟨xs.length - (i + 1), by omega, rfl, hlt, p'⟩, fun x H' y => ?_⟩
    obtain ⟨e, y⟩ := y
    subst e
    exact hs i x σ _ (y xs q) p
  · have e : i = xs.length := by omega
    subst e
    exact .inl ⟨⟨xs, q, Nat.le_refl _⟩, hd σ H p⟩
theorem for_tup {K : PySem.W.Frag} {a : Addr} {xs : List V} {g : TG} {tb : TS} {D : Ends} {σ : St} {H : Hp} (Pv : Nat → St → Hp → Prop) (h0 : Pv 0 σ H) (hl : ∀ i σ H, i ≤ xs.length → Pv i σ H → SqT K H a xs)
    (hs : ∀ i x σ H, xs[i]? = some x → Pv i σ H → g x σ H fun σ2 H2 => tb { D with nx := Pv (i + 1), ct := Pv (i + 1), bk := D.nx } σ2 H2) (hd : ∀ σ H, Pv xs.length σ H → D.nx σ H) :
    ∃ W : Nat → Nat → St → Hp → Prop, (∃ m, W 0 m σ H) ∧ ∀ i m σ H, W i m σ H →
      ((Itt K a).stop i H ∧ D.nx σ H) ∨ ((Itt K a).go i H ∧ ∃ N : St → Hp → Prop, (∀ σ' H', N σ' H' → ∃ m', m' < m ∧ W (i + 1) m' σ' H') ∧ ∀ x H', (Itt K a).yld i H x H' → g x σ H' fun σ2 H2 => tb { D with nx := N, ct := N, bk := D.nx } σ2 H2) := by
  refine ⟨fun i m σ H => m = xs.length - i ∧ i ≤ xs.length ∧ Pv i σ H, ⟨xs.length, by simp, Nat.zero_le _, h0⟩, ?_⟩
  rintro i m σ H ⟨rfl, hi, p⟩
  have q := hl i σ H hi p
  by_cases hlt : i < xs.length
  · refine .inr ⟨⟨xs, xs[i], q, by simp [hlt]⟩, Pv (i + 1), fun σ' H' p' => ⟨xs.length - (i + 1), by omega, rfl, hlt, p'⟩, fun x H' y => ?_⟩
    obtain ⟨e, y⟩ := y
    subst e
    exact hs i x σ _ (y xs q) p
  · have e : i = xs.length := by omega
    subst e
    exact .inl ⟨⟨xs, q, Nat.le_refl _⟩, hd σ H p⟩
theorem for_range {lo : Int} {n : Nat} {g : TG} {tb : TS} {D : Ends} {σ : St} {H : Hp} (Pv : Nat → St → Hp → Prop) (h0 : Pv 0 σ H)
    (hs : ∀ i σ H, i < n → Pv i σ H → g (.int (lo + i)) σ H fun σ2 H2 => tb { D with nx := Pv (i + 1), ct := Pv (i + 1), bk := D.nx } σ2 H2) (hd : ∀ σ H, Pv n σ H → D.nx σ H) :
    ∃ W : Nat → Nat → St → Hp → Prop, (∃ m, W 0 m σ H) ∧ ∀ i m σ H, W i m σ H →
      ((Itr lo n).stop i H ∧ D.nx σ H) ∨ ((Itr lo n).go i H ∧ ∃ N : St → Hp → Prop, (∀ σ' H', N σ' H' → ∃ m', m' < m ∧ W (i + 1) m' σ' H') ∧ ∀ x H', (Itr lo n).yld i H x H' → g x σ H' fun σ2 H2 => tb { D with nx := N, ct := N, bk := D.nx } σ2 H2) := by
  refine ⟨fun i m σ H => m = n - i ∧ i ≤ n ∧ Pv i σ H, ⟨n, by simp, Nat.zero_le _, h0⟩, ?_⟩
  rintro i m σ H ⟨rfl, hi, p⟩
  by_cases hlt : i < n
  · refine .inr ⟨hlt, Pv (i + 1), fun σ' H' p' => ⟨n - (i + 1), by omega, rfl, hlt, p'⟩, fun x H' y => ?_⟩
    obtain ⟨e, y⟩ := y
    subst e y
    exact hs i σ _ hlt p
  · have e : i = n := by omega
    subst e
    exact .inl ⟨Nat.le_refl _, hd σ H p⟩
/-- while, by a word and a measure of the state -/
theorem while_by {c : TT} {tb : TS} {D : Ends} {σ : St} {H : Hp} (Pv : St → Hp → Prop) (μ : St → Hp → Nat) (h0 : Pv σ H)
    (hs : ∀ σ H, Pv σ H → c σ H fun b H1 => if b = true then tb { D with nx := fun σ' H' => Pv σ' H' ∧ μ σ' H' < μ σ H, ct := fun σ' H' => Pv σ' H' ∧ μ σ' H' < μ σ H, bk := D.nx } σ H1 else D.nx σ H1)
    (mono : ∀ σ H Q Q', (∀ b H1, Q b H1 → Q' b H1) → c σ H Q → c σ H Q') : tWhile c tb D σ H := by
  refine ⟨fun m σ H => m = μ σ H ∧ Pv σ H, ⟨_, rfl, h0⟩, ?_⟩
  rintro m σ H ⟨rfl, p⟩
  refine mono σ H _ _ (fun b H1 q => ?_) (hs σ H p)
  cases b with
  | true => exact ⟨_, fun σ' H' ⟨p', l⟩ => ⟨_, l, rfl, p'⟩, q⟩
  | false => exact q
end L2

namespace L2
open PySem PySem.Spec PyProof.Rows

abbrev R2 := V → V → Hp → VK → Prop
/-- a two-place operation on values: f is binaryOp op, inplaceOp op or compareOp op -/
def OpR (X : Cx) (f : Value → Value → Sem Value) (r : R2) : Prop :=
  ∀ (pins : List (Addr × Obj)) (s : Shared) (σ : St) (H : Hp) (x y : V) (v u : Value) (Q : VK), Inv X pins σ H s → RelV x v → RelV y u → r x y H Q →
    wpAny (model X.prog X.w) X.A (f v u) (EP X pins σ Q) X.xe s
/-- a one-place operation -/
def UnR (X : Cx) (f : Value → Sem Value) (r : V → Hp → VK → Prop) : Prop :=
  ∀ (pins : List (Addr × Obj)) (s : Shared) (σ : St) (H : Hp) (x : V) (v : Value) (Q : VK), Inv X pins σ H s → RelV x v → r x H Q →
    wpAny (model X.prog X.w) X.A (f v) (EP X pins σ Q) X.xe s
/-- a call of a value that is known (a builtin, a type) with values -/
def CallR (X : Cx) (f : Value) (r : List V → Hp → VK → Prop) : Prop :=
  ∀ (pins : List (Addr × Obj)) (s : Shared) (σ : St) (H : Hp) (xs : List V) (us : List Value) (Q : VK), Inv X pins σ H s → Vals xs us → r xs H Q →
    wpAny (model X.prog X.w) X.A (call f us) (EP X pins σ Q) X.xe s
/-- a value's truth -/
def TruR (X : Cx) (r : V → Hp → (Bool → Hp → Prop) → Prop) : Prop :=
  ∀ (pins : List (Addr × Obj)) (s : Shared) (σ : St) (H : Hp) (x : V) (v : Value) (Q : Bool → Hp → Prop), Inv X pins σ H s → RelV x v → r x H Q →
    wpAny (model X.prog X.w) X.A (truthy v) (TP X pins σ Q) X.xe s

def tOp (r : R2) (ta tb : TE) : TE := fun σ H Q => ta σ H fun x H1 => tb σ H1 fun y H2 => r x y H2 Q
def tUn (r : V → Hp → VK → Prop) (ta : TE) : TE := fun σ H Q => ta σ H fun x H1 => r x H1 Q
/-- ints in, under C, and a value out -/
def rI (C : Int → Int → Prop) (g : Int → Int → V) : R2 := fun x y H Q => ∃ i j, x = .int i ∧ y = .int j ∧ C i j ∧ Q (g i j) H
def rI0 (g : Int → Int → V) : R2 := fun x y H Q => ∃ i j, x = .int i ∧ y = .int j ∧ Q (g i j) H
def rU (g : Int → V) : V → Hp → VK → Prop := fun x H Q => ∃ i, x = .int i ∧ Q (g i) H

section
variable {X : Cx} {a b c : Expr} {ta tb tc : TE} {pos : Pos}

theorem binT (ha : PE X a ta) (hb : PE X b tb) {pins : List (Addr × Obj)} {s : Shared} {σ : St} {H : Hp} {R : V → V → Hp → Prop} (I : Inv X pins σ H s)
    (h : ta σ H fun x H1 => tb σ H1 fun y H2 => R x y H2) {Q : Value → Shared → Prop} {f : Value → Value → Sem Value}
    (hf : ∀ v u s2 x y H2, Inv X pins σ H2 s2 → RelV x v → RelV y u → R x y H2 → wpAny (model X.prog X.w) X.A (f v u) Q X.xe s2) :
    wpAny (model X.prog X.w) X.A (eval a X.env) (fun v s₁ => wpAny (model X.prog X.w) X.A (eval b X.env) (fun u s₂ => wpAny (model X.prog X.w) X.A (f v u) Q X.xe s₂) X.xe s₁) X.xe s := by
  refine thn (ha pins s σ H _ I h) fun v s1 ⟨x, H1, I1, r1, q1⟩ => ?_
  refine thn (hb pins s1 σ H1 _ I1 q1) fun u s2 ⟨y, H2, I2, r2, q2⟩ => ?_
  exact hf v u s2 x y H2 I2 r1 r2 q2

theorem pe_op {op : Operator} {r : R2} (ho : OpR X (binaryOp op) r) (ha : PE X a ta) (hb : PE X b tb) : PE X (.BinOp a op b pos) (tOp r ta tb) := by
  intro pins s σ H Q I h
  exact wpAny_BinOp (binT ha hb I h fun v u s2 x y H2 I2 rx ry q => ho pins s2 σ H2 x y v u Q I2 rx ry q)
theorem pe_un {op : UnaryOp} {r : V → Hp → VK → Prop} (ho : UnR X (unaryOp op) r) (ha : PE X a ta) : PE X (.UnaryOp op a pos) (tUn r ta) := by
  intro pins s σ H Q I h
  exact UnaryOp_ (thn (ha pins s σ H _ I h) fun v s1 ⟨x, H1, I1, r1, q1⟩ => ho pins s1 σ H1 x v Q I1 r1 q1)
/-- a op= e at a name: the name's slot i -/
theorem augR {op : Operator} {r : R2} (ho : OpR X (inplaceOp op) r) {pins : List (Addr × Obj)} {s : Shared} {σ : St} {H : Hp} {x y : V} {v u : Value} {Q : VK} (I : Inv X pins σ H s)
    (rx : RelV x v) (ry : RelV y u) (q : r x y H Q) : wpAny (model X.prog X.w) X.A (inplaceOp op v u) (EP X pins σ Q) X.xe s := ho pins s σ H x y v u Q I rx ry q

/-! ### ints -/
theorem opI {f : Value → Value → Sem Value} {C : Int → Int → Prop} {g : Int → Int → Int}
    (rule : ∀ (i j : Int) (t u : Tok) (s : Shared) (Q : Value → Shared → Prop) (E : Value → Shared → Prop), C i j → Q (.int (g i j) s.toks) { s with toks := s.toks + 1 } → wpAny (model X.prog X.w) X.A (f (.int i t) (.int j u)) Q E s) :
    OpR X f (rI C fun i j => .int (g i j)) := by
  intro pins s σ H x y v u Q I rx ry h
  obtain ⟨i, j, rfl, rfl, hc, q⟩ := h
  obtain ⟨t, rfl⟩ := rx
  obtain ⟨t', rfl⟩ := ry
  exact rule i j t t' s _ _ hc ⟨.int (g i j), H, I.tok _, ⟨_, rfl⟩, q⟩
theorem opI0 {f : Value → Value → Sem Value} {g : Int → Int → Int}
    (rule : ∀ (i j : Int) (t u : Tok) (s : Shared) (Q : Value → Shared → Prop) (E : Value → Shared → Prop), Q (.int (g i j) s.toks) { s with toks := s.toks + 1 } → wpAny (model X.prog X.w) X.A (f (.int i t) (.int j u)) Q E s) :
    OpR X f (rI0 fun i j => .int (g i j)) := by
  intro pins s σ H x y v u Q I rx ry h
  obtain ⟨i, j, rfl, rfl, q⟩ := h
  obtain ⟨t, rfl⟩ := rx
  obtain ⟨t', rfl⟩ := ry
  exact rule i j t t' s _ _ ⟨.int (g i j), H, I.tok _, ⟨_, rfl⟩, q⟩
theorem opB0 {f : Value → Value → Sem Value} {g : Int → Int → Bool}
    (rule : ∀ (i j : Int) (t u : Tok) (s : Shared) (Q : Value → Shared → Prop) (E : Value → Shared → Prop), Q (.bool (g i j)) s → wpAny (model X.prog X.w) X.A (f (.int i t) (.int j u)) Q E s) :
    OpR X f (rI0 fun i j => .bl (g i j)) := by
  intro pins s σ H x y v u Q I rx ry h
  obtain ⟨i, j, rfl, rfl, q⟩ := h
  obtain ⟨t, rfl⟩ := rx
  obtain ⟨t', rfl⟩ := ry
  exact rule i j t t' s _ _ ⟨.bl (g i j), H, I, rfl, q⟩

def CDiv (i j : Int) : Prop := 0 < j ∧ j < 1073741824
def CDivN (i j : Int) : Prop := j ≠ 0 ∧ j.natAbs < 1073741824
def CPow (i j : Int) : Prop := 0 ≤ j ∧ j ≤ 1000000 ∧ i.natAbs < 2 ^ 64
def CMul (i j : Int) : Prop := (-(2 ^ 64) < i ∧ i < 2 ^ 64) ∨ (-(2 ^ 64) < j ∧ j < 2 ^ 64)
theorem CMul.ok {i j : Int} (h : CMul i j) : IntMulOk i j := by
  rcases h with ⟨h1, h2⟩ | ⟨h1, h2⟩
  · exact .of_left (intBits_le_64 h1 h2)
  · exact .of_right (intBits_le_64 h1 h2)
theorem two_pow_nn (k : Nat) : (0 : Int) ≤ 2 ^ k := by
  rw [two_pow_cast]
  exact Int.natCast_nonneg _

theorem op_add : OpR X (binaryOp .Add) (rI0 fun i j => .int (i + j)) := opI0 fun _ _ _ _ _ _ _ q => add_int q
theorem op_sub : OpR X (binaryOp .Sub) (rI0 fun i j => .int (i - j)) := opI0 fun _ _ _ _ _ _ _ q => sub_int q
theorem op_mul : OpR X (binaryOp .Mult) (rI CMul fun i j => .int (i * j)) := opI fun _ _ _ _ _ _ _ hc q => mul_int q hc.ok
/-- // by a positive divisor -/
theorem op_fdiv : OpR X (binaryOp .FloorDiv) (rI CDiv fun i j => .int (i / j)) := opI fun i j _ _ _ _ _ hc q => by
  have h1 : (0 : Int) < j := hc.1
  have h2 : j < 1073741824 := hc.2
  exact floordiv_int (by omega) (by rw [Int.fdiv_eq_ediv_of_nonneg i (by omega)]; exact q) (.inl (PyProof.noPylong_small (by omega)))
theorem op_fdivN : OpR X (binaryOp .FloorDiv) (rI CDivN fun i j => .int (i.fdiv j)) := opI fun _ _ _ _ _ _ _ hc q => floordiv_int hc.1 q (.inl (PyProof.noPylong_small hc.2))
/-- % by a positive divisor of any size -/
theorem op_mod : OpR X (binaryOp .Mod) (rI (fun _ j => 0 < j) fun i j => .int (i % j)) := opI fun i j _ _ _ _ _ hc q => by
  have h1 : (0 : Int) < j := hc
  exact mod_int' (by omega) (by rw [Int.fmod_eq_emod_of_nonneg i (by omega)]; exact q)
theorem op_modN : OpR X (binaryOp .Mod) (rI (fun _ j => j ≠ 0) fun i j => .int (i.fmod j)) := opI fun _ _ _ _ _ _ _ hc q => mod_int' hc q
theorem op_pow : OpR X (binaryOp .Pow) (rI CPow fun i j => .int (i ^ j.toNat)) := opI fun _ _ _ _ _ _ _ hc q => pow_int_small hc.1 hc.2.1 hc.2.2 q
theorem op_shl : OpR X (binaryOp .LShift) (rI CPow fun i j => .int (i * 2 ^ j.toNat)) := opI fun _ _ _ _ _ _ _ hc q => lshift_int_small hc.1 hc.2.1 hc.2.2 q
theorem op_shr : OpR X (binaryOp .RShift) (rI (fun _ j => 0 ≤ j) fun i j => .int (i / 2 ^ j.toNat)) := opI fun i j _ _ _ _ _ hc q =>
  rshift_int hc (by rw [Int.fdiv_eq_ediv_of_nonneg i (two_pow_nn _)]; exact q)
theorem op_and : OpR X (binaryOp .BitAnd) (rI0 fun i j => .int (Builtin.bitAnd i j)) := opI0 fun _ _ _ _ _ _ _ q => and_int q
theorem op_or : OpR X (binaryOp .BitOr) (rI0 fun i j => .int (Builtin.bitOr i j)) := opI0 fun _ _ _ _ _ _ _ q => or_int q
theorem op_xor : OpR X (binaryOp .BitXor) (rI0 fun i j => .int (Builtin.bitXor i j)) := opI0 fun _ _ _ _ _ _ _ q => xor_int q

theorem iop_add : OpR X (inplaceOp .Add) (rI0 fun i j => .int (i + j)) := opI0 fun _ _ _ _ _ _ _ q => iadd_int q
theorem iop_sub : OpR X (inplaceOp .Sub) (rI0 fun i j => .int (i - j)) := opI0 fun _ _ _ _ _ _ _ q => isub_int q
theorem iop_mul : OpR X (inplaceOp .Mult) (rI CMul fun i j => .int (i * j)) := opI fun _ _ _ _ _ _ _ hc q => imul_int q hc.ok
theorem iop_fdiv : OpR X (inplaceOp .FloorDiv) (rI CDiv fun i j => .int (i / j)) := opI fun i j _ _ _ _ _ hc q => by
  have h1 : (0 : Int) < j := hc.1
  have h2 : j < 1073741824 := hc.2
  exact ifloordiv_int (by omega) (by rw [Int.fdiv_eq_ediv_of_nonneg i (by omega)]; exact q) (.inl (PyProof.noPylong_small (by omega)))
theorem iop_mod : OpR X (inplaceOp .Mod) (rI (fun _ j => 0 < j) fun i j => .int (i % j)) := opI fun i j _ _ _ _ _ hc q => by
  have h1 : (0 : Int) < j := hc
  exact imod_int (by omega) (by rw [Int.fmod_eq_emod_of_nonneg i (by omega)]; exact q)
theorem iop_shl : OpR X (inplaceOp .LShift) (rI CPow fun i j => .int (i * 2 ^ j.toNat)) := opI fun _ _ _ _ _ _ _ hc q => ilshift_int_small hc.1 hc.2.1 hc.2.2 q
theorem iop_shr : OpR X (inplaceOp .RShift) (rI (fun _ j => 0 ≤ j) fun i j => .int (i / 2 ^ j.toNat)) := opI fun i j _ _ _ _ _ hc q =>
  irshift_int hc (by rw [Int.fdiv_eq_ediv_of_nonneg i (two_pow_nn _)]; exact q)
theorem iop_and : OpR X (inplaceOp .BitAnd) (rI0 fun i j => .int (Builtin.bitAnd i j)) := opI0 fun _ _ _ _ _ _ _ q => iand_int q
theorem iop_or : OpR X (inplaceOp .BitOr) (rI0 fun i j => .int (Builtin.bitOr i j)) := opI0 fun _ _ _ _ _ _ _ q => ior_int q
theorem iop_xor : OpR X (inplaceOp .BitXor) (rI0 fun i j => .int (Builtin.bitXor i j)) := opI0 fun _ _ _ _ _ _ _ q => ixor_int q

theorem unI {f : Value → Sem Value} {g : Int → Int}
    (rule : ∀ (i : Int) (t : Tok) (s : Shared) (Q : Value → Shared → Prop) (E : Value → Shared → Prop), Q (.int (g i) s.toks) { s with toks := s.toks + 1 } → wpAny (model X.prog X.w) X.A (f (.int i t)) Q E s) :
    UnR X f (rU fun i => .int (g i)) := by
  intro pins s σ H x v Q I rx h
  obtain ⟨i, rfl, q⟩ := h
  obtain ⟨t, rfl⟩ := rx
  exact rule i t s _ _ ⟨.int (g i), H, I.tok _, ⟨_, rfl⟩, q⟩
theorem un_neg : UnR X (unaryOp .USub) (rU fun i => .int (-i)) := unI fun _ _ _ _ _ q => neg_int q
theorem un_inv : UnR X (unaryOp .Invert) (rU fun i => .int (Builtin.bitNot i)) := unI fun _ _ _ _ _ q => invert_int q

/-! ### bools among ints: n += (a < b) -/
theorem op_add_ib : OpR X (binaryOp .Add) (fun x y H Q => ∃ i k, x = .int i ∧ y = .bl k ∧ Q (.int (i + b2i k)) H) := by
  intro pins s σ H x y v u Q I rx ry h
  obtain ⟨i, k, rfl, rfl, q⟩ := h
  obtain ⟨t, rfl⟩ := rx
  cases ry
  exact add_int_bool ⟨.int (i + b2i k), H, I.tok _, ⟨_, rfl⟩, q⟩
end

/-! ### comparisons -/
/-- the scalars that == tells apart as data does -/
def scal : V → V → Bool
  | .non, .non => true | .non, .int _ => true | .int _, .non => true | .non, .bl _ => true | .bl _, .non => true | .non, .str _ => true | .str _, .non => true
  | .int _, .int _ => true | .bl _, .bl _ => true | .str _, .str _ => true | .byt _, .byt _ => true
  | .int _, .str _ => true | .str _, .int _ => true | .bl _, .str _ => true | .str _, .bl _ => true
  | _, _ => false
def rEq : R2 := fun x y H Q => scal x y = true ∧ Q (.bl (decide (x = y))) H
def rNe : R2 := fun x y H Q => scal x y = true ∧ Q (.bl (!decide (x = y))) H

theorem dec_int {i j : Int} : decide (V.int i = V.int j) = (i == j) := by
  rw [Bool.eq_iff_iff]
  simp
theorem dec_bl {i j : Bool} : decide (V.bl i = V.bl j) = (i == j) := by
  rw [Bool.eq_iff_iff]
  simp
theorem dec_str {i j : Str} : decide (V.str i = V.str j) = (i == j) := by
  rw [Bool.eq_iff_iff]
  simp
theorem dec_byt {i j : Array UInt8} : decide (V.byt i = V.byt j) = (i.toList == j.toList) := by
  rw [Bool.eq_iff_iff]
  cases i
  cases j
  simp

section
variable {X : Cx} {a b c : Expr} {ta tb tc : TE} {pos : Pos}
theorem fin_bl {pins : List (Addr × Obj)} {σ : St} {H : Hp} {s : Shared} {Q : VK} {k k' : Bool} (I : Inv X pins σ H s) (q : Q (.bl k) H) (e : k = k') : EP X pins σ Q (.bool k') s := by
  subst e
  exact ⟨.bl k, H, I, rfl, q⟩
theorem op_eq : OpR X (compareOp .Eq) rEq := by
  intro pins s σ H x y v u Q I rx ry h
  obtain ⟨hs, q⟩ := h
  cases x with
  | non =>
    cases rx
    cases y with
    | non => cases ry; exact PySem.EqNone.eq_none_none (fin_bl I q (by simp))
    | bl j => cases ry; exact PySem.EqNone.eq_none_bool (fin_bl I q (by simp))
    | int j => obtain ⟨t', rfl⟩ := ry; exact PySem.EqNone.eq_none_int (fin_bl I q (by simp))
    | str j => obtain ⟨t', rfl⟩ := ry; exact PySem.EqNone.eq_none_str (fin_bl I q (by simp))
    | _ => exact absurd (show false = true from hs) Bool.false_ne_true
  | bl i =>
    cases rx
    cases y with
    | non => cases ry; exact PySem.EqNone.eq_bool_none (fin_bl I q (by simp))
    | bl j => cases ry; exact eq_bool (fin_bl I q dec_bl)
    | str j => obtain ⟨t', rfl⟩ := ry; exact PySem.EqMixed.eq_bool_str (fin_bl I q (by simp))
    | _ => exact absurd (show false = true from hs) Bool.false_ne_true
  | int i =>
    obtain ⟨t, rfl⟩ := rx
    cases y with
    | non => cases ry; exact PySem.EqNone.eq_int_none (fin_bl I q (by simp))
    | int j => obtain ⟨t', rfl⟩ := ry; exact eq_int (fin_bl I q dec_int)
    | str j => obtain ⟨t', rfl⟩ := ry; exact PySem.EqMixed.eq_int_str (fin_bl I q (by simp))
    | _ => exact absurd (show false = true from hs) Bool.false_ne_true
  | str i =>
    obtain ⟨t, rfl⟩ := rx
    cases y with
    | non => cases ry; exact PySem.EqNone.eq_str_none (fin_bl I q (by simp))
    | bl j => cases ry; exact PySem.EqMixed.eq_str_bool (fin_bl I q (by simp))
    | int j => obtain ⟨t', rfl⟩ := ry; exact PySem.EqMixed.eq_str_int (fin_bl I q (by simp))
    | str j => obtain ⟨t', rfl⟩ := ry; exact eq_str (fin_bl I q dec_str)
    | _ => exact absurd (show false = true from hs) Bool.false_ne_true
  | byt i =>
    obtain ⟨t, rfl⟩ := rx
    cases y with
    | byt j => obtain ⟨t', rfl⟩ := ry; exact PySem.W.eq_bytes (fin_bl I q dec_byt)
    | _ => exact absurd (show false = true from hs) Bool.false_ne_true
  | _ => cases y <;> exact absurd (show false = true from hs) Bool.false_ne_true
theorem op_ne : OpR X (compareOp .NotEq) rNe := by
  intro pins s σ H x y v u Q I rx ry h
  obtain ⟨hs, q⟩ := h
  cases x with
  | non =>
    cases rx
    cases y with
    | non => cases ry; exact PySem.EqNone.ne_none_none (fin_bl I q (by simp))
    | bl j => cases ry; exact PySem.EqNone.ne_none_bool (fin_bl I q (by simp))
    | int j => obtain ⟨t', rfl⟩ := ry; exact PySem.EqNone.ne_none_int (fin_bl I q (by simp))
    | str j => obtain ⟨t', rfl⟩ := ry; exact PySem.EqNone.ne_none_str (fin_bl I q (by simp))
    | _ => exact absurd (show false = true from hs) Bool.false_ne_true
  | bl i =>
    cases rx
    cases y with
    | non => cases ry; exact PySem.EqNone.ne_bool_none (fin_bl I q (by simp))
    | bl j => cases ry; exact ne_bool (fin_bl I q (congrArg not dec_bl))
    | str j => obtain ⟨t', rfl⟩ := ry; exact PySem.EqMixed.ne_bool_str (fin_bl I q (by simp))
    | _ => exact absurd (show false = true from hs) Bool.false_ne_true
  | int i =>
    obtain ⟨t, rfl⟩ := rx
    cases y with
    | non => cases ry; exact PySem.EqNone.ne_int_none (fin_bl I q (by simp))
    | int j => obtain ⟨t', rfl⟩ := ry; exact ne_int (fin_bl I q (congrArg not dec_int))
    | str j => obtain ⟨t', rfl⟩ := ry; exact PySem.EqMixed.ne_int_str (fin_bl I q (by simp))
    | _ => exact absurd (show false = true from hs) Bool.false_ne_true
  | str i =>
    obtain ⟨t, rfl⟩ := rx
    cases y with
    | non => cases ry; exact PySem.EqNone.ne_str_none (fin_bl I q (by simp))
    | bl j => cases ry; exact PySem.EqMixed.ne_str_bool (fin_bl I q (by simp))
    | int j => obtain ⟨t', rfl⟩ := ry; exact PySem.EqMixed.ne_str_int (fin_bl I q (by simp))
    | str j => obtain ⟨t', rfl⟩ := ry; exact ne_str (fin_bl I q (congrArg not dec_str))
    | _ => exact absurd (show false = true from hs) Bool.false_ne_true
  | byt i =>
    obtain ⟨t, rfl⟩ := rx
    cases y with
    | byt j => obtain ⟨t', rfl⟩ := ry; exact PySem.W.ne_bytes (fin_bl I q (congrArg not dec_byt))
    | _ => exact absurd (show false = true from hs) Bool.false_ne_true
  | _ => cases y <;> exact absurd (show false = true from hs) Bool.false_ne_true

theorem op_lt : OpR X (compareOp .Lt) (rI0 fun i j => .bl (decide (i < j))) := opB0 fun _ _ _ _ _ _ _ q => lt_int q
theorem op_le : OpR X (compareOp .LtE) (rI0 fun i j => .bl (decide (i ≤ j))) := opB0 fun _ _ _ _ _ _ _ q => le_int q
theorem op_gt : OpR X (compareOp .Gt) (rI0 fun i j => .bl (decide (j < i))) := opB0 fun _ _ _ _ _ _ _ q => gt_int q
theorem op_ge : OpR X (compareOp .GtE) (rI0 fun i j => .bl (decide (j ≤ i))) := opB0 fun _ _ _ _ _ _ _ q => ge_int q
theorem op_lt_str : OpR X (compareOp .Lt) (fun x y H Q => ∃ i j, x = .str i ∧ y = .str j ∧ Q (.bl (decide (i.cps.toList < j.cps.toList))) H) := by
  intro pins s σ H x y v u Q I rx ry h
  obtain ⟨i, j, rfl, rfl, q⟩ := h
  obtain ⟨t, rfl⟩ := rx
  obtain ⟨t', rfl⟩ := ry
  exact lt_str (fin_bl I q rfl)
/-- the one string within the other -/
theorem op_in_str : OpR X (compareOp .In) (fun x y H Q => ∃ i j, x = .str i ∧ y = .str j ∧ Q (.bl (!(Builtin.Str.occurrences j i 0 j.length 1).isEmpty)) H) := by
  intro pins s σ H x y v u Q I rx ry h
  obtain ⟨i, j, rfl, rfl, q⟩ := h
  obtain ⟨t, rfl⟩ := rx
  obtain ⟨t', rfl⟩ := ry
  exact in_str (fin_bl I q rfl)

/-- is None, is not None: the right side a value none -/
theorem op_isN : OpR X (compareOp .Is) (fun x y H Q => y = .non ∧ Q (.bl (decide (x = .non))) H) := by
  intro pins s σ H x y v u Q I rx ry h
  obtain ⟨rfl, q⟩ := h
  cases ry
  refine is_none_gen (fin_bl I q ?_)
  cases x <;> first
    | (cases rx; rfl)
    | (obtain ⟨t, rfl⟩ := rx; rfl)
theorem op_notN : OpR X (compareOp .IsNot) (fun x y H Q => y = .non ∧ Q (.bl (!decide (x = .non))) H) := by
  intro pins s σ H x y v u Q I rx ry h
  obtain ⟨rfl, q⟩ := h
  cases ry
  refine isnot_none_gen (fin_bl I q ?_)
  cases x <;> first
    | (cases rx; rfl)
    | (obtain ⟨t, rfl⟩ := rx; rfl)

theorem op_notin_str : OpR X (compareOp .NotIn) (fun x y H Q => ∃ i j, x = .str i ∧ y = .str j ∧ Q (.bl (!(!(Builtin.Str.occurrences j i 0 j.length 1).isEmpty))) H) := by
  intro pins s σ H x y v u Q I rx ry h
  obtain ⟨i, j, rfl, rfl, q⟩ := h
  obtain ⟨t, rfl⟩ := rx
  obtain ⟨t', rfl⟩ := ry
  exact notIn_str (fin_bl I q rfl)
/-- is, is not of two objects that are tracked lists or instances -/
def isObj : HO → Bool
  | .lst _ => true
  | .ins _ _ _ => true
  | _ => false
theorem obj_there {pins : List (Addr × Obj)} {s : Shared} {σ : St} {H : Hp} {a : Addr} {o : HO} (I : Inv X pins σ H s) (h : H a = some o) (p : isObj o = true) : ∃ ob, s.heap.get? a = some ob ∧ ob.cls ≠ .type "tuple" := by
  cases o with
  | lst xs =>
    obtain ⟨_, its, n, _, e⟩ : xs.length ≤ sizeLine ∧ ∃ (its : List Value) (n : Nat), Vals xs its ∧ s.heap.get? a = some { cls := .type "list", data := .seq its.toArray n } := I.hok a _ h
    exact ⟨_, e, (by show Value.type "list" ≠ .type "tuple"; decide +kernel)⟩
  | ins C dx fs =>
    have x := I.hok a _ h
    obtain ⟨_, _, _, e, _⟩ := x
    exact ⟨_, e, (by show Value.ref C ≠ .type "tuple"; exact fun z => by cases z)⟩
  | _ => exact absurd (show false = true from p) Bool.false_ne_true
theorem op_is_ref : OpR X (compareOp .Is) (fun x y H Q => ∃ a b oa ob, x = .ref a ∧ y = .ref b ∧ H a = some oa ∧ isObj oa = true ∧ H b = some ob ∧ isObj ob = true ∧ Q (.bl (decide (a = b))) H) := by
  intro pins s σ H x y v u Q I rx ry h
  obtain ⟨a, b, oa, ob, rfl, rfl, ha, pa, hb, pb, q⟩ := h
  cases rx
  cases ry
  obtain ⟨o1, e1, n1⟩ := obj_there I ha pa
  obtain ⟨o2, e2, _⟩ := obj_there I hb pb
  by_cases z : a = b
  · subst z
    exact wpAny_is_ref_self (fin_bl I q (by simp))
  · exact wpAny_is_ref_other z e1 e2 n1 (fin_bl I q (by simp [z]))
theorem op_isnot_ref : OpR X (compareOp .IsNot) (fun x y H Q => ∃ a b oa ob, x = .ref a ∧ y = .ref b ∧ H a = some oa ∧ isObj oa = true ∧ H b = some ob ∧ isObj ob = true ∧ Q (.bl (!decide (a = b))) H) := by
  intro pins s σ H x y v u Q I rx ry h
  obtain ⟨a, b, oa, ob, rfl, rfl, ha, pa, hb, pb, q⟩ := h
  cases rx
  cases ry
  obtain ⟨o1, e1, n1⟩ := obj_there I ha pa
  obtain ⟨o2, e2, _⟩ := obj_there I hb pb
  by_cases z : a = b
  · subst z
    exact wpAny_isNot_ref_self (fin_bl I q (by simp))
  · exact wpAny_isNot_ref_other z e1 e2 n1 (fin_bl I q (by simp [z]))

/-- two rules for one operation: by cases -/
theorem OpR.or {f : Value → Value → Sem Value} {r r' : R2} (h : OpR X f r) (h' : OpR X f r') : OpR X f (fun x y H Q => r x y H Q ∨ r' x y H Q) := by
  intro pins s σ H x y v u Q I rx ry q
  rcases q with q | q
  · exact h pins s σ H x y v u Q I rx ry q
  · exact h' pins s σ H x y v u Q I rx ry q

theorem nomark (b : Expr) {op : CmpOp} (h : op ≠ .In := by decide) (h2 : op ≠ .NotIn := by decide) : behindInMarks op b = false := by
  have e1 : (op == CmpOp.In) = false := by cases op <;> first | rfl | exact absurd rfl h
  have e2 : (op == CmpOp.NotIn) = false := by cases op <;> first | rfl | exact absurd rfl h2
  cases b <;> simp [behindInMarks, e1, e2]
/-- a comparison as a value; hm: nomark b, or (for in, not in) by with_unfolding_all rfl -/
theorem pe_cmpR {op : CmpOp} {r : R2} (ho : OpR X (compareOp op) r) (ha : PE X a ta) (hb : PE X b tb) (hm : behindInMarks op b = false) : PE X (.Compare a [op] [b] pos) (tOp r ta tb) := by
  intro pins s σ H Q I h
  exact wpAny_Compare1 (binT ha hb I h fun v u s2 x y H2 I2 rx ry q => ho pins s2 σ H2 x y v u Q I2 rx ry q) hm
/-- a reading of a value as a test -/
def tTest (t : TE) : TT := fun σ H Q => t σ H fun x H' => ∃ k, x = .bl k ∧ Q k H'
theorem pt_cmpR {op : CmpOp} {r : R2} (ho : OpR X (compareOp op) r) (ha : PE X a ta) (hb : PE X b tb) (hm : behindInMarks op b = false) : PT X (.Compare a [op] [b] pos) (tTest (tOp r ta tb)) := by
  intro pins s σ H Q I h
  refine wpAny_isTrue_Compare1 (thn (ha pins s σ H _ I h) fun v s1 ⟨x, H1, I1, r1, q1⟩ => thn (hb pins s1 σ H1 _ I1 q1) fun u s2 ⟨y, H2, I2, r2, q2⟩ =>
    thn (ho pins s2 σ H2 x y v u _ I2 r1 r2 q2) fun c s3 ⟨z, H3, I3, r3, k, e, q3⟩ => ?_) hm
  subst e
  cases r3
  exact wpAny_truthy_bool ⟨H3, I3, q3⟩
/-- a op1 b op2 c -/
def tChain (r r' : R2) (ta tb tc : TE) : TE := fun σ H Q => ta σ H fun x H1 => tb σ H1 fun y H2 => r x y H2 fun z H3 => ∃ k, z = .bl k ∧
  (if k = true then tc σ H3 fun w' H4 => r' y w' H4 Q else Q (.bl false) H3)
theorem pe_chain {op op' : CmpOp} {r r' : R2} (ho : OpR X (compareOp op) r) (ho' : OpR X (compareOp op') r') (ha : PE X a ta) (hb : PE X b tb) (hc : PE X c tc)
    (hm : lastMarks [op, op'] [b, c] = false := by with_unfolding_all rfl) : PE X (.Compare a [op, op'] [b, c] pos) (tChain r r' ta tb tc) := by
  intro pins s σ H Q I h
  refine Compare_chain (thn (ha pins s σ H _ I h) fun v s1 ⟨x, H1, I1, r1, q1⟩ => chain_link (thn (hb pins s1 σ H1 _ I1 q1) fun u s2 ⟨y, H2, I2, r2, q2⟩ =>
    thn (ho pins s2 σ H2 x y v u _ I2 r1 r2 q2) fun d s3 ⟨z, H3, I3, r3, k, e, q3⟩ => ?_)) hm
  subst e
  cases r3
  refine wpAny_truthy_bool ?_
  cases k with
  | false => exact ite_ff ⟨.bl false, H3, I3, rfl, q3⟩
  | true => exact ite_tt (chain_last (thn (hc pins s3 σ H3 _ I3 q3) fun w' s4 ⟨z', H4, I4, r4, q4⟩ => ho' pins s4 σ H4 y z' u w' Q I4 r2 r4 q4))
theorem pt_chain {op op' : CmpOp} {r r' : R2} (ho : OpR X (compareOp op) r) (ho' : OpR X (compareOp op') r') (ha : PE X a ta) (hb : PE X b tb) (hc : PE X c tc)
    (hm : lastMarks [op, op'] [b, c] = false := by with_unfolding_all rfl) : PT X (.Compare a [op, op'] [b, c] pos) (tTest (tChain r r' ta tb tc)) := by
  intro pins s σ H Q I h
  refine isTrue_chain (thn (ha pins s σ H _ I h) fun v s1 ⟨x, H1, I1, r1, q1⟩ => test_link (thn (hb pins s1 σ H1 _ I1 q1) fun u s2 ⟨y, H2, I2, r2, q2⟩ =>
    thn (ho pins s2 σ H2 x y v u _ I2 r1 r2 q2) fun d s3 ⟨z, H3, I3, r3, k, e, q3⟩ => ?_)) hm
  subst e
  cases r3
  refine wpAny_truthy_bool ?_
  cases k with
  | false =>
    obtain ⟨k', e', q'⟩ := q3
    cases e'
    exact ite_ff ⟨H3, I3, q'⟩
  | true =>
    refine ite_tt (test_last (thn (hc pins s3 σ H3 _ I3 q3) fun w' s4 ⟨z', H4, I4, r4, q4⟩ => thn (ho' pins s4 σ H4 y z' u w' _ I4 r2 r4 q4) fun d' s5 ⟨z2, H5, I5, r5, k2, e2, q5⟩ => ?_))
    subst e2
    cases r5
    exact wpAny_truthy_bool ⟨H5, I5, q5⟩

/-! ### truth -/
/-- a value's truth by the abstract heap -/
def TruV (K : PySem.W.Frag) (x : V) (H : Hp) (k : Bool) : Prop :=
  match x with
  | .non => k = false
  | .bl b => k = b
  | .int i => k = (i != 0)
  | .str y => y.length ≤ sizeLine ∧ k = ((y.length : Int) != 0)
  | .byt y => y.size ≤ sizeLine ∧ k = ((y.size : Int) != 0)
  | .ref p => (∃ xs, SqL K H p xs ∧ k = !xs.isEmpty) ∨ (∃ xs, SqT K H p xs ∧ k = !xs.isEmpty) ∨ ∃ kvs, H p = some (.dK kvs) ∧ k = !kvs.isEmpty
  | _ => False
theorem isEmpty_kv {κ : Type} {kvs : List (κ × V)} {vs : List (κ × Value)} (r : KV kvs vs) : (!vs.isEmpty) = !kvs.isEmpty := by
  cases r <;> rfl
theorem isEmpty_of {xs : List V} {its : List Value} (r : Vals xs its) : (!its.toArray.isEmpty) = !xs.isEmpty := by
  cases r <;> simp
theorem line63 : (sizeLine : Nat) < 2 ^ 63 := by rw [sizeLine_eq]; decide
theorem tru_ok : TruR X (fun x H Q => ∃ k, TruV X.K x H k ∧ Q k H) := by
  intro pins s σ H x v Q I rx h
  obtain ⟨k, e, q⟩ := h
  have hl := line63
  have hs : sizeLine = 16777216 := sizeLine_eq
  cases x with
  | non =>
    cases rx
    have e' : k = false := e
    subst e'
    exact truthy_none ⟨H, I, q⟩
  | bl b =>
    cases rx
    have e' : k = b := e
    subst e'
    exact wpAny_truthy_bool ⟨H, I, q⟩
  | int i =>
    obtain ⟨t, rfl⟩ := rx
    have e' : k = (i != 0) := e
    subst e'
    exact PySem.P.truthy_int ⟨H, I, q⟩
  | str y =>
    obtain ⟨t, rfl⟩ := rx
    obtain ⟨hy, e'⟩ : y.length ≤ sizeLine ∧ k = ((y.length : Int) != 0) := e
    subst e'
    exact PySem.P.truthy_str (by omega) ⟨H, I.tok _, q⟩
  | byt y =>
    obtain ⟨t, rfl⟩ := rx
    obtain ⟨hy, e'⟩ : y.size ≤ sizeLine ∧ k = ((y.size : Int) != 0) := e
    subst e'
    exact PySem.W.truthy_bytes (by omega) ⟨H, I.tok _, q⟩
  | ref p =>
    cases rx
    have e' : (∃ xs, SqL X.K H p xs ∧ k = !xs.isEmpty) ∨ (∃ xs, SqT X.K H p xs ∧ k = !xs.isEmpty) ∨ ∃ kvs, H p = some (.dK kvs) ∧ k = !kvs.isEmpty := e
    rcases e' with ⟨xs, hx, e'⟩ | ⟨xs, hx, e'⟩ | ⟨kvs, hx, e'⟩
    · subst e'
      obtain ⟨its, r, pl, hz⟩ := I.list hx
      have hlen := r.length
      exact wpAny_truthy_list pl.isList (by simp only [List.size_toArray]; omega) ⟨H, I.tok _, by rw [isEmpty_of r]; exact q⟩
    · subst e'
      obtain ⟨its, r, pl, hz⟩ := I.tuple hx
      have hlen := r.length
      exact truthy_tuple pl (by simp only [List.size_toArray]; omega) ⟨H, I.tok _, by rw [isEmpty_of r]; exact q⟩
    · subst e'
      obtain ⟨hz, hS, vs, r, m⟩ : kvs.length ≤ sizeLine ∧ (p == sysModules) = false ∧ ∃ vs, KV kvs vs ∧ s.heap.DictOf (mixKind X.prog X.w) p vs := I.hok p _ hx
      have hlen : kvs.length = vs.length := Paired.length r
      exact wpAny_truthy_dict hS m (by omega) ⟨H, I.tok _, by rw [isEmpty_kv r]; exact q⟩
  | _ => exact (show False from e).elim
/-- any expression whose test is its value's truth (a name, a call, a subscript, a field ..: he by fun _ => rfl) -/
theorem pt_truth (ha : PE X a ta) (he : ∀ whole, isTrue a X.env whole = (do let v ← whole; standAt a.pos; holding [v] (truthy v))) :
    PT X a (fun σ H Q => ta σ H fun x H' => ∃ k, TruV X.K x H' k ∧ Q k H') := by
  intro pins s σ H Q I h
  exact isTrue_plain (thn (ha pins s σ H _ I h) fun v s1 ⟨x, H1, I1, r1, q1⟩ => tru_ok pins s1 σ H1 x v Q I1 r1 q1) (he _)

/-! ### strs and bytes -/
theorem pe_byt {x : List UInt8} {k : Nat} : PE X (.Constant (.bytes x) k pos) (fun _ H Q => Q (.byt x.toArray) H) := fun _ _ _ H _ I h => PySem.W.Constant_bytes ⟨.byt x.toArray, H, I.tok _, ⟨_, rfl⟩, h⟩
theorem op_add_str : OpR X (binaryOp .Add) (fun x y H Q => ∃ i j, x = .str i ∧ y = .str j ∧ i.length + j.length ≤ sizeLine ∧ Q (.str (i ++ j)) H) := by
  intro pins s σ H x y v u Q I rx ry h
  obtain ⟨i, j, rfl, rfl, hz, q⟩ := h
  obtain ⟨t, rfl⟩ := rx
  obtain ⟨t', rfl⟩ := ry
  exact add_str (fun t' tk => ⟨.str (i ++ j), H, I.tok _, ⟨_, rfl⟩, q⟩) hz
theorem iop_add_str : OpR X (inplaceOp .Add) (fun x y H Q => ∃ i j, x = .str i ∧ y = .str j ∧ i.length + j.length ≤ sizeLine ∧ Q (.str (i ++ j)) H) := by
  intro pins s σ H x y v u Q I rx ry h
  obtain ⟨i, j, rfl, rfl, hz, q⟩ := h
  obtain ⟨t, rfl⟩ := rx
  obtain ⟨t', rfl⟩ := ry
  exact iadd_str (fun t' tk => ⟨.str (i ++ j), H, I.tok _, ⟨_, rfl⟩, q⟩) hz
theorem op_add_byt : OpR X (binaryOp .Add) (fun x y H Q => ∃ i j, x = .byt i ∧ y = .byt j ∧ i.size + j.size ≤ 16777216 ∧ Q (.byt (i ++ j)) H) := by
  intro pins s σ H x y v u Q I rx ry h
  obtain ⟨i, j, rfl, rfl, hz, q⟩ := h
  obtain ⟨t, rfl⟩ := rx
  obtain ⟨t', rfl⟩ := ry
  exact PySem.W.KBy.add_bytes hz (fun t' tk => ⟨.byt (i ++ j), H, I.tok _, ⟨_, rfl⟩, q⟩)

def PlainIxT (b : Expr) : Prop := ∀ o i, subscripted b false o i = operate [o, i] (getItem o i)
/-- s[i], 0 ≤ i < len -/
theorem pe_item_str (ha : PE X a ta) (hb : PE X b tb) (hs : PlainIxT b) :
    PE X (.Subscript a b pos) (tOp (fun x y H Q => ∃ z i c, x = .str z ∧ y = .int i ∧ 0 ≤ i ∧ i < 2 ^ 63 ∧ i < z.length ∧ z.cps[i.toNat]? = some c ∧ Q (.str ⟨#[c]⟩) H) ta tb) := by
  intro pins s σ H Q I h
  refine Subscript_ (binT ha hb I h fun v u s2 x y H2 I2 rx ry q => ?_)
  obtain ⟨z, i, c, rfl, rfl, h0, h63, h1, hc, q⟩ := q
  obtain ⟨t, rfl⟩ := rx
  obtain ⟨t', rfl⟩ := ry
  have e : seqIndex? i z.length = some i.toNat := PySem.StrLaws.seqIndex_nonneg h0 h1
  exact tail_any (typeIs_str s2 z t) slot_str_getitem.lookup (getItem_str (c := c) (by
    have e1 : decide (i < -(2 ^ 63 : Int)) = false := decide_eq_false (by omega)
    have e2 : decide (i ≥ 2 ^ 63) = false := decide_eq_false (by omega)
    rw [e1, e2] <;> rfl) (by rw [e]; exact hc) ⟨.str ⟨#[c]⟩, H2, I2.tok _, ⟨_, rfl⟩, q⟩) (hs _ _)
/-- b[i], 0 ≤ i < len -/
theorem pe_item_byt (ha : PE X a ta) (hb : PE X b tb) (hs : PlainIxT b) :
    PE X (.Subscript a b pos) (tOp (fun x y H Q => ∃ (z : List UInt8) (i : Int), x = .byt z.toArray ∧ y = .int i ∧ z.length ≤ sizeLine ∧ 0 ≤ i ∧ i < z.length ∧ Q (.int ((z.getD i.toNat 0).toNat : Nat)) H) ta tb) := by
  intro pins s σ H Q I h
  refine Subscript_ (binT ha hb I h fun v u s2 x y H2 I2 rx ry q => ?_)
  obtain ⟨z, i, rfl, rfl, hz, h0, h1, q⟩ := q
  obtain ⟨t, rfl⟩ := rx
  obtain ⟨t', rfl⟩ := ry
  have hl : sizeLine = 16777216 := sizeLine_eq
  exact tail_any (PySem.W.typeIs_bytes s2 z.toArray t) PySem.W.FB.slot_bytes_getitem.lookup (PySem.W.getItem_bytes (by omega) h0 h1 ⟨.int ((z.getD i.toNat 0).toNat : Nat), H2, I2.tok _, ⟨_, rfl⟩, q⟩) (hs _ _)

/-! ### scalar builtins, by CallR -/
theorem vals1 {x : V} {us : List Value} (r : Vals [x] us) : ∃ u, us = [u] ∧ RelV x u := by
  cases r with
  | cons r1 r2 => cases r2; exact ⟨_, rfl, r1⟩
theorem vals2 {x y : V} {us : List Value} (r : Vals [x, y] us) : ∃ u w', us = [u, w'] ∧ RelV x u ∧ RelV y w' := by
  cases r with
  | cons r1 r2 =>
    cases r2 with
    | cons r3 r4 => cases r4; exact ⟨_, _, rfl, r1, r3⟩
theorem call_abs : CallR X (.builtin "abs") (fun xs H Q => ∃ i, xs = [.int i] ∧ Q (.int (if i < 0 then -i else i)) H) := by
  intro pins s σ H xs us Q I r h
  obtain ⟨i, rfl, q⟩ := h
  obtain ⟨u, rfl, t, rfl⟩ := vals1 r
  exact call_abs_int fun u tk => ⟨.int (if i < 0 then -i else i), H, I.tok _, ⟨_, rfl⟩, q⟩
theorem call_max2 (hc : X.calm = true) : CallR X (.builtin "max") (fun xs H Q => ∃ i j, xs = [.int i, .int j] ∧ Q (.int (if j > i then j else i)) H) := by
  intro pins s σ H xs us Q I r h
  obtain ⟨i, j, rfl, q⟩ := h
  obtain ⟨u, w', rfl, ⟨t, rfl⟩, ⟨t', rfl⟩⟩ := vals2 r
  refine max_two_ints (I.ok.hd hc) fun h' tk k => ⟨_, H, I.kept k, ?_, q⟩
  by_cases hj : j > i
  · rw [if_pos hj, if_pos hj]; exact ⟨_, rfl⟩
  · rw [if_neg hj, if_neg hj]; exact ⟨_, rfl⟩
theorem call_min2 (hc : X.calm = true) : CallR X (.builtin "min") (fun xs H Q => ∃ i j, xs = [.int i, .int j] ∧ Q (.int (if j < i then j else i)) H) := by
  intro pins s σ H xs us Q I r h
  obtain ⟨i, j, rfl, q⟩ := h
  obtain ⟨u, w', rfl, ⟨t, rfl⟩, ⟨t', rfl⟩⟩ := vals2 r
  refine min_two_ints (I.ok.hd hc) fun h' tk k => ⟨_, H, I.kept k, ?_, q⟩
  by_cases hj : j < i
  · rw [if_pos hj, if_pos hj]; exact ⟨_, rfl⟩
  · rw [if_neg hj, if_neg hj]; exact ⟨_, rfl⟩
theorem call_int1 : CallR X (.type "int") (fun xs H Q => (∃ i, xs = [.int i] ∧ Q (.int i) H) ∨ ∃ k, xs = [.bl k] ∧ Q (.int (if k then 1 else 0)) H) := by
  intro pins s σ H xs us Q I r h
  rcases h with ⟨i, rfl, q⟩ | ⟨k, rfl, q⟩
  · obtain ⟨u, rfl, t, rfl⟩ := vals1 r
    exact call_int_int ⟨.int i, H, I, ⟨_, rfl⟩, q⟩
  · obtain ⟨u, rfl, r1⟩ := vals1 r
    cases r1
    exact call_int_bool ⟨.int (if k then 1 else 0), H, I.tok _, ⟨_, rfl⟩, q⟩
theorem call_bool1 : CallR X (.type "bool") (fun xs H Q => (∃ i, xs = [.int i] ∧ Q (.bl (i != 0)) H) ∨ ∃ k, xs = [.bl k] ∧ Q (.bl k) H) := by
  intro pins s σ H xs us Q I r h
  rcases h with ⟨i, rfl, q⟩ | ⟨k, rfl, q⟩
  · obtain ⟨u, rfl, t, rfl⟩ := vals1 r
    exact call_bool_int ⟨.bl (i != 0), H, I, rfl, q⟩
  · obtain ⟨u, rfl, r1⟩ := vals1 r
    cases r1
    exact call_bool_bool ⟨.bl k, H, I, rfl, q⟩
theorem call_str_int : CallR X (.type "str") (fun xs H Q => ∃ i, xs = [.int i] ∧ i.natAbs.log2 < 1920 ∧ Q (.str (toString i)) H) := by
  intro pins s σ H xs us Q I r h
  obtain ⟨i, rfl, hz, q⟩ := h
  obtain ⟨u, rfl, t, rfl⟩ := vals1 r
  exact PySem.P.str_of_int hz ⟨.str _, H, I.tok _, ⟨_, rfl⟩, q⟩
theorem call_ord : CallR X (.builtin "ord") (fun xs H Q => ∃ x, xs = [.str x] ∧ x.length = 1 ∧ Q (.int (x.cps.getD 0 0 : Nat)) H) := by
  intro pins s σ H xs us Q I r h
  obtain ⟨x, rfl, hz, q⟩ := h
  obtain ⟨u, rfl, t, rfl⟩ := vals1 r
  exact ord_of_one hz ⟨.int _, H, I.tok _, ⟨_, rfl⟩, q⟩
theorem call_chr : CallR X (.builtin "chr") (fun xs H Q => ∃ i, xs = [.int i] ∧ 0 ≤ i ∧ i ≤ 1114111 ∧ Q (.str ⟨#[i.toNat]⟩) H) := by
  intro pins s σ H xs us Q I r h
  obtain ⟨i, rfl, h0, h1, q⟩ := h
  obtain ⟨u, rfl, t, rfl⟩ := vals1 r
  exact chr_of_range h0 h1 ⟨.str _, H, I.tok _, ⟨_, rfl⟩, q⟩
/-- len of a str, a bytes, a list, a tuple -/
def LenV (K : PySem.W.Frag) (x : V) (H : Hp) (n : Nat) : Prop :=
  match x with
  | .str y => y.length ≤ sizeLine ∧ n = y.length
  | .byt y => y.size ≤ sizeLine ∧ n = y.size
  | .ref p => (∃ xs, SqL K H p xs ∧ n = xs.length) ∨ ∃ xs, SqT K H p xs ∧ n = xs.length
  | _ => False
theorem call_len : CallR X (.builtin "len") (fun xs H Q => ∃ x n, xs = [x] ∧ LenV X.K x H n ∧ Q (.int n) H) := by
  intro pins s σ H xs us Q I r h
  obtain ⟨x, n, rfl, e, q⟩ := h
  obtain ⟨u, rfl, rx⟩ := vals1 r
  have hl := line63
  have hs : sizeLine = 16777216 := sizeLine_eq
  cases x with
  | str y =>
    obtain ⟨t, rfl⟩ := rx
    obtain ⟨hy, e'⟩ : y.length ≤ sizeLine ∧ n = y.length := e
    subst e'
    exact len_str (by omega) ⟨.int _, H, I.tok _, ⟨_, rfl⟩, q⟩
  | byt y =>
    obtain ⟨t, rfl⟩ := rx
    obtain ⟨hy, e'⟩ : y.size ≤ sizeLine ∧ n = y.size := e
    subst e'
    exact PySem.W.len_bytes (by omega) ⟨.int _, H, I.tok _, ⟨_, rfl⟩, q⟩
  | ref p =>
    cases rx
    have e' : (∃ xs, SqL X.K H p xs ∧ n = xs.length) ∨ ∃ xs, SqT X.K H p xs ∧ n = xs.length := e
    rcases e' with ⟨xs, hx, e'⟩ | ⟨xs, hx, e'⟩
    · subst e'
      obtain ⟨its, r', pl, hz⟩ := I.list hx
      have hlen := r'.length
      exact Calls.call_len_list pl.isList (by simp only [List.size_toArray]; omega) ⟨.int xs.length, H, I.tok _, ⟨_, by simp only [List.size_toArray]; rw [hlen]⟩, q⟩
    · subst e'
      obtain ⟨its, r', pl, hz⟩ := I.tuple hx
      have hlen := r'.length
      exact len_tuple pl (by simp only [List.size_toArray]; omega) ⟨.int xs.length, H, I.tok _, ⟨_, by simp only [List.size_toArray]; rw [hlen]⟩, q⟩
  | _ => exact (show False from e).elim
/-- divmod: a new tuple -/
theorem call_divmod : CallR X (.builtin "divmod") (fun xs H Q => ∃ i j, xs = [.int i, .int j] ∧ CDiv i j ∧ ∀ p, H p = none → Q (.ref p) (upd H p (.tup [.int (i / j), .int (i % j)]))) := by
  intro pins s σ H xs us Q I r h
  obtain ⟨i, j, rfl, ⟨h1, h2⟩, q⟩ := h
  obtain ⟨u, w', rfl, ⟨t, rfl⟩, ⟨t', rfl⟩⟩ := vals2 r
  refine divmod_int (by omega) ?_ (.inl (PyProof.noPylong_small (by omega)))
  rw [Int.fdiv_eq_ediv_of_nonneg i (by omega), Int.fmod_eq_emod_of_nonneg i (by omega)]
  have hn : H s.heap.objs.size = none := I.hok.fresh (Nat.le_refl _)
  refine ⟨.ref s.heap.objs.size, _, ?_, rfl, q _ hn⟩
  refine I.laid (fun b o e => Heap.get?_push_of_some _ e) (Nat.le_refl _) ⟨by simp only [List.length_cons, List.length_nil]; rw [sizeLine_eq]; decide, [.int (i / j) s.toks, .int (i % j) (s.toks + 1)], .cons ⟨_, rfl⟩ (.cons ⟨_, rfl⟩ .nil), ?_⟩
  exact ⟨_, Heap.get?_push_size s.heap rfl, rfl, 0, rfl⟩
end
end L2

namespace L2
open PySem PySem.Spec PyProof.Rows

/-! ### an instance, its attributes a map -/
structure ObjM (h : Heap) (x dx C : Addr) (mA : Str → Option Value) : Prop where
  obj : h.get? x = some (PySem.W.instObj C dx)
  ns : h.Ns1 dx mA
  ne : dx ≠ x

theorem lookIn_ns {h : Heap} {dx : Addr} {mA : Str → Option Value} (n : h.Ns1 dx mA) : ∃ od, h.get? dx = some od ∧ ∀ name, PySem.W.lookIn name od = some (mA name) := by
  obtain ⟨o, es, ep, ho, hd, hk, _, hm⟩ := n
  refine ⟨o, ho, fun name => ?_⟩
  have e := hm name
  unfold nsFind findBy at e
  rw [← Array.find?_toList] at e
  unfold PySem.W.lookIn
  rw [hd]
  dsimp only
  split
  · rename_i y q
    rw [q] at e
    exact congrArg some e
  · rename_i q
    rw [q] at e
    have a : es.toList.any (·.refKey) = false := by
      rw [List.any_eq_false]
      intro y hy
      obtain ⟨z, t, hkey⟩ := hk y (Array.mem_toList_iff.mp hy)
      simp [DictEntry.refKey, hkey]
    have a' : ¬ es.toList.any (·.refKey) = true := by rw [a]; exact Bool.false_ne_true
    rw [if_neg a']
    exact congrArg some e

theorem ObjM.look {h : Heap} {x dx C : Addr} {mA : Str → Option Value} (I : ObjM h x dx C mA) : ∃ od, PySem.W.InstAt h x (PySem.W.instObj C dx) C (some od) ∧ ∀ name, PySem.W.lookIn name od = some (mA name) :=
  let ⟨od, ho, hl⟩ := lookIn_ns I.ns
  ⟨od, ⟨I.obj, rfl, rfl, ho⟩, hl⟩

section
variable {prog : Program} {w : World} {A : Around} {E : Value → Shared → Prop} {s : Shared} {K : PySem.W.Frag} {x dx C f : Addr} {mA : Str → Option Value} {name : Str} {v : Value}

theorem get_map {expr : Bool} {Q : Value → Shared → Prop} (X : K.In s.heap) (I : ObjM s.heap x dx C mA) (hg : PySem.W.plainGet K C name = true) (hh : PySem.W.hasDictIn K C = true)
    (ha : PySem.W.findIn K (.ref C) name = some none) (hv : mA name = some v) (hv' : PySem.W.handedIn v = true) (h : Q v { s with toks := s.toks + 1 }) :
    wpAny (model prog w) A (getAttr (.ref x) name expr) Q E s := by
  obtain ⟨od, J, hl⟩ := I.look
  exact PySem.W.get_value X J (PySem.W.plainGet_of hg).1 (PySem.W.findObj_own hh ha rfl (by rw [hl, hv])) hv' h

theorem get_const {expr : Bool} {a : Value} {Q : Value → Shared → Prop} (X : K.In s.heap) (I : ObjM s.heap x dx C mA) (hg : PySem.W.plainGet K C name = true) (hh : PySem.W.hasDictIn K C = true)
    (ha : PySem.W.findIn K (.ref C) name = some (some a)) (hn : PySem.W.specialIn K a "__get__" = some none) (hc : PySem.W.copiedNames.contains name = false) (hv : mA name = none) (hv' : PySem.W.handedIn a = true)
    (h : Q a { s with toks := s.toks + 1 }) : wpAny (model prog w) A (getAttr (.ref x) name expr) Q E s := by
  obtain ⟨od, J, hl⟩ := I.look
  exact PySem.W.get_value X J (PySem.W.plainGet_of hg).1 (PySem.W.findObj_cls hh ha hn hv' hc (by rw [hl, hv])) hv' h

theorem get_meth {pl : Sem Bool} {Q : Value × List Value → Shared → Prop} (X : K.In s.heap) (I : ObjM s.heap x dx C mA) (hg : PySem.W.plainGet K C name = true)
    (hf : PySem.W.findIn K (.ref C) name = some (some (.ref f))) (ht : PySem.W.isFn K (.ref f) = true) (hv : mA name = none) (h : Q (.ref f, [.ref x]) s) :
    wpAny (model prog w) A (getMethod (.ref x) name pl) Q E s := by
  obtain ⟨od, J, hl⟩ := I.look
  exact PySem.W.method_fn X J (PySem.W.plainGet_of hg).1 (PySem.W.plainGet_of hg).2 hf (beq_iff_eq.mp ht) (by show (PySem.W.lookIn name od).map (·.isSome) = some false; rw [hl, hv]; rfl) h

theorem set_map {ns : List Str} {Q : Unit → Shared → Prop} (X : K.In s.heap) (I : ObjM s.heap x dx C mA)
    (hs : PySem.W.findIn K (.ref C) "__setattr__" = some (some (.builtin "object.__setattr__"))) (hp : PySem.W.plainOver K C = true) (ht : PySem.W.takerIn K C name = some none) (hh : PySem.W.hasDictIn K C = true)
    (hw : PySem.Within mA ns) (hsz : ns.length ≤ sizeLine)
    (h : ∀ h', ObjM h' x dx C (fun y => if y = name then some v else mA y) → Heap.SameBut dx s.heap h' → Q () { s with heap := h', toks := s.toks + 2 }) :
    wpAny (model prog w) A (setAttr (.ref x) name v) Q E s := by
  obtain ⟨od, J, hl⟩ := I.look
  refine PySem.W.set_plain X J hs (PySem.W.osa_open (s := { s with toks := s.toks + 1 }) (r := none) X J hp ht fun b => ?_)
  obtain ⟨cd, hc, hd'⟩ := PySem.W.any_some hh
  have hx : s.heap.get? x = some ⟨.ref C, some dx, .plain, #[]⟩ := I.obj
  refine wpAny_bind (wpAny_pure (wpAny_bind (wpAny_bind (wpAny_loadPart hx (wpAny_bind (PySem.W.Looks.here (s := { s with toks := s.toks + 1 }) (PySem.W.looks_clsIn X hc) ?_))))))
  rw [hd']
  refine wpAny_pure (a := some dx) (wpAny_bind (wpAny_pure (wpAny_bind ?_)))
  refine wpAny_nsSet1 (s := { s with toks := s.toks + 1 }) I.ns fun h' hn2 hs2 => ?_
  obtain ⟨oD, esD, epD, hoD, hdD, hcD⟩ := hn2.count (PySem.Within.cons name v hw)
  refine wpAny_bind (wpAny_lookBehind hoD (by rw [hdD]; exact pastItsLine_dict (Nat.le_trans hcD (by rw [List.length_cons]; omega))) ?_)
  exact wpAny_pure (h _ ⟨(hs2.2 _ (Ne.symm I.ne)).trans I.obj, hn2, I.ne⟩ hs2)

/-- C(..): the dict at the heap's end, the instance behind it; then its __init__ -/
theorem make_map {R : Result → Shared → Prop} {vs : List Value} {kw : List (Str × Value)} (X : K.In s.heap) (hm : PySem.W.makesIn K C = true)
    (hi : PySem.W.findIn K (.ref C) "__init__" = some (some (.ref f))) (hf : PySem.W.typeIn K (.ref f) = some (.type "function"))
    (h : codeAny (model prog w) (A.under (.builtin "type.__call__" ⟨.ref C :: vs, kw⟩)) (.call (.ref f) ⟨.ref (s.heap.objs.size + 1) :: vs, kw⟩) (PySem.W.InitBack (s.heap.objs.size + 1) R)
      { s with heap := (s.heap.push PySem.W.emptyDict).push (PySem.W.instObj C s.heap.objs.size) }) :
    codeAny (model prog w) A (.call (.ref C) ⟨vs, kw⟩) R s := by
  obtain ⟨hh, g, d, t, os⟩ := s
  exact PySem.W.make_core (PySem.W.makes_of X hm) (PySem.W.looks_findIn X hi) (fun self => PySem.W.bind_fn X self hf) (.inl rfl) h
/-- C() where there is no __init__ but object's -/
theorem make_map0 {R : Result → Shared → Prop} (X : K.In s.heap) (hm : PySem.W.makesIn K C = true)
    (hi : PySem.W.findIn K (.ref C) "__init__" = some (some (.builtin "object.__init__")))
    (hb : ∀ self, PySem.W.Looks (model prog w) s.heap (bindSpecial (.builtin "object.__init__") self) (.builtin "object.__init__", [self]))
    (h : codeAny (model prog w) (A.under (.builtin "type.__call__" ⟨[.ref C], []⟩)) (.call (.builtin "object.__init__") ⟨[.ref (s.heap.objs.size + 1)], []⟩) (PySem.W.InitBack (s.heap.objs.size + 1) R)
      { s with heap := (s.heap.push PySem.W.emptyDict).push (PySem.W.instObj C s.heap.objs.size) }) :
    codeAny (model prog w) A (.call (.ref C) ⟨[], []⟩) R s := by
  obtain ⟨hh, g, d, t, os⟩ := s
  exact PySem.W.make_core (PySem.W.makes_of X hm) (PySem.W.looks_findIn X hi) hb (.inr ⟨rfl, rfl⟩) h
end

/-! ### the attributes as a list of pairs -/
def putF (f : Str) (v : V) : List (Str × V) → List (Str × V)
  | [] => [(f, v)]
  | (g, x) :: r => if g = f then (g, v) :: r else (g, x) :: putF f v r
theorem lookup_putF (f g : Str) (v : V) : ∀ fs : List (Str × V), (putF f v fs).lookup g = if g = f then some v else fs.lookup g
  | [] => by
    show List.lookup g [(f, v)] = _
    by_cases h : g = f
    · have hb : (g == f) = true := beq_iff_eq.mpr h
      simp only [List.lookup, hb, if_pos h]
    · have hb : (g == f) = false := beq_eq_false_iff_ne.mpr h
      simp only [List.lookup, hb, if_neg h]
  | (k, x) :: r => by
    have ih := lookup_putF f g v r
    rw [show putF f v ((k, x) :: r) = (if k = f then (k, v) :: r else (k, x) :: putF f v r) from rfl]
    by_cases hk : k = f
    · rw [if_pos hk]
      by_cases h : g = k
      · have hb : (g == k) = true := beq_iff_eq.mpr h
        simp only [List.lookup, hb, if_pos (h.trans hk)]
      · have hb : (g == k) = false := beq_eq_false_iff_ne.mpr h
        simp only [List.lookup, hb, if_neg (fun e : g = f => h (e.trans hk.symm))]
    · rw [if_neg hk]
      by_cases h : g = k
      · have hb : (g == k) = true := beq_iff_eq.mpr h
        simp only [List.lookup, hb, if_neg (fun e : g = f => hk (h.symm.trans e))]
      · have hb : (g == k) = false := beq_eq_false_iff_ne.mpr h
        simp only [List.lookup, hb]
        exact ih
theorem keys_putF (f : Str) (v : V) : ∀ fs : List (Str × V), f ∈ (putF f v fs).map (·.1) ∧ ∀ g, g ∈ fs.map (·.1) → g ∈ (putF f v fs).map (·.1)
  | [] => ⟨by simp [putF], fun g h => by simp at h⟩
  | (k, x) :: r => by
    obtain ⟨i1, i2⟩ := keys_putF f v r
    rw [show putF f v ((k, x) :: r) = (if k = f then (k, v) :: r else (k, x) :: putF f v r) from rfl]
    by_cases hk : k = f
    · rw [if_pos hk]
      subst hk
      exact ⟨by simp, fun g h => by simpa using h⟩
    · rw [if_neg hk]
      refine ⟨?_, fun g h => ?_⟩
      · rw [List.map_cons]
        exact List.mem_cons_of_mem _ i1
      · rw [List.map_cons] at h ⊢
        rcases List.mem_cons.mp h with e | e
        · exact List.mem_cons.mpr (.inl e)
        · exact List.mem_cons_of_mem _ (i2 g e)
theorem length_putF (f : Str) (v : V) : ∀ fs : List (Str × V), (putF f v fs).length ≤ fs.length + 1
  | [] => by simp [putF]
  | (k, x) :: r => by
    have ih := length_putF f v r
    rw [show putF f v ((k, x) :: r) = (if k = f then (k, v) :: r else (k, x) :: putF f v r) from rfl]
    by_cases hk : k = f
    · rw [if_pos hk, List.length_cons, List.length_cons]; omega
    · rw [if_neg hk, List.length_cons, List.length_cons]; omega

theorem RelO.some_of {v : V} {o : Option Value} (r : RelO (some v) o) : ∃ u, o = some u ∧ RelV v u := by
  cases o with
  | none => exact (show False from r).elim
  | some u => exact ⟨u, rfl, r⟩
theorem RelO.none_of {o : Option Value} (r : RelO none o) : o = none := by
  cases o with
  | none => rfl
  | some u => exact (show False from r).elim
theorem handed_of {v : V} {u : Value} (r : RelV v u) : PySem.W.handedIn u = true := by
  cases v with
  | non => cases (show u = Value.none from r); rfl
  | bl b => cases (show u = Value.bool b from r); rfl
  | int i => obtain ⟨t, e⟩ := (show ∃ t, u = Value.int i t from r); cases e; rfl
  | str x => obtain ⟨t, e⟩ := (show ∃ t, u = Value.str x t from r); cases e; rfl
  | byt b => obtain ⟨t, e⟩ := (show ∃ t, u = Value.bytes b t from r); cases e; rfl
  | flt b => obtain ⟨t, e⟩ := (show ∃ t, u = Value.float b t from r); cases e; rfl
  | ref a => cases (show u = Value.ref a from r); rfl
  | ty n => cases (show u = Value.type n from r); rfl

section
variable {P : Program} {w : World} {H H' : Hp} {h h' : Heap} {a C dx : Addr} {fs fs' : List (Str × V)}
theorem ins_get (hok : HOk P w H h) (e : H a = some (.ins C dx fs)) : ∃ mA, ObjM h a dx C mA ∧ (∀ f, RelO (fs.lookup f) (mA f)) ∧ PySem.Within mA (fs.map (·.1)) ∧ fs.length ≤ 1000 ∧ H dx = some (.own a) := by
  obtain ⟨d, z, ne, ob, mA, n, r, q⟩ := (show ObjOk P w H h a (.ins C dx fs) from hok a _ e)
  exact ⟨mA, ⟨ob, n, ne⟩, r, q, z, d⟩
end

/-! ### what of the text a class must have -/
structure Cls (K : PySem.W.Frag) (C : Addr) : Prop where
  pg : PySem.W.plainGet K C Str.empty = true
  hd : PySem.W.hasDictIn K C = true
  po : PySem.W.plainOver K C = true
  sa : PySem.W.findIn K (.ref C) "__setattr__" = some (some (.builtin "object.__setattr__"))
theorem Cls.get {K : PySem.W.Frag} {C : Addr} (c : Cls K C) (f : Str) : PySem.W.plainGet K C f = true := c.pg
/-- no class of it has the name -/
def NoAttr (K : PySem.W.Frag) (C : Addr) (f : Str) : Prop := PySem.W.findIn K (.ref C) f = some none
theorem NoAttr.taker {K : PySem.W.Frag} {C : Addr} {f : Str} (n : NoAttr K C f) : PySem.W.takerIn K C f = some none := by
  unfold PySem.W.takerIn
  rw [show PySem.W.findIn K (.ref C) f = some none from n]
  rfl
/-- a constant of the class -/
structure Con (K : PySem.W.Frag) (C : Addr) (f : Str) (v : V) (u : Value) : Prop where
  at_ : PySem.W.findIn K (.ref C) f = some (some u)
  rel : RelV v u
  get : PySem.W.specialIn K u "__get__" = some none
  cp : PySem.W.copiedNames.contains f = false
/-- a method: a plain def of the class or of one above it -/
structure Meth (K : PySem.W.Frag) (C : Addr) (m : Str) (f : Addr) : Prop where
  at_ : PySem.W.findIn K (.ref C) m = some (some (.ref f))
  fn : PySem.W.isFn K (.ref f) = true
  kp : PySem.W.keepIn K (.ref f) = true

section
variable {X : Cx} {pins : List (Addr × Obj)} {σ : St} {H : Hp} {s : Shared} {a C dx : Addr} {fs : List (Str × V)} {f : Str} {v : V} {A : Around} {E : Value → Shared → Prop}

theorem getattr_ok {b : Bool} {Q : Value → Shared → Prop} (I : Inv X pins σ H s) (e : H a = some (.ins C dx fs)) (c : Cls X.K C) (n : NoAttr X.K C f) (l : fs.lookup f = some v)
    (h : ∀ u s', Inv X pins σ H s' → RelV v u → Q u s') : wpAny (model X.prog X.w) A (getAttr (.ref a) f b) Q E s := by
  obtain ⟨mA, O, r, _, _, _⟩ := ins_get I.hok e
  obtain ⟨u, hu, ru⟩ := RelO.some_of (v := v) (o := mA f) (by rw [← l]; exact r f)
  exact get_map I.kIn O (c.get f) c.hd n hu (handed_of ru) (h u _ (I.tok _) ru)

theorem getcon_ok {b : Bool} {u : Value} {Q : Value → Shared → Prop} (I : Inv X pins σ H s) (e : H a = some (.ins C dx fs)) (c : Cls X.K C) (k : Con X.K C f v u) (l : fs.lookup f = none)
    (h : ∀ s', Inv X pins σ H s' → Q u s') : wpAny (model X.prog X.w) A (getAttr (.ref a) f b) Q E s := by
  obtain ⟨mA, O, r, _, _, _⟩ := ins_get I.hok e
  have hn : mA f = none := RelO.none_of (by rw [← l]; exact r f)
  exact get_const I.kIn O (c.get f) c.hd k.at_ k.get k.cp hn (handed_of k.rel) (h _ (I.tok _))

theorem getmeth_ok {m : Str} {g : Addr} {pl : Sem Bool} {Q : Value × List Value → Shared → Prop} (I : Inv X pins σ H s) (e : H a = some (.ins C dx fs)) (c : Cls X.K C) (k : Meth X.K C m g) (l : fs.lookup m = none)
    (h : Q (.ref g, [.ref a]) s) : wpAny (model X.prog X.w) A (getMethod (.ref a) m pl) Q E s := by
  obtain ⟨mA, O, r, _, _, _⟩ := ins_get I.hok e
  have hn : mA m = none := RelO.none_of (by rw [← l]; exact r m)
  exact get_meth I.kIn O (c.get m) k.at_ k.fn hn h

theorem setattr_ok {y : V} {u : Value} {Q : Unit → Shared → Prop} (I : Inv X pins σ H s) (e : H a = some (.ins C dx fs)) (c : Cls X.K C) (n : NoAttr X.K C f) (hl : fs.length < 1000) (ry : RelV y u)
    (h : ∀ s', Inv X pins σ (upd H a (.ins C dx (putF f y fs))) s' → Q () s') : wpAny (model X.prog X.w) A (setAttr (.ref a) f u) Q E s := by
  obtain ⟨mA, O, r, wi, _, ho⟩ := ins_get I.hok e
  have hz : (fs.map (·.1)).length ≤ sizeLine := by rw [List.length_map, sizeLine_eq]; omega
  refine set_map I.kIn O c.sa c.po n.taker c.hd wi hz fun h' O' sb => h _ ?_
  have hd : ∃ o, h'.get? dx = some o := let ⟨o, _, _, e', _⟩ := O'.ns; ⟨o, e'⟩
  refine I.write (x := a) (e := dx) (by rw [e]; exact True.intro) (.inr ho) (fun b q hb z => (sb.2 b hb).trans z) hd ?_
  refine ⟨by rw [upd_ne O.ne]; exact ho, ?_, O.ne, O'.obj, _, O'.ns, fun g => ?_, fun g hg => ?_⟩
  · have := length_putF f y fs; omega
  · show RelO ((putF f y fs).lookup g) (if g = f then some u else mA g)
    rw [lookup_putF]
    by_cases q : g = f
    · rw [if_pos q, if_pos q]; exact ry
    · rw [if_neg q, if_neg q]; exact r g
  · by_cases q : g = f
    · rw [q]; exact (keys_putF f y fs).1
    · refine (keys_putF f y fs).2 g (wi g fun z => hg ?_)
      show (if g = f then some u else mA g) = none
      rw [if_neg q]; exact z

/-- a new instance, tracked, without attributes -/
theorem Inv.made (I : Inv X pins σ H s) : Inv X pins σ (upd (upd H s.heap.objs.size (.own (s.heap.objs.size + 1))) (s.heap.objs.size + 1) (.ins C s.heap.objs.size []))
    { s with heap := (s.heap.push PySem.W.emptyDict).push (PySem.W.instObj C s.heap.objs.size) } := by
  have e1 : (s.heap.push PySem.W.emptyDict).get? s.heap.objs.size = some PySem.W.emptyDict := Heap.get?_push_size s.heap rfl
  have e2 : ((s.heap.push PySem.W.emptyDict).push (PySem.W.instObj C s.heap.objs.size)).get? (s.heap.objs.size + 1) = some (PySem.W.instObj C s.heap.objs.size) := by
    have := Heap.get?_push_size (s.heap.push PySem.W.emptyDict) (o := PySem.W.instObj C s.heap.objs.size) rfl
    rwa [Heap.size_push] at this
  have e3 : (s.heap.push PySem.W.emptyDict).Ns s.heap.objs.size (fun _ => none) := ⟨PySem.W.emptyDict, #[], _, e1, rfl, (fun e he => absurd he (by simp)), fun _ => rfl⟩
  have I1 := I.laid (a := s.heap.objs.size) (o := .own (s.heap.objs.size + 1)) (h' := s.heap.push PySem.W.emptyDict) (t' := s.toks) (fun b u q => Heap.get?_push_of_some _ q) (Nat.le_refl _) ⟨_, e1⟩
  refine I1.laid (a := s.heap.objs.size + 1) (o := .ins C s.heap.objs.size []) (t' := s.toks) (fun b u q => Heap.get?_push_of_some _ q) (Nat.le_of_eq (Heap.size_push _ _)) ?_
  have ne : s.heap.objs.size ≠ s.heap.objs.size + 1 := Nat.ne_of_lt (Nat.lt_succ_self _)
  refine ⟨by rw [upd_ne ne, upd_same], Nat.zero_le _, ne, e2, fun _ => none, (Heap.Ns1.of_empty e3).at fun o q => Heap.get?_push_of_some _ q, fun _ => True.intro, fun y hy => absurd rfl hy⟩

/-- e.f where nothing but the object is asked: through attributeBase (super) and the last hold -/
theorem attr_of {prog : Program} {w : World} {env : Env} {e : Expr} {f : Str} {pos : Pos} {s : Shared} {Q : Value → Shared → Prop} (hb : attributeBase e f env (eval e env) = eval e env)
    (h : wpAny (model prog w) A (eval e env) (fun o s₁ => wpAny (model prog w) A (getAttr o f true) Q E s₁) E s) : wpAny (model prog w) A (eval (.Attribute e f pos) env) Q E s :=
  Attribute_any_ h (by rw [arm_eval_Attribute, hb])
end

/-! ### readings and rules -/
/-- e.f, an attribute of the instance -/
def tFld (K : PySem.W.Frag) (ta : TE) (f : Str) : TE := fun σ H Q => ta σ H fun x H1 => ∃ a C dx fs v, x = .ref a ∧ H1 a = some (.ins C dx fs) ∧ Cls K C ∧ NoAttr K C f ∧ fs.lookup f = some v ∧ Q v H1
/-- e.f, a constant of the class -/
def tCon (K : PySem.W.Frag) (ta : TE) (f : Str) : TE := fun σ H Q => ta σ H fun x H1 => ∃ a C dx fs v u, x = .ref a ∧ H1 a = some (.ins C dx fs) ∧ Cls K C ∧ Con K C f v u ∧ fs.lookup f = none ∧ Q v H1
/-- e.f = value -/
def sFld (K : PySem.W.Frag) (ta tv : TE) (f : Str) : TS := fun D σ H => tv σ H fun y H1 => ta σ H1 fun x H2 => ∃ a C dx fs, x = .ref a ∧ H2 a = some (.ins C dx fs) ∧ Cls K C ∧ NoAttr K C f ∧ fs.length < 1000 ∧
  D.nx σ (upd H2 a (.ins C dx (putF f y fs)))
/-- an augmented operator on two values -/
def InOp (X : Cx) (op : Operator) (rd : V → V → Hp → VK → Prop) : Prop :=
  ∀ (pins : List (Addr × Obj)) (s : Shared) (σ : St) (H : Hp) (x y : V) (u v : Value) (Q : VK), Inv X pins σ H s → RelV x u → RelV y v → rd x y H Q → wpAny (model X.prog X.w) X.A (inplaceOp op u v) (EP X pins σ Q) X.xe s
/-- e.f op= value -/
def sFldAug (K : PySem.W.Frag) (ta tv : TE) (rd : V → V → Hp → VK → Prop) (f : Str) : TS := fun D σ H => ta σ H fun x H1 => ∃ a C dx fs v, x = .ref a ∧ H1 a = some (.ins C dx fs) ∧ Cls K C ∧ NoAttr K C f ∧ fs.lookup f = some v ∧
  tv σ H1 fun y H2 => rd v y H2 fun z H3 => ∃ dx' fs', H3 a = some (.ins C dx' fs') ∧ fs'.length < 1000 ∧ D.nx σ (upd H3 a (.ins C dx' (putF f z fs')))

section
variable {X : Cx} {o e value : Expr} {f : Str} {pos pos' tpos : Pos} {ta tv : TE}
theorem pe_fld (he : PE X e ta) (hb : attributeBase e f X.env (eval e X.env) = eval e X.env) : PE X (.Attribute e f pos) (tFld X.K ta f) := by
  intro pins s σ H Q I h
  refine attr_of hb (thn (he pins s σ H _ I h) fun u s1 ⟨x, H1, I1, rx, a, C, dx, fs, v, ex, ea, c, n, l, q⟩ => ?_)
  subst ex
  obtain rfl : u = Value.ref a := rx
  exact getattr_ok I1 ea c n l fun u' s2 I2 ru => ⟨v, H1, I2, ru, q⟩
theorem pe_con (he : PE X e ta) (hb : attributeBase e f X.env (eval e X.env) = eval e X.env) : PE X (.Attribute e f pos) (tCon X.K ta f) := by
  intro pins s σ H Q I h
  refine attr_of hb (thn (he pins s σ H _ I h) fun u s1 ⟨x, H1, I1, rx, a, C, dx, fs, v, u0, ex, ea, c, k, l, q⟩ => ?_)
  subst ex
  obtain rfl : u = Value.ref a := rx
  exact getcon_ok I1 ea c k l fun s2 I2 => ⟨v, H1, I2, k.rel, q⟩
theorem ps_fld (ha : PE X o ta) (hv : PE X value tv) (hs : swapsWith value (some (.Attribute o f pos')) pos.line X.env = pure false) : PS X (.Assign [.Attribute o f pos'] value pos) (sFld X.K ta tv f) := by
  intro pins s σ H D I h
  refine plainObj_wpAny_Assign_Attribute (thn (hv pins s σ H _ I h) fun u s1 ⟨y, H1, I1, ry, q⟩ => thn (ha pins s1 σ H1 _ I1 q) fun ov s2 ⟨x, H2, I2, rx, a, C, dx, fs, ex, ea, c, n, l, q2⟩ => ?_) hs
  subst ex
  obtain rfl : ov = Value.ref a := rx
  exact setattr_ok I2 ea c n l ry fun s3 I3 => ⟨σ, _, I3, q2⟩
theorem ps_fldaug {op : Operator} {rd : V → V → Hp → VK → Prop} (ha : PE X o ta) (hv : PE X value tv) (hop : InOp X op rd) : PS X (.AugAssign (.Attribute o f tpos) op value pos) (sFldAug X.K ta tv rd f) := by
  intro pins s σ H D I h
  refine wpAny_AugAssign_AttributeAny (thn (ha pins s σ H _ I h) fun ov s1 ⟨x, H1, I1, rx, a, C, dx, fs, v, ex, ea, c, n, l, q⟩ => ?_)
  subst ex
  obtain rfl : ov = Value.ref a := rx
  refine getattr_ok I1 ea c n l fun u s2 I2 ru => thn (hv pins s2 σ H1 _ I2 q) fun w3 s3 ⟨y, H2, I3, ry, q3⟩ => thn (hop pins s3 σ H2 v y u w3 _ I3 ru ry q3) fun w4 s4 ⟨z, H3, I4, rz, dx', fs', ea', l', q4⟩ => ?_
  exact setattr_ok I4 ea' c n l' rz fun s5 I5 => ⟨σ, _, I5, q4⟩
def rAdd : V → V → Hp → VK → Prop := fun x y H Q => ∃ i j, x = .int i ∧ y = .int j ∧ Q (.int (i + j)) H
def rSub : V → V → Hp → VK → Prop := fun x y H Q => ∃ i j, x = .int i ∧ y = .int j ∧ Q (.int (i - j)) H
theorem in_add : InOp X .Add rAdd := by
  rintro pins s σ H x y u v Q I rx ry ⟨i, j, rfl, rfl, q⟩
  obtain ⟨t, rfl⟩ := (show ∃ t, u = Value.int i t from rx)
  obtain ⟨t', rfl⟩ := (show ∃ t', v = Value.int j t' from ry)
  exact PyProof.Rows.iadd_int ⟨.int (i + j), H, I.tok _, ⟨_, rfl⟩, q⟩
theorem in_sub : InOp X .Sub rSub := by
  rintro pins s σ H x y u v Q I rx ry ⟨i, j, rfl, rfl, q⟩
  obtain ⟨t, rfl⟩ := (show ∃ t, u = Value.int i t from rx)
  obtain ⟨t', rfl⟩ := (show ∃ t', v = Value.int j t' from ry)
  exact PyProof.Rows.isub_int ⟨.int (i - j), H, I.tok _, ⟨_, rfl⟩, q⟩

/-- what is between an instance and its method: the tree of a method call -/
theorem methcall_of {pl : Sem Bool} {m : Str} {apos : Pos} {args : List Expr} {pins : List (Addr × Obj)} {s : Shared} {σ : St} {H : Hp} {Q : Value → Shared → Prop} {te : TE} (he : PE X e te) (I : Inv X pins σ H s)
    (h : te σ H fun x H1 => ∃ a C dx fs g, x = .ref a ∧ H1 a = some (.ins C dx fs) ∧ Cls X.K C ∧ Meth X.K C m g ∧ fs.lookup m = none ∧
      ∀ s1, Inv X pins σ H1 s1 → wpAny (model X.prog X.w) X.A (callWith pos (.ref g) [.ref a] (backTo pos (starEach args X.env)) (backToKw pos (keywordEach [] X.env))) Q X.xe s1)
    (ht : eval (.Call (.Attribute e m apos) args [] pos) X.env = (do
      let ov ← eval e X.env
      standAt apos.atName
      let (f, first) ← holding [ov] (getMethod ov m pl)
      callWith pos f first (backTo pos (starEach args X.env)) (backToKw pos (keywordEach [] X.env)))) :
    wpAny (model X.prog X.w) X.A (eval (.Call (.Attribute e m apos) args [] pos) X.env) Q X.xe s := by
  refine PySem.W.methodCall_KW (pl := pl) (thn (he pins s σ H _ I h) fun u s1 ⟨x, H1, I1, rx, a, C, dx, fs, g, ex, ea, c, k, l, q⟩ => ?_) ht
  subst ex
  obtain rfl : u = Value.ref a := rx
  exact getmeth_ok I1 ea c k l (q s1 I1)
end

/-! ### isinstance -/
section
variable {X : Cx} {pins : List (Addr × Obj)} {σ : St} {H : Hp} {s : Shared} {A : Around} {E : Value → Shared → Prop} {Q : Value → Shared → Prop} {c : Value} {b : Bool}
/-- the type of a value, as the fragment's deciders take it; for an instance its class -/
inductive TyOf (K : PySem.W.Frag) (H : Hp) : V → Value → Prop where
  | non : TyOf K H .non (.type "NoneType")
  | bl (x : Bool) : TyOf K H (.bl x) (.type "bool")
  | int (i : Int) : TyOf K H (.int i) (.type "int")
  | str (x : Str) : TyOf K H (.str x) (.type "str")
  | flt (x : UInt64) : TyOf K H (.flt x) (.type "float")
  | lst {a : Addr} {xs : List V} (e : H a = some (.lst xs)) : TyOf K H (.ref a) (.type "list")
  | frz {a : Addr} {o : Obj} {xs : List V} (e : H a = some (.frz o (.lst xs))) : TyOf K H (.ref a) (.type "list")
  | tup {a : Addr} {xs : List V} (e : H a = some (.tup xs)) : TyOf K H (.ref a) (.type "tuple")
  | dK {a : Addr} {kvs : List (Key × V)} (e : H a = some (.dK kvs)) : TyOf K H (.ref a) (.type "dict")
  | dT {a : Addr} {kvs : List (List Key × V)} (e : H a = some (.dT kvs)) : TyOf K H (.ref a) (.type "dict")
  | ins {a C dx : Addr} {fs : List (Str × V)} (e : H a = some (.ins C dx fs)) (cl : Cls K C) (ha : PySem.W.findIn K (.ref C) "__class__" = some (some (.builtin "object.__class__")))
      (hn : PySem.W.specialIn K (.builtin "object.__class__") "__get__" = some (some (.builtin "getset_descriptor.__get__"))) (htk : PySem.W.takesIn K (.builtin "object.__class__") = some true)
      (hm : PySem.W.mroIn K C (.type "object") = some true) : TyOf K H (.ref a) (.ref C)
/-- isinstance(x, c) for one class c, a built-in or an own one: kitOne's answer -/
theorem isinst_ok {x : V} {u t : Value} (I : Inv X pins σ H s) (rx : RelV x u) (ty : TyOf X.K H x t) (e : PySem.W.kitOne X.K t c = some b) (h : ∀ tk, Q (.bool b) { s with toks := tk }) :
    wpAny (model X.prog X.w) A (call (.builtin "isinstance") [u, c]) Q E s := by
  cases ty with
  | non => cases (show u = Value.none from rx); exact PySem.W.kia_one PySem.W.kitx_none I.kIn True.intro e (fun z => nomatch z) h
  | bl y => cases (show u = Value.bool y from rx); exact PySem.W.kia_one PySem.W.kitx_bool I.kIn True.intro e (fun z => nomatch z) h
  | int i => obtain ⟨t, q⟩ := (show ∃ t, u = Value.int i t from rx); cases q; exact PySem.W.kia_one PySem.W.kitx_int I.kIn True.intro e (fun z => nomatch z) h
  | str y => obtain ⟨t, q⟩ := (show ∃ t, u = Value.str y t from rx); cases q; exact PySem.W.kia_one PySem.W.kitx_str I.kIn True.intro e (fun z => nomatch z) h
  | flt y => obtain ⟨t, q⟩ := (show ∃ t, u = Value.float y t from rx); cases q; exact PySem.W.kia_one PySem.W.kitx_float I.kIn True.intro e (fun z => nomatch z) h
  | @lst a xs ea =>
    cases (show u = Value.ref a from rx)
    obtain ⟨_, _, n, _, h1⟩ := (show ObjOk X.prog X.w H s.heap a (.lst xs) from I.hok a _ ea)
    exact PySem.W.kia_one PySem.W.kitx_list I.kIn ⟨_, h1, rfl⟩ e (fun z => nomatch z) h
  | @frz a ob xs ea =>
    cases (show u = Value.ref a from rx)
    obtain ⟨_, _, _, n, _, h1⟩ := (show ObjOk X.prog X.w H s.heap a (.frz ob (.lst xs)) from I.hok a _ ea)
    exact PySem.W.kia_one PySem.W.kitx_list I.kIn ⟨_, h1, rfl⟩ e (fun z => nomatch z) h
  | @tup a xs ea =>
    cases (show u = Value.ref a from rx)
    obtain ⟨_, _, _, p⟩ := (show ObjOk X.prog X.w H s.heap a (.tup xs) from I.hok a _ ea)
    obtain ⟨o, h1, h2, _⟩ := p
    exact PySem.W.kia_one PySem.W.kitx_tuple I.kIn ⟨o, h1, h2⟩ e (fun z => nomatch z) h
  | @dK a kvs ea =>
    cases (show u = Value.ref a from rx)
    obtain ⟨_, _, vs, _, p⟩ := (show ObjOk X.prog X.w H s.heap a (.dK kvs) from I.hok a _ ea)
    obtain ⟨o, es, ep, h1, h2, _⟩ := p
    exact PySem.W.kia_one PySem.W.kitx_dict I.kIn ⟨o, h1, h2.1⟩ e (fun z => nomatch z) h
  | @dT a kvs ea =>
    cases (show u = Value.ref a from rx)
    obtain ⟨_, _, xs, _, o, es, ep, h1, h2, _⟩ := (show ObjOk X.prog X.w H s.heap a (.dT kvs) from I.hok a _ ea)
    exact PySem.W.kia_one PySem.W.kitx_dict I.kIn ⟨o, h1, h2.1⟩ e (fun z => nomatch z) h
  | @ins a C dx fs ea cl ha hn htk hm =>
    cases (show u = Value.ref a from rx)
    obtain ⟨mA, O, _⟩ := ins_get I.hok ea
    obtain ⟨od, J, _⟩ := O.look
    exact PySem.W.kia_one (PySem.W.kitx_own (cl.get _) cl.hd ha hn htk hm) I.kIn J e (fun z => nomatch z) h
end
end L2

namespace L2
open PySem PySem.Spec PyProof.Rows

/-! ### room -/
structure Room (k : Nat) (A : Around) : Prop where
  hd : A.handled = none
  dp : A.depth + 3 * k + 5 < recursionLimit
  un : A.units + 16 * k + 200 < cLine
theorem Room.mono {j k : Nat} {A : Around} (r : Room k A) (h : j ≤ k) : Room j A := ⟨r.hd, by have := r.dp; omega, by have := r.un; omega⟩
theorem Room.deeper {k : Nat} {A : Around} (r : Room (k + 1) A) (env : Env) : Room k (A.deeper env) :=
  ⟨r.hd, by have := r.dp; show A.depth + 1 + 3 * k + 5 < _; omega, by have := r.un; show A.units + 3 + 16 * k + 200 < _; omega⟩
theorem Room.in1 {k : Nat} {A : Around} (r : Room (k + 1) A) : Room k A.in1 :=
  ⟨r.hd, by have := r.dp; show A.depth + 3 * k + 5 < _; omega, by have := r.un; show A.units + 1 + 16 * k + 200 < _; omega⟩
theorem make_depth {A : Around} {C : Addr} {us : List Value} {kw : List (Str × Value)} : (A.under (.builtin "type.__call__" ⟨.ref C :: us, kw⟩)).depth = A.depth + 1 := by
  first | rfl | simp [Around.under, Code.weight, Code.isCreation, Code.isGuard, Code.isCaller, Code.frames, Code.isFrame, guardIds]
theorem make_units {A : Around} {C : Addr} {us : List Value} {kw : List (Str × Value)} : (A.under (.builtin "type.__call__" ⟨.ref C :: us, kw⟩)).units = A.units + 1 := by
  first | rfl | simp [Around.under, Code.cUnits, Code.frames, Code.isFrame]
theorem Room.make {k : Nat} {A : Around} (r : Room (k + 1) A) (C : Addr) (us : List Value) (kw : List (Str × Value)) : Room k (A.under (.builtin "type.__call__" ⟨.ref C :: us, kw⟩)) :=
  ⟨r.hd, by have := r.dp; rw [make_depth]; omega, by have := r.un; rw [make_units]; omega⟩
theorem Room.depth {k : Nat} {A : Around} (r : Room k A) : A.depth < recursionLimit := by have := r.dp; omega
theorem Room.units {k : Nat} {A : Around} (r : Room k A) : A.units + 64 < cLine := by have := r.un; omega
theorem Room.units0 {k : Nat} {A : Around} (r : Room k A) : A.units < cLine := by have := r.un; omega

/-! ### argument lists and displays -/
def tNil : TA := fun _ H Q => Q [] H
def tCons (ta : TE) (tr : TA) : TA := fun σ H Q => ta σ H fun x H1 => tr σ H1 fun xs H2 => Q (x :: xs) H2
section
variable {X : Cx} {e : Expr} {es : List Expr} {te : TE} {t : TA} {pos : Pos}
theorem pa_nil : PA X [] tNil := fun _ _ _ _ H Q I h => Calls.spliced_nil ⟨[], H, I, .nil, h⟩
theorem pa_cons (ha : PE X e te) (hr : PA X es t) (hs : starEach (e :: es) X.env = (false, eval e X.env) :: starEach es X.env := by rfl) : PA X (e :: es) (tCons te t) := by
  intro pos pins s σ H Q I h
  rw [hs]
  show wpAny _ _ (spliced ((false, eval e X.env) :: backTo pos (starEach es X.env))) _ _ s
  refine Calls.spliced_cons (thn (ha pins s σ H _ I h) fun u s1 ⟨x, H1, I1, r1, q1⟩ => ?_)
  exact thn (hr pos pins s1 σ H1 _ I1 q1) fun us s2 ⟨xs, H2, I2, r2, q2⟩ => ⟨x :: xs, H2, I2, .cons r1 r2, q2⟩

/-- a tuple, a list of written items -/
def tTup (t : TA) : TE := fun σ H Q => t σ H fun xs H1 => xs.length ≤ sizeLine ∧ ∀ p, H1 p = none → Q (.ref p) (upd H1 p (.tup xs))
def tLst (t : TA) : TE := fun σ H Q => t σ H fun xs H1 => xs.length ≤ sizeLine ∧ ∀ p, H1 p = none → Q (.ref p) (upd H1 p (.lst xs))
theorem pe_tup {x1} (h : PA X es t) : PE X (.Tuple es x1 pos) (tTup t) := by
  intro pins s σ H Q I hq
  refine wpAny_Tuple_spliced (thn (h pos pins s σ H _ I hq) fun us s1 ⟨xs, H1, I1, r, z, q⟩ => ⟨by rw [← r.length]; exact z, ?_⟩)
  have hf : H1 s1.heap.objs.size = none := I1.hok.fresh (Nat.le_refl _)
  refine ⟨.ref s1.heap.objs.size, upd H1 s1.heap.objs.size (.tup xs), I1.laid (t' := s1.toks) (fun b u e => Heap.get?_push_of_some _ e) (Nat.le_refl _) ?_, rfl, q _ hf⟩
  exact ⟨z, us, r, ⟨_, Heap.get?_push_size _ rfl, rfl, _, rfl⟩⟩
theorem pe_lst (h : PA X es t) : PE X (.List es pos) (tLst t) := by
  intro pins s σ H Q I hq
  refine wpAny_List_spliced (thn (h pos pins s σ H _ I hq) fun us s1 ⟨xs, H1, I1, r, z, q⟩ => ⟨by rw [← r.length]; exact z, ?_⟩)
  have hf : H1 s1.heap.objs.size = none := I1.hok.fresh (Nat.le_refl _)
  refine ⟨.ref s1.heap.objs.size, upd H1 s1.heap.objs.size (.lst xs), I1.laid (t' := s1.toks) (fun b u e => Heap.get?_push_of_some _ e) (Nat.le_refl _) ?_, rfl, q _ hf⟩
  exact ⟨z, us, 0, r, Heap.get?_push_size _ rfl⟩
end

/-! ### what a def promises -/
/-- a def's promise: the bound arguments in the parameters' order, the heap, the wanted end, the wanted exception -/
abbrev Sp := List V → Hp → VK → XK → Prop
/-- how an exception lies behind a call (file 08 gives it): the callers' frames, abstract heap and state ahead of the call, the wish, the exception, the state -/
abbrev CXT := List Env → Hp → Shared → XK → Value → Shared → Prop

/-- the state at a call -/
structure Env0 (P : Program) (w : World) (K : PySem.W.Frag) (mg : Str → Option Value) (base : Heap) (A : Around) (outer : List Env) (s : Shared) (H : Hp) : Prop where
  frames : A.frames = some outer
  mod : Mod K mg base
  bs : ∀ b o, base.get? b = some o → s.heap.get? b = some o ∧ H b = none
  bsz : base.objs.size ≤ s.heap.objs.size
  funs : s.heap.FunFrames base outer
  frf : ∀ b ∈ frs outer, H b = none
  hok : HOk P w H s.heap
  bare : AllBare s.gens
/-- a call's end -/
def CE (outer : List Env) (P : Program) (w : World) (H : Hp) (s : Shared) (Q : VK) (u : Value) (s' : Shared) : Prop :=
  ∃ v H', s'.os = s.os ∧ AllBare s'.gens ∧ Un (frs outer) [] H H' s.heap s'.heap ∧ HOk P w H' s'.heap ∧ RelV v u ∧ Q v H'
def CR (CX : CXT) (outer : List Env) (P : Program) (w : World) (H : Hp) (s : Shared) (Q : VK) (E : XK) (r : Result) (s' : Shared) : Prop :=
  match r with
  | .ok (.ret u) => CE outer P w H s Q u s'
  | .ok _ => False
  | .error e => CX outer H s E e s'
structure FnOk (P : Program) (w : World) (K : PySem.W.Frag) (mg : Str → Option Value) (base : Heap) (CX : CXT) (k : Nat) (f : Addr) (fd : FuncData) (ps : List Str) (sp : Sp) : Prop where
  len : ∀ vs H Q E, sp vs H Q E → vs.length = ps.length
  run : ∀ (A : Around) (outer : List Env) (s : Shared) (H : Hp) (args : Args) (us : List Value) (vs : List V) (Q : VK) (E : XK), Room k A → Env0 P w K mg base A outer s H → BindsTo s fd args (ps.zip us) → Vals vs us → sp vs H Q E →
    codeAny (model P w) A (.call (.ref f) args) (CR CX outer P w H s Q E) s
theorem FnOk.mono {P : Program} {w : World} {K : PySem.W.Frag} {mg : Str → Option Value} {base : Heap} {CX : CXT} {j k : Nat} {f : Addr} {fd : FuncData} {ps : List Str} {sp : Sp} (F : FnOk P w K mg base CX j f fd ps sp) (h : j ≤ k) :
    FnOk P w K mg base CX k f fd ps sp := ⟨F.len, fun A outer s H args us vs Q E hr => F.run A outer s H args us vs Q E (hr.mono h)⟩
/-- a weaker promise -/
theorem FnOk.imp {P : Program} {w : World} {K : PySem.W.Frag} {mg : Str → Option Value} {base : Heap} {CX : CXT} {k : Nat} {f : Addr} {fd : FuncData} {ps : List Str} {sp sp' : Sp} (F : FnOk P w K mg base CX k f fd ps sp)
    (h : ∀ vs H Q E, sp' vs H Q E → sp vs H Q E) : FnOk P w K mg base CX k f fd ps sp' :=
  ⟨fun vs H Q E q => F.len vs H Q E (h _ _ _ _ q), fun A outer s H args us vs Q E hr he hb hv hs => F.run A outer s H args us vs Q E hr he hb hv (h _ _ _ _ hs)⟩

theorem Env0.make {P : Program} {w : World} {K : PySem.W.Frag} {mg : Str → Option Value} {base : Heap} {A : Around} {outer : List Env} {s : Shared} {H : Hp} (e : Env0 P w K mg base A outer s H) (C : Addr) (us : List Value) (kw : List (Str × Value)) :
    Env0 P w K mg base (A.under (.builtin "type.__call__" ⟨.ref C :: us, kw⟩)) outer s H := ⟨by first | exact e.frames | (simpa [Around.under, Code.envs, Code.isFrame, pushEnvs] using e.frames), e.mod, e.bs, e.bsz, e.funs, e.frf, e.hok, e.bare⟩
theorem Env0.in1 {P : Program} {w : World} {K : PySem.W.Frag} {mg : Str → Option Value} {base : Heap} {A : Around} {outer : List Env} {s : Shared} {H : Hp} (e : Env0 P w K mg base A outer s H) :
    Env0 P w K mg base A.in1 outer s H := ⟨e.frames, e.mod, e.bs, e.bsz, e.funs, e.frf, e.hok, e.bare⟩

section
variable {X : Cx} {pins : List (Addr × Obj)} {σ : St} {H : Hp} {s s' : Shared}
/-- from a body: what a callee wants -/
theorem Inv.env0 (I : Inv X pins σ H s) : Env0 X.prog X.w X.K X.mg X.base X.A X.stack s H :=
  ⟨I.ok.frames, I.ok.mod, I.bs, Nat.le_trans I.ok.bsz I.sz, I.stack, I.stkFree, I.hok, I.bare⟩
/-- behind a call -/
theorem Inv.after {Q : VK} {u : Value} (I : Inv X pins σ H s) (h : CE X.stack X.prog X.w H s Q u s') : EP X pins σ Q u s' := by
  obtain ⟨v, H', os, bare, un, hok, r, q⟩ := h
  obtain ⟨hh, g, d, t, os'⟩ := s'
  obtain rfl : os' = s.os := os
  exact ⟨v, H', I.call (h' := hh) (g' := g) (d' := d) (t' := t) (ch := []) un hok bare (fun b z => absurd z (by simp)), r, q⟩
end

/-! ### calls -/
/-- f(..): the written arguments, then the defaults dvs; E: what is wanted of an exception -/
def tCall (sp : Sp) (dvs : List V) (E : XK) (t : TA) : TE := fun σ H Q => t σ H fun vs H1 => sp (vs ++ dvs) H1 Q E
/-- o.m(..) of an instance of the class at C -/
def tMeth (C : Addr) (m : Str) (sp : Sp) (dvs : List V) (E : XK) (ta : TE) (t : TA) : TE := fun σ H Q => ta σ H fun x H1 => ∃ a dx fs, x = .ref a ∧ H1 a = some (.ins C dx fs) ∧ fs.lookup m = none ∧
  t σ H1 fun vs H2 => sp (x :: (vs ++ dvs)) H2 Q E
/-- C(..): a new instance and its dict, then __init__ -/
def tMake (C : Addr) (sp : Sp) (dvs : List V) (E : XK) (t : TA) : TE := fun σ H Q => t σ H fun vs H1 => ∀ x dx, H1 x = none → H1 dx = none → dx ≠ x →
  sp (.ref x :: (vs ++ dvs)) (upd (upd H1 dx (.own x)) x (.ins C dx [])) (fun v H2 => v = .non ∧ Q (.ref x) H2) E

/-- how the parameters are bound: us the positional arguments, kw the keywords' values by name, ds the defaults that fill up -/
def Binds (K : PySem.W.Frag) (fd : FuncData) (ps : List Str) (ds : List Value) : Prop :=
  ∀ (s : Shared) (us : List Value), K.In s.heap → (us ++ ds).length = ps.length → BindsTo s fd ⟨us, []⟩ (ps.zip (us ++ ds))
/-- every parameter is given -/
theorem Binds.all {K : PySem.W.Frag} {fd : FuncData} {ps : List Str} (h : ∀ us : List Value, us.length = ps.length → bindArgs fd ⟨us, []⟩ = pure (ps.zip us)) : Binds K fd ps [] := fun s us _ hl => by
  rw [List.append_nil] at hl ⊢
  exact .of_eq (h us hl)

/-- an exception of a callee reaches what this body wants of exceptions -/
def Passes (CX : CXT) (X : Cx) (E : XK) : Prop := ∀ (pins : List (Addr × Obj)) (σ : St) (H : Hp) (s : Shared) (e : Value) (s' : Shared), Inv X pins σ H s → CX X.stack H s E e s' → X.xe e s'

section
variable {X : Cx} {CX : CXT} {k : Nat} {f C : Addr} {fd : FuncData} {ps : List Str} {sp : Sp} {dvs : List V} {ds : List Value} {E : XK} {x m : Str} {p pos apos : Pos} {e o : Expr} {es : List Expr} {ta : TE} {t : TA}

/-- the callee runs -/
theorem run_fn {pins : List (Addr × Obj)} {σ : St} {H : Hp} {s : Shared} {Q : VK} {us : List Value} {vs : List V} (F : FnOk X.prog X.w X.K X.mg X.base CX k f fd ps sp) (hr : Room k X.A) (hb : Binds X.K fd ps ds) (hd : Vals dvs ds) (hx : Passes CX X E)
    (I : Inv X pins σ H s) (r : Vals vs us) (h : sp (vs ++ dvs) H Q E) : wpAny (model X.prog X.w) X.A (call (.ref f) us) (EP X pins σ Q) X.xe s := by
  have r2 : Vals (vs ++ dvs) (us ++ ds) := r.append hd
  have hl : (us ++ ds).length = ps.length := by rw [← r2.length]; exact F.len _ _ _ _ h
  refine wpAny_call (codeAny_mono (F.run X.A X.stack s H ⟨us, []⟩ (us ++ ds) (vs ++ dvs) Q E hr I.env0 (hb s us I.kIn hl) r2 h) fun r s' hq => ?_)
  cases r with
  | error e => exact hx pins σ H s e s' I hq
  | ok fl =>
    cases fl with
    | ret u => exact I.after hq
    | next => exact False.elim hq
    | brk => exact False.elim hq
    | cont => exact False.elim hq

theorem pe_call (F : FnOk X.prog X.w X.K X.mg X.base CX k f fd ps sp) (hr : Room k X.A) (hg : Gl X x) (hm : X.mg x = some (.ref f)) (hk : PySem.W.keepIn X.K (.ref f) = true) (hb : Binds X.K fd ps ds) (hd : Vals dvs ds) (hx : Passes CX X E)
    (ha : PA X (e :: es) t) (hdb : (x == ("__debug__" : Str)) = false := by decide) (he : starEach (e :: es) X.env = (false, eval e X.env) :: starEach es X.env := by rfl) (hpl : (backTo pos (starEach es X.env)).any (·.1) = false := by rfl) :
    PE X (.Call (.Name x p) (e :: es) [] pos) (tCall sp dvs E t) := by
  intro pins s σ H Q I h
  refine wpAny_Call_Name_kw (ld_glob I hg hm ?_ hdb)
  refine PySem.W.callWith_K (h₀ := X.base) I.ok.mod.kin hk (thn (ha pos pins s σ H _ I h) fun us s1 ⟨vs, H1, I1, r, q⟩ => ⟨I1.kIn, ?_⟩) he hpl
  exact run_fn F hr hb hd hx I1 r q
theorem pe_call0 (F : FnOk X.prog X.w X.K X.mg X.base CX k f fd ps sp) (hr : Room k X.A) (hg : Gl X x) (hm : X.mg x = some (.ref f)) (hk : PySem.W.keepIn X.K (.ref f) = true) (hb : Binds X.K fd ps ds) (hd : Vals dvs ds) (hx : Passes CX X E)
    (hdb : (x == ("__debug__" : Str)) = false := by decide) : PE X (.Call (.Name x p) [] [] pos) (tCall sp dvs E tNil) := by
  intro pins s σ H Q I h
  refine wpAny_Call_Name_kw (ld_glob I hg hm ?_ hdb)
  exact PySem.W.callWith_K0 I.kIn hk (run_fn (us := []) F hr hb hd hx I .nil h)

/-- o.m(e, ..) -/
theorem pe_meth {pl : Sem Bool} (he : PE X o ta) (c : Cls X.K C) (hm : Meth X.K C m f) (F : FnOk X.prog X.w X.K X.mg X.base CX k f fd ps sp) (hr : Room k X.A) (hb : Binds X.K fd ps ds) (hd : Vals dvs ds) (hx : Passes CX X E) (ha : PA X (e :: es) t)
    (hst : starEach (e :: es) X.env = (false, eval e X.env) :: starEach es X.env := by rfl) (hpl : (backTo pos (starEach es X.env)).any (·.1) = false := by rfl)
    (ht : eval (.Call (.Attribute o m apos) (e :: es) [] pos) X.env = (do
      let ov ← eval o X.env
      standAt apos.atName
      let (f, first) ← holding [ov] (getMethod ov m pl)
      callWith pos f first (backTo pos (starEach (e :: es) X.env)) (backToKw pos (keywordEach [] X.env))) := by rfl) :
    PE X (.Call (.Attribute o m apos) (e :: es) [] pos) (tMeth C m sp dvs E ta t) := by
  intro pins s σ H Q I h
  refine PySem.W.methodCall_KW (pl := pl) (thn (he pins s σ H _ I h) fun u s1 ⟨x, H1, I1, rx, a, dx, fs, ex, ea, l, q⟩ => ?_) ht
  subst ex
  obtain rfl : u = Value.ref a := rx
  refine getmeth_ok I1 ea c hm l ?_
  refine PySem.W.callWith_K (first := [.ref a]) (h₀ := X.base) I.ok.mod.kin hm.kp (thn (ha pos pins s1 σ H1 _ I1 q) fun us s2 ⟨vs, H2, I2, r, q2⟩ => ⟨I2.kIn, ?_⟩) hst hpl
  exact run_fn (us := .ref a :: us) (vs := .ref a :: vs) F hr hb hd hx I2 (.cons rfl r) q2
/-- o.m() -/
theorem pe_meth0 {pl : Sem Bool} (he : PE X o ta) (c : Cls X.K C) (hm : Meth X.K C m f) (F : FnOk X.prog X.w X.K X.mg X.base CX k f fd ps sp) (hr : Room k X.A) (hb : Binds X.K fd ps ds) (hd : Vals dvs ds) (hx : Passes CX X E)
    (ht : eval (.Call (.Attribute o m apos) [] [] pos) X.env = (do
      let ov ← eval o X.env
      standAt apos.atName
      let (f, first) ← holding [ov] (getMethod ov m pl)
      callWith pos f first (backTo pos (starEach [] X.env)) (backToKw pos (keywordEach [] X.env))) := by rfl) :
    PE X (.Call (.Attribute o m apos) [] [] pos) (tMeth C m sp dvs E ta tNil) := by
  intro pins s σ H Q I h
  refine PySem.W.methodCall_KW (pl := pl) (thn (he pins s σ H _ I h) fun u s1 ⟨x, H1, I1, rx, a, dx, fs, ex, ea, l, q⟩ => ?_) ht
  subst ex
  obtain rfl : u = Value.ref a := rx
  refine getmeth_ok I1 ea c hm l ?_
  exact PySem.W.callWith_K0 (first := [.ref a]) I1.kIn hm.kp (run_fn (us := [.ref a]) (vs := [.ref a]) F hr hb hd hx I1 (.cons rfl .nil) q)

/-- what a class must have to be made -/
structure Mk (K : PySem.W.Frag) (C f : Addr) : Prop where
  makes : PySem.W.makesIn K C = true
  init : PySem.W.findIn K (.ref C) "__init__" = some (some (.ref f))
  fn : PySem.W.isFn K (.ref f) = true
  kp : PySem.W.keepIn K (.ref C) = true

theorem run_make {pins : List (Addr × Obj)} {σ : St} {H : Hp} {s : Shared} {Q : VK} {us : List Value} {vs : List V} (M : Mk X.K C f) (F : FnOk X.prog X.w X.K X.mg X.base CX k f fd ps sp) (hr : Room (k + 1) X.A) (hb : Binds X.K fd ps ds) (hd : Vals dvs ds)
    (hx : Passes CX X E) (I : Inv X pins σ H s) (r : Vals vs us)
    (h : ∀ x dx, H x = none → H dx = none → dx ≠ x → sp (.ref x :: (vs ++ dvs)) (upd (upd H dx (.own x)) x (.ins C dx [])) (fun v H2 => v = .non ∧ Q (.ref x) H2) E) :
    wpAny (model X.prog X.w) X.A (call (.ref C) us) (EP X pins σ Q) X.xe s := by
  have hq := h (s.heap.objs.size + 1) s.heap.objs.size (I.hok.fresh (Nat.le_succ _)) (I.hok.fresh (Nat.le_refl _)) (Nat.ne_of_lt (Nat.lt_succ_self _))
  have I2 := Inv.made (C := C) I
  have r2 : Vals (V.ref (s.heap.objs.size + 1) :: (vs ++ dvs)) (Value.ref (s.heap.objs.size + 1) :: (us ++ ds)) := .cons rfl (r.append hd)
  have hl : (Value.ref (s.heap.objs.size + 1) :: us ++ ds).length = ps.length := by
    have e := r2.length
    rw [F.len _ _ _ _ hq] at e
    exact e.symm
  refine wpAny_call (make_map (f := f) I.kIn M.makes M.init (beq_iff_eq.mp M.fn) (codeAny_mono (F.run _ X.stack _ _ ⟨Value.ref (s.heap.objs.size + 1) :: us, []⟩ (Value.ref (s.heap.objs.size + 1) :: (us ++ ds)) _ _ E (hr.make C us [])
    (I2.env0.make C us []) (hb _ (Value.ref (s.heap.objs.size + 1) :: us) I2.kIn hl) r2 hq) fun r s' hq' => ?_))
  cases r with
  | error e => exact hx pins σ _ _ e s' I2 hq'
  | ok fl =>
    cases fl with
    | ret u =>
      obtain ⟨v, H', I3, rv, ev, q3⟩ := I2.after hq'
      subst ev
      exact ⟨rv, ⟨V.ref (s.heap.objs.size + 1), H', I3, rfl, q3⟩⟩
    | next => exact False.elim hq'
    | brk => exact False.elim hq'
    | cont => exact False.elim hq'
theorem pe_make (M : Mk X.K C f) (F : FnOk X.prog X.w X.K X.mg X.base CX k f fd ps sp) (hr : Room (k + 1) X.A) (hg : Gl X x) (hm : X.mg x = some (.ref C)) (hb : Binds X.K fd ps ds) (hd : Vals dvs ds) (hx : Passes CX X E)
    (ha : PA X (e :: es) t) (hdb : (x == ("__debug__" : Str)) = false := by decide) (he : starEach (e :: es) X.env = (false, eval e X.env) :: starEach es X.env := by rfl) (hpl : (backTo pos (starEach es X.env)).any (·.1) = false := by rfl) :
    PE X (.Call (.Name x p) (e :: es) [] pos) (tMake C sp dvs E t) := by
  intro pins s σ H Q I h
  refine wpAny_Call_Name_kw (ld_glob I hg hm ?_ hdb)
  refine PySem.W.callWith_K (h₀ := X.base) I.ok.mod.kin M.kp (thn (ha pos pins s σ H _ I h) fun us s1 ⟨vs, H1, I1, r, q⟩ => ⟨I1.kIn, ?_⟩) he hpl
  exact run_make M F hr hb hd hx I1 r q
theorem pe_make0 (M : Mk X.K C f) (F : FnOk X.prog X.w X.K X.mg X.base CX k f fd ps sp) (hr : Room (k + 1) X.A) (hg : Gl X x) (hm : X.mg x = some (.ref C)) (hb : Binds X.K fd ps ds) (hd : Vals dvs ds) (hx : Passes CX X E)
    (hdb : (x == ("__debug__" : Str)) = false := by decide) : PE X (.Call (.Name x p) [] [] pos) (tMake C sp dvs E tNil) := by
  intro pins s σ H Q I h
  refine wpAny_Call_Name_kw (ld_glob I hg hm ?_ hdb)
  exact PySem.W.callWith_K0 I.kIn M.kp (run_make (us := []) M F hr hb hd hx I .nil h)
end

/-! ### keywords -/
/-- the values of the keywords, from the left -/
def PK (X : Cx) (kws : List Keyword) (t : TA) : Prop :=
  ∀ (pos : Pos) (pins : List (Addr × Obj)) (s : Shared) (σ : St) (H : Hp) (Q : List V → Hp → Prop), Inv X pins σ H s → t σ H Q → wpAny (model X.prog X.w) X.A (evalAll ((backToKw pos (keywordEach kws X.env)).map (·.2))) (AP X pins σ Q) X.xe s
section
variable {X : Cx} {CX : CXT} {k : Nat} {f C : Addr} {fd : FuncData} {ps ks : List Str} {sp : Sp} {E : XK} {x m : Str} {p pos apos kpos : Pos} {e o : Expr} {es : List Expr} {kws : List Keyword} {te ta : TE} {t tk : TA} {nm : Option Str}
theorem pk_nil : PK X [] tNil := fun _ _ _ _ H Q I h => wpAny_evalAll_nil ⟨[], H, I, .nil, h⟩
theorem pk_cons (ha : PE X e te) (hr : PK X kws t) : PK X (⟨nm, e, kpos⟩ :: kws) (tCons te t) := by
  intro pos pins s σ H Q I h
  show wpAny _ _ (evalAll ((do let v ← eval e X.env; standAt pos; pure v) :: (backToKw pos (keywordEach kws X.env)).map (·.2))) _ _ s
  refine wpAny_evalAll_cons (wpAny_bind (thn (ha pins s σ H _ I h) fun u s1 ⟨x, H1, I1, r1, q1⟩ => wpAny_bind (wpAny_standAt (wpAny_pure ?_))))
  exact thn (hr pos pins s1 σ H1 _ I1 q1) fun us s2 ⟨xs, H2, I2, r2, q2⟩ => ⟨x :: xs, H2, I2, .cons r1 r2, q2⟩

/-- how a call with keywords binds: g puts the positional values us and the keywords' values ws (names ks) in the parameters' order, defaults among them -/
structure KBinds (K : PySem.W.Frag) (fd : FuncData) (ps ks : List Str) (g : List Value → List Value → List Value) (gV : List V → List V → List V) : Prop where
  to : ∀ (s : Shared) (us ws : List Value), K.In s.heap → (g us ws).length = ps.length → BindsTo s fd ⟨us, ks.zip ws⟩ (ps.zip (g us ws))
  rel : ∀ {vs : List V} {us : List Value} {zs : List V} {ws : List Value}, Vals vs us → Vals zs ws → Vals (gV vs zs) (g us ws)
def tCallK (sp : Sp) (gV : List V → List V → List V) (E : XK) (t tk : TA) : TE := fun σ H Q => t σ H fun vs H1 => tk σ H1 fun zs H2 => sp (gV vs zs) H2 Q E
variable {g : List Value → List Value → List Value} {gV : List V → List V → List V}
theorem run_fnk {pins : List (Addr × Obj)} {σ : St} {H : Hp} {s : Shared} {Q : VK} {us ws : List Value} {vs zs : List V} (F : FnOk X.prog X.w X.K X.mg X.base CX k f fd ps sp) (hr : Room k X.A) (hb : KBinds X.K fd ps ks g gV) (hx : Passes CX X E)
    (I : Inv X pins σ H s) (r : Vals vs us) (rz : Vals zs ws) (h : sp (gV vs zs) H Q E) : wpAny (model X.prog X.w) X.A (call (.ref f) us (ks.zip ws)) (EP X pins σ Q) X.xe s := by
  have r2 := hb.rel r rz
  have hl : (g us ws).length = ps.length := by rw [← r2.length]; exact F.len _ _ _ _ h
  refine wpAny_call (codeAny_mono (F.run X.A X.stack s H ⟨us, ks.zip ws⟩ (g us ws) (gV vs zs) Q E hr I.env0 (hb.to s us ws I.kIn hl) r2 h) fun r s' hq => ?_)
  cases r with
  | error e => exact hx pins σ H s e s' I hq
  | ok fl =>
    cases fl with
    | ret u => exact I.after hq
    | next => exact False.elim hq
    | brk => exact False.elim hq
    | cont => exact False.elim hq
/-- f(e, .., k = v, ..) -/
theorem pe_callK (F : FnOk X.prog X.w X.K X.mg X.base CX k f fd ps sp) (hr : Room k X.A) (hg : Gl X x) (hm : X.mg x = some (.ref f)) (hk : PySem.W.keepIn X.K (.ref f) = true) (hb : KBinds X.K fd ps ks g gV) (hx : Passes CX X E)
    (ha : PA X (e :: es) t) (hkw : PK X kws tk) (hall : (backToKw pos (keywordEach kws X.env)).all (·.1.isSome) = true := by rfl) (hks : (backToKw pos (keywordEach kws X.env)).filterMap (·.1) = ks := by rfl)
    (hdb : (x == ("__debug__" : Str)) = false := by decide) (he : starEach (e :: es) X.env = (false, eval e X.env) :: starEach es X.env := by rfl)
    (hpl : ((backTo pos (starEach (e :: es) X.env)).any (·.1) || (backToKw pos (keywordEach kws X.env)).any (·.1.isNone)) = false := by rfl) :
    PE X (.Call (.Name x p) (e :: es) kws pos) (tCallK sp gV E t tk) := by
  intro pins s σ H Q I h
  refine wpAny_Call_Name_kw (ld_glob I hg hm ?_ hdb)
  refine PySem.W.callWith_KW (h₀ := X.base) I.ok.mod.kin hk hall (thn (ha pos pins s σ H _ I h) fun us s1 ⟨vs, H1, I1, r, q⟩ => ?_) hpl he
  refine thn (hkw pos pins s1 σ H1 _ I1 q) fun ws s2 ⟨zs, H2, I2, rz, q2⟩ => ⟨I2.kIn, ?_⟩
  rw [hks]
  exact run_fnk F hr hb hx I2 r rz q2
end

/-! ### a def's body keeps its promise -/
/-- names: the parameters first -/
structure FnScope (N P : List Str) (sc : Scope) : Prop where
  kind : sc.kind = .function
  co : sc.isCoroutine = false
  gen : sc.isGenerator = false
  nd : N.Nodup
  pre : N.take P.length = P
  par : ∀ x ∈ P, sc.names.lookup x = some .local ∨ sc.names.lookup x = some .cell
  nofree : ∀ y ∈ sc.names, y.2 ≠ .free

theorem bindL_out {kindOf : Str → Option NameKind} {x : Str} : ∀ {binds : List (Str × Value)} {m : Str → Option Value}, (∀ v, (x, v) ∉ binds) → bindL kindOf binds m x = m x
  | [], _, _ => rfl
  | (n, v) :: r, m, h => by
    unfold bindL
    rw [bindL_out fun w hw => h w (List.mem_cons_of_mem _ hw)]
    split
    · have : x ≠ n := by rintro rfl; exact h v List.mem_cons_self
      simp [this]
    · rfl
theorem bindC_out {kindOf : Str → Option NameKind} {x : Str} : ∀ {binds : List (Str × Value)} {m : Str → Option Value}, (∀ v, (x, v) ∉ binds) → bindC kindOf binds m x = m x
  | [], _, _ => rfl
  | (n, v) :: r, m, h => by
    unfold bindC
    rw [bindC_out fun w hw => h w (List.mem_cons_of_mem _ hw)]
    split
    · rfl
    · have : x ≠ n := by rintro rfl; exact h v List.mem_cons_self
      simp [this]
theorem bindL_get {kindOf : Str → Option NameKind} {x : Str} {v : Value} : ∀ {P : List Str} {vs : List Value} {i : Nat} {m : Str → Option Value}, P.Nodup → P[i]? = some x → vs[i]? = some v → kindOf x = some .local →
    bindL kindOf (P.zip vs) m x = some v
  | [], _, _, _, _, h, _, _ => by simp at h
  | _ :: _, [], _, _, _, _, h, _ => by simp at h
  | p :: P, w :: vs, 0, m, nd, h1, h2, hk => by
    simp at h1 h2; subst h1; subst h2
    show bindL kindOf ((p, w) :: P.zip vs) m p = _
    unfold bindL
    rw [bindL_out fun v hv => (List.nodup_cons.mp nd).1 (List.of_mem_zip hv).1, if_pos hk]
    simp
  | p :: P, w :: vs, i + 1, m, nd, h1, h2, hk => by
    show bindL kindOf ((p, w) :: P.zip vs) m x = _
    unfold bindL
    exact bindL_get (i := i) (List.nodup_cons.mp nd).2 (by simpa using h1) (by simpa using h2) hk
theorem bindC_get {kindOf : Str → Option NameKind} {x : Str} {v : Value} : ∀ {P : List Str} {vs : List Value} {i : Nat} {m : Str → Option Value}, P.Nodup → P[i]? = some x → vs[i]? = some v → kindOf x ≠ some .local →
    bindC kindOf (P.zip vs) m x = some v
  | [], _, _, _, _, h, _, _ => by simp at h
  | _ :: _, [], _, _, _, _, h, _ => by simp at h
  | p :: P, w :: vs, 0, m, nd, h1, h2, hk => by
    simp at h1 h2; subst h1; subst h2
    show bindC kindOf ((p, w) :: P.zip vs) m p = _
    unfold bindC
    rw [bindC_out fun v hv => (List.nodup_cons.mp nd).1 (List.of_mem_zip hv).1, if_neg hk]
    simp
  | p :: P, w :: vs, i + 1, m, nd, h1, h2, hk => by
    show bindC kindOf ((p, w) :: P.zip vs) m x = _
    unfold bindC
    exact bindC_get (i := i) (List.nodup_cons.mp nd).2 (by simpa using h1) (by simpa using h2) hk

/-- the names' values at the entry -/
def start (N : List Str) (vs : List V) : St := vs.map some ++ List.replicate (N.length - vs.length) none

/-- the context of a def's body, at its entry; an exception leaves the frame, then lies as CX says -/
def cxOf (CX : CXT) (P : Program) (w : World) (K : PySem.W.Frag) (mg : Str → Option Value) (base : Heap) (N : List Str) (qual : Str) (scope : Scope) (f : Addr) (cd : Value) (A : Around) (outer : List Env) (s : Shared) (H : Hp) (E : XK) : Cx where
  prog := P
  w := w
  K := K
  mg := mg
  base := base
  A := A.deeper (envOfC qual scope s.heap.objs.size f cd)
  N := N
  s_0 := s
  H_0 := H
  env := envOfC qual scope s.heap.objs.size f cd
  outer := outer
  stack := envOfC qual scope s.heap.objs.size f cd :: outer
  ex := []
  calm := true
  fn := fun _ => true
  pn := []
  xe := fun e s' => wpAny (model P w) (A.deeper (envOfC qual scope s.heap.objs.size f cd)) (leaving (envOfC qual scope s.heap.objs.size f cd) e) (fun _ s'' => CX outer H s E e s'') (fun e' s'' => CX outer H s E e' s'') s'

theorem cell_has {sc : Scope} {n : Nat} {x : Str} (h : sc.names.lookup x = some .cell) : ∃ c, (cellsFrom n sc.names []).lookup x = some c := by
  have q := PySem.W.cellsFrom_some sc.names n [] (.inl h)
  exact Option.isSome_iff_exists.mp q

theorem inv_start {CX : CXT} {P : Program} {w : World} {K : PySem.W.Frag} {mg : Str → Option Value} {base : Heap} {N ps : List Str} {qual : Str} {scope : Scope} {f : Addr} {cd : Value} {A : Around} {outer : List Env} {s s1 : Shared} {H : Hp} {E : XK} {us : List Value} {vs : List V}
    (S : FnScope N ps scope) (hd : A.handled = none) (e0 : Env0 P w K mg base A outer s H) (hl : vs.length = ps.length) (r : Vals vs us)
    (x : InCallC s s.heap.objs.size (bindL (envOfC qual scope s.heap.objs.size f cd).kindOf (ps.zip us) fun _ => none) (cellsFrom (s.heap.objs.size + 1) scope.names []) (bindC (envOfC qual scope s.heap.objs.size f cd).kindOf (ps.zip us) fun _ => none) s1) :
    Inv (cxOf CX P w K mg base N qual scope f cd A outer s H E) [] (start N vs) H s1 := by
  have hpl : ps.length ≤ N.length := by have := congrArg List.length S.pre; rw [List.length_take] at this; omega
  obtain ⟨h1, tk, rfl, hk⟩ := x.done
  have noA : ∀ b : Addr, b ∉ (cxOf CX P w K mg base N qual scope f cd A outer s H E).ex := fun b z => absurd (show b ∈ ([] : List Addr) from z) (by simp)
  refine ⟨⟨e0.mod, S.kind, rfl, rfl, Nat.le_refl _, fun y z c h1 h2 => ?_, fun y hy => ?_, fun y c _ h => ?_, fun _ => hd, Around.frames_deeper e0.frames, .inr ⟨rfl, rfl⟩, fun b z => absurd z (noA b), e0.bs, e0.bsz, fun b _ _ => noA b, fun b z => absurd z (noA b), e0.funs, e0.frf⟩,
    rfl, e0.bare, Un.kept hk, ⟨_, x.toInCall.ns, fun i y v h1 h2 h3 => ?_⟩, fun y c h => ⟨_, x.cell y c h⟩, e0.hok.fresh (Nat.le_refl _), fun y c h => ?_, fun p hp => absurd (show p ∈ ([] : List (Addr × Obj)) from hp) (by simp), e0.hok.kept hk, ?_⟩
  · exact name_of_addr x.apart (PySem.mem_of_lookup h1) (PySem.mem_of_lookup h2)
  · have hy : scope.names.lookup y = some .cell ∨ scope.names.lookup y = some .free := hy
    rcases hy with hy | hy
    · exact cell_has hy
    · exact absurd rfl (S.nofree _ (PySem.mem_of_lookup hy))
  · exact Nat.le_of_lt (x.above y c (PySem.mem_of_lookup h))
  · have hi : i < vs.length := by
      unfold start at h2
      by_cases hi : i < vs.length
      · exact hi
      · rw [List.getElem?_append_right (by simpa using hi)] at h2
        rw [List.getElem?_replicate] at h2
        split at h2 <;> cases h2
    have ha : vs[i]? = some v := by
      unfold start at h2
      rw [List.getElem?_append_left (by simpa using hi), List.getElem?_map] at h2
      cases e : vs[i]? with
      | none => rw [e] at h2; cases h2
      | some a => rw [e] at h2; cases h2; rfl
    obtain ⟨u, hu, rv⟩ := r.get ha
    have hp : ps[i]? = some y := by
      rw [← S.pre, List.getElem?_take_of_lt (by omega)]; exact h1
    have ndP : ps.Nodup := by rw [← S.pre]; exact S.nd.sublist (List.take_sublist _ _)
    refine ⟨u, rv, ?_⟩
    rcases S.par y (List.mem_of_getElem? hp) with k | k
    · exact .inl ⟨k, bindL_get ndP hp hu k⟩
    · obtain ⟨c, e⟩ := cell_has (n := s.heap.objs.size + 1) k
      refine .inr ⟨.inl k, c, e, ?_⟩
      have q := x.cell y c e
      rw [bindC_get ndP hp hu (by show scope.names.lookup y ≠ _; rw [k]; decide)] at q
      exact q
  · exact e0.hok.fresh (Nat.le_of_lt (x.above y c (PySem.mem_of_lookup h)))
  · unfold start
    show _ = N.length
    rw [List.length_append, List.length_map, List.length_replicate]
    omega

/-- THE RULE: a def (or a method) of the text, by its body. The body's reading t is chosen for each entry; it is run at the parameters' values -/
theorem fn_of {CX : CXT} {P : Program} {w : World} {K : PySem.W.Frag} {mg : Str → Option Value} {base : Heap} {k : Nat} {f : Addr} {name qual : Str} {params : Arguments} {body : List Stmt} {scope : Scope} {dV kV doc pm cdv ct oc : Value} {an od : Option Addr}
    {osl : Array (Option Value)} {N ps : List Str} {sp : Sp} (lk : K.lookup f = some ⟨oc, od, .func (PySem.W.fnOf name qual params body scope dV kV doc pm an cdv ct), osl⟩) (hcd : PySem.W.codeIn K cdv qual = true) (S : FnScope N ps scope)
    (len : ∀ vs H Q E, sp vs H Q E → vs.length = ps.length)
    (hbody : ∀ (A : Around) (outer : List Env) (s : Shared) (H : Hp) (vs : List V) (Q : VK) (E : XK), Room k (A.deeper (envOfC qual scope s.heap.objs.size f cdv)) → sp vs H Q E →
      ∃ t, PSs (cxOf CX P w K mg base N qual scope f cdv A outer s H E) body t ∧ t { nx := fun _ H' => Q .non H', rt := Q } (start N vs) H) :
    FnOk P w K mg base CX (k + 1) f (PySem.W.fnOf name qual params body scope dV kV doc pm an cdv ct) ps sp := by
  refine ⟨len, fun A outer s H args us vs Q E hr e0 hb r hsp => ?_⟩
  have hl := len _ _ _ _ hsp
  have KX : K.In s.heap := e0.mod.kin.keeps fun b o e => (e0.bs b o e).1
  have lim : s.heap.NoLimit := e0.mod.nolimit.keeps fun b o e => (e0.bs b o e).1
  have hkind : ∀ y ∈ ps.zip us, scope.names.lookup y.1 = some .local ∨ (scope.names.lookup y.1 = some .cell ∧ ((cellsFrom (s.heap.objs.size + 1) scope.names []).lookup y.1).isSome = true) := fun ⟨n, v⟩ hy => by
    rcases S.par n (List.of_mem_zip hy).1 with q | q
    · exact .inl q
    · exact .inr ⟨q, PySem.W.cellsFrom_some _ _ _ (.inl q)⟩
  refine codeAny_call_function hr.depth (KX _ _ lk) rfl S.co S.gen rfl (PySem.W.codeRec_of KX hcd) (hb _ _ _ _ ?_)
  refine wpAny_newFunctionEnv_cells S.kind hkind fun env he s1 x => ?_
  subst he
  refine ⟨lim.keeps x.toInCall.keep, codeAny_func ?_⟩
  obtain ⟨t, ht, hq⟩ := hbody A outer s H vs Q E (hr.deeper _) hsp
  have I : Inv (cxOf CX P w K mg base N qual scope f cdv A outer s H E) [] (start N vs) H s1 := inv_start S hr.hd e0 hl r x
  refine wpAny_mono (ht [] s1 (start N vs) H _ I hq) (fun fl s' hs => ?_) fun e s' hs => hs
  have fin : ∀ {σ' : St} {H' : Hp} {v : V} {u : Value}, Inv (cxOf CX P w K mg base N qual scope f cdv A outer s H E) [] σ' H' s' → RelV v u → Q v H' → CE outer P w H s Q u s' :=
    fun {σ' H' v u} J rv q => ⟨v, H', J.os, J.bare, J.base, J.hok, rv, q⟩
  cases fl with
  | ret u =>
    obtain ⟨v, σ', H', J, rv, q⟩ := hs
    exact fin J rv q
  | next =>
    obtain ⟨σ', H', J, q⟩ := hs
    exact fin (v := V.non) (u := Value.none) J rfl q
  | brk =>
    obtain ⟨_, _, _, q⟩ := hs
    exact False.elim q
  | cont =>
    obtain ⟨_, _, _, q⟩ := hs
    exact False.elim q
end L2

namespace L2
open PySem PySem.Spec PyProof.Rows
section
variable {X : Cx} {x : Str} {p pos : Pos} {e : Expr} {es : List Expr} {t : TA} {id T : String} {r : List V → Hp → VK → Prop}

def tCB (r : List V → Hp → VK → Prop) (t : TA) : TE := fun σ H Q => t σ H fun vs H1 => r vs H1 Q
/-- f(e, ..), f a built-in function -/
theorem pe_callB (hc : CallR X (.builtin id) r) (hg : Gl X x) (hm : X.mg x = none) (hv : bootBuiltins x = some (.builtin id)) (ha : PA X (e :: es) t) (hn : x ≠ "__name__" := by decide) (hdb : (x == ("__debug__" : Str)) = false := by decide)
    (he : starEach (e :: es) X.env = (false, eval e X.env) :: starEach es X.env := by rfl) (hpl : (backTo pos (starEach es X.env)).any (·.1) = false := by rfl) : PE X (.Call (.Name x p) (e :: es) [] pos) (tCB r t) := by
  intro pins s σ H Q I h
  refine wpAny_Call_Name_kw (ld_blt I hg hm hv ?_ hn hdb)
  exact PyProof.Rows.callWith_builtin1 (thn (ha pos pins s σ H _ I h) fun us s1 ⟨vs, H1, I1, r1, q1⟩ => hc pins s1 σ H1 vs us Q I1 r1 q1) he hpl
/-- T(e, ..), T a built-in type -/
theorem pe_callTy (hc : CallR X (.type T) r) (hg : Gl X x) (hm : X.mg x = none) (hv : bootBuiltins x = some (.type T)) (ha : PA X (e :: es) t) (hn : x ≠ "__name__" := by decide) (hdb : (x == ("__debug__" : Str)) = false := by decide)
    (he : starEach (e :: es) X.env = (false, eval e X.env) :: starEach es X.env := by rfl) (hpl : (backTo pos (starEach es X.env)).any (·.1) = false := by rfl) : PE X (.Call (.Name x p) (e :: es) [] pos) (tCB r t) := by
  intro pins s σ H Q I h
  refine wpAny_Call_Name_kw (ld_blt I hg hm hv ?_ hn hdb)
  exact PyProof.Rows.callWith_type1 (thn (ha pos pins s σ H _ I h) fun us s1 ⟨vs, H1, I1, r1, q1⟩ => hc pins s1 σ H1 vs us Q I1 r1 q1) he hpl
/-- T() -/
theorem pe_callTy0 (hc : CallR X (.type T) r) (hg : Gl X x) (hm : X.mg x = none) (hv : bootBuiltins x = some (.type T)) (hn : x ≠ "__name__" := by decide) (hdb : (x == ("__debug__" : Str)) = false := by decide) :
    PE X (.Call (.Name x p) [] [] pos) (tCB r tNil) := by
  intro pins s σ H Q I h
  refine wpAny_Call_Name_kw (ld_blt I hg hm hv ?_ hn hdb)
  exact PyProof.Rows.callWith_type0 (hc pins s σ H [] [] Q I .nil h)
end
end L2

namespace HT
open PySem PyProof.Rows

/-- t < u of tuples of ints -/
def lexLt : List Int → List Int → Bool
  | [], [] => false
  | [], _ :: _ => true
  | _ :: _, [] => false
  | x :: xs, y :: ys => if x = y then lexLt xs ys else decide (x < y)
theorem lexLt_cons (x y : Int) (xs ys : List Int) : lexLt (x :: xs) (y :: ys) = if x = y then lexLt xs ys else decide (x < y) := rfl
theorem lexLt_nil_nil : lexLt [] [] = false := rfl
theorem lexLt_nil_cons (y : Int) (ys : List Int) : lexLt [] (y :: ys) = true := rfl
theorem lexLt_cons_nil (x : Int) (xs : List Int) : lexLt (x :: xs) [] = false := rfl

theorem eqAt_int (A : Around) (s : Shared) (a : Int) (t : Tok) (c : Int) (u : Tok) : ∃ e, SeqAt.EqAt A s (.int a t) (.int c u) e ∧ (e = true ↔ a = c) :=
  ⟨(a == c), SeqAt.EqAt.int_int a t c u, by simp⟩
theorem rcLt_int (A : Around) (s : Shared) (a : Int) (t : Tok) (c : Int) (u : Tok) (prog : Program) (w : World) (E : Value → Shared → Prop) (Q : Value → Shared → Prop) (h : Q (.bool (decide (a < c))) s) :
    wpAny (model prog w) A (richCompare .Lt (.int a t) (.int c u)) Q E s :=
  (PyProof.Rows.lt_int h : wpAny (model prog w) A (compareOp .Lt (.int a t) (.int c u)) Q E s)

section
open PySem.SeqAt
open PySem.AutoSeq1 (wpAny_loadPart')
open PySem.MeetsSeq PySem.MeetsSeq2 PySem.MeetsSeq3

theorem tuple_lt_ints (l b : Addr) (items items2 : Array Value) (n n2 : Nat) (dd dd2 : Option Addr) (sl sl2 : Array (Option Value)) (ns ms : List Int) (hi : IntsAre items.toList ns) (hj : IntsAre items2.toList ms) :
    Meets (Builtin.«tuple.__lt__» ⟨[.ref l, .ref b], []⟩)
      (fun _ R s => s.heap.get? l = some { cls := .type "tuple", dict := dd, data := .seq items n, slots := sl } ∧ s.heap.get? b = some { cls := .type "tuple", dict := dd2, data := .seq items2 n2, slots := sl2 } ∧
        R (.ok (.ret (.bool (lexLt ns ms)))) s) :=
  .of_wp fun prog w A R s h => by
    obtain ⟨hp, g, d, tk, os⟩ := s; obtain ⟨hl, hb, h⟩ := h
    have f2 := AutoSeq1.sub_tuple_tuple
    have z1 : items.size = ns.length := by rw [← hi.length]; simp
    have z2 : items2.size = ms.length := by rw [← hj.length]; simp
    wp_walk using wpAny_loadPart' hl, wpAny_loadPart' hb, wpAny_forIn_list _ (fun rest b s' => b.1 = none ∧ s' = ⟨hp, g, d, tk, os⟩ ∧ ∃ (vs ws : List Value) (ns' ms' : List Int), rest = vs.zip ws ∧
      IntsAre vs ns' ∧ IntsAre ws ms' ∧ ns'.length + items2.size = ms'.length + items.size ∧ R (.ok (.ret (.bool (lexLt ns' ms')))) ⟨hp, g, d, tk, os⟩) _
    case turn =>
      rintro ⟨y, x⟩ rest b s' ⟨hb', rfl, vs, ws, ns', ms', hz, hvi, hwi, hlen, hR⟩
      cases hvi with
      | nil => rw [List.zip_nil_left] at hz; cases hz
      | cons a t hvi' =>
        cases hwi with
        | nil => rw [List.zip_nil_right] at hz; cases hz
        | cons c u hwi' =>
          rw [List.zip_cons_cons] at hz
          injection hz with hyx hrest
          injection hyx with hy hx
          subst hy hx
          rw [lexLt_cons] at hR
          simp only [List.length_cons] at hlen
          obtain ⟨e, he, hiff⟩ := eqAt_int A.in1 ⟨hp, g, d, tk, os⟩ a t c u
          refine wpAny_bind (he prog w _ _ ?_)
          cases e with
          | true =>
            rw [if_pos (hiff.mp rfl)] at hR
            wp_walk
            exact ⟨rfl, rfl, _, _, _, _, hrest, hvi', hwi', by omega, hR⟩
          | false =>
            rw [if_neg (fun q => absurd (hiff.mpr q) Bool.false_ne_true)] at hR
            have hri := rcLt_int A.in1 ⟨hp, g, d, tk, os⟩ a t c u prog w
            wp_walk using hri
            exact ⟨_, rfl, by simpa using hR⟩
    case fin =>
      rintro ⟨b1, b2⟩ s' ⟨hb', rfl, vs, ws, ns', ms', hz, hvi, hwi, hlen, hR⟩
      simp only at hb'
      subst hb'
      have hv : lexLt ns' ms' = decide (items.size < items2.size) := by
        cases hvi with
        | nil =>
          cases hwi with
          | nil =>
            simp only [List.length_nil] at hlen
            rw [lexLt_nil_nil]
            exact (decide_eq_false (by omega)).symm
          | cons c u hw =>
            simp only [List.length_nil, List.length_cons] at hlen
            rw [lexLt_nil_cons]
            exact (decide_eq_true (by omega)).symm
        | cons a t hv =>
          cases hwi with
          | nil =>
            simp only [List.length_nil, List.length_cons] at hlen
            rw [lexLt_cons_nil]
            exact (decide_eq_false (by omega)).symm
          | cons c u hw =>
            rw [List.zip_cons_cons] at hz
            cases hz
      rw [hv] at hR
      wp_walk
      exact ⟨_, rfl, by simpa [Builtin.Tuple.tupleCompareSizes] using hR⟩
    case h =>
      exact ⟨rfl, rfl, items.toList, items2.toList, ns, ms, rfl, hi, hj, by omega, h⟩
end

section
variable {prog : Program} {w : World} {A : Around} {E : Value → Shared → Prop} {s : Shared}

theorem lt_tupInts {l b : Addr} {items items2 : Array Value} {ns ms : List Int} {Q : Value → Shared → Prop} (hl : IsTup s.heap l items) (hb : IsTup s.heap b items2) (hi : IntsAre items.toList ns) (hj : IntsAre items2.toList ms)
    (hu : A.units < cLine) (h : Q (.bool (lexLt ns ms)) s) : wpAny (model prog w) A (compareOp .Lt (.ref l) (.ref b)) Q E s := by
  obtain ⟨⟨cls, dd, data, sl⟩, ho, hc, n, hd⟩ := id hl
  obtain ⟨⟨cls2, dd2, data2, sl2⟩, ho2, hc2, n2, hd2⟩ := id hb
  simp only at hc hd hc2 hd2
  subst hc hd hc2 hd2
  exact richCompare_meets_room (op := .Lt) ⟨_, ho, rfl⟩ ⟨_, ho2, rfl⟩ PySem.F.slot_tuple_lt PySem.F.entry_tuple_lt (PySem.F.args_tuple_lt_2 _ _) (tuple_lt_ints l b items items2 n n2 dd dd2 sl sl2 ns ms hi hj)
    ⟨ho, ho2, show Value.bool (lexLt ns ms) ≠ Value.notImplemented ∧ Q (.bool (lexLt ns ms)) s from ⟨(fun x => nomatch x), h⟩⟩ hu

/-- t + u, t not empty -/
theorem cat_tup {t b : Addr} {vs ws : List Value} {Q : Value → Shared → Prop} (ht : IsTup s.heap t vs.toArray) (hb : IsTup s.heap b ws.toArray) (hv : vs ≠ [])
    (h1 : ws = [] → Q (.ref t) s) (h2 : ws ≠ [] → Q (.ref s.heap.objs.size) { s with heap := s.heap.push { cls := .type "tuple", data := .seq (vs ++ ws).toArray } })
    (hsz : vs.length + ws.length ≤ sizeLine) : wpAny (model prog w) A (binaryOp .Add (.ref t) (.ref b)) Q E s := by
  obtain ⟨⟨cls, dd, data, sl⟩, ho, hc, n, hd⟩ := id ht
  obtain ⟨⟨cls2, dd2, data2, sl2⟩, ho2, hc2, n2, hd2⟩ := id hb
  simp only at hc hd hc2 hd2
  subst hc hd hc2 hd2
  have e : vs.toArray ++ ws.toArray = (vs ++ ws).toArray := by simp
  by_cases hw : ws = []
  · exact concat_meets ⟨_, ho, rfl⟩ ⟨_, ho2, rfl⟩ noFill_tuple_add seq_tuple_add PySem.F.slot_tuple_add PySem.F.entry_tuple_add (PySem.F.args_tuple_add_2 _ _)
      (tuple_addW1 t b vs.toArray ws.toArray n n2 dd dd2 sl sl2 (by simpa using hv) (by simp [hw])) ⟨ho, ho2, h1 hw⟩
  · refine concat_meets ⟨_, ho, rfl⟩ ⟨_, ho2, rfl⟩ noFill_tuple_add seq_tuple_add PySem.F.slot_tuple_add PySem.F.entry_tuple_add (PySem.F.args_tuple_add_2 _ _)
      (tuple_addW2 t b vs.toArray ws.toArray n n2 dd dd2 sl sl2 (by simpa using hv) (by simpa using hw) (by rw [List.size_toArray, List.size_toArray]; exact hsz)) ⟨ho, ho2, ?_⟩
    rw [e]
    exact h2 hw

/-! ### t[a:b], not the whole -/
/-- a slice's bound as a place among n (d where it is left out) -/
def sIx (n d : Nat) : Option Int → Nat
  | none => d
  | some v => if v < 0 then (v + (n : Int)).toNat else min v.toNat n
theorem sIx_none (n d : Nat) : sIx n d none = d := rfl
theorem sIx_nat (n d k : Nat) : sIx n d (some (k : Int)) = min k n := by
  show (if (k : Int) < 0 then ((k : Int) + (n : Int)).toNat else min (k : Int).toNat n) = min k n
  rw [if_neg (by omega), Int.toNat_natCast]
theorem sIx_le (n d : Nat) (hd : d ≤ n) (o : Option Int) : sIx n d o ≤ n := by
  cases o with
  | none => exact hd
  | some v =>
    show (if v < 0 then (v + (n : Int)).toNat else min v.toNat n) ≤ n
    by_cases hv : v < 0
    · rw [if_pos hv]; omega
    · rw [if_neg hv]; exact Nat.min_le_right _ _
theorem clip_eq (v : Int) (n d : Nat) : (if v < 0 then max (v + (n : Int)) 0 else min v (n : Int)) = ((sIx n d (some v) : Nat) : Int) := by
  show (if v < 0 then max (v + (n : Int)) 0 else min v (n : Int)) = (((if v < 0 then (v + (n : Int)).toNat else min v.toNat n) : Nat) : Int)
  by_cases hv : v < 0
  · simp only [if_pos hv]; omega
  · simp only [if_neg hv]; omega
theorem adjust_gen (lo hi : Option Int) (n : Nat) : Builtin.Slice.sliceAdjust lo hi 1 (n : Int) = (((sIx n 0 lo : Nat) : Int), ((sIx n n hi : Nat) : Int)) := by
  have h1 : ¬ ((1 : Int) < 0) := by omega
  unfold Builtin.Slice.sliceAdjust
  simp only [h1, if_false]
  refine Prod.ext ?_ ?_
  · cases lo with
    | none => rfl
    | some v => exact clip_eq v n 0
  · cases hi with
    | none => rfl
    | some v => exact clip_eq v n n
theorem places_gen (i j : Nat) : Builtin.Slice.slicePlaces (i : Int) (j : Int) 1 = j - i := by
  unfold Builtin.Slice.slicePlaces
  have h1 : (1 : Int) > 0 := by omega
  simp only [h1, if_true, Int.ediv_one]
  split <;> omega
theorem slicePart_ {v : Value} {o : Option Int} {Q : Option Int → Shared → Prop} (p : IsPart v o) (h : Q o s) : wpAny (model prog w) A (Builtin.Slice.slicePartIndex v) Q E s := by
  cases p with
  | none => exact slicePart_none h
  | int i t => exact slicePart_int h
theorem sliceApplied_gen {sl : Addr} {vl vu : Value} {lo hi : Option Int} {n : Nat} {Q : Int × Int × Nat → Shared → Prop} (hs : s.heap.IsSliceOf sl vl vu .none) (pl : IsPart vl lo) (pu : IsPart vu hi)
    (h : Q (((sIx n 0 lo : Nat) : Int), 1, sIx n n hi - sIx n 0 lo) s) : wpAny (model prog w) A (Builtin.Slice.sliceApplied (.ref sl) (pure (n : Int))) Q E s := by
  obtain ⟨os, hos, hcs, hds⟩ := id hs
  unfold Builtin.Slice.sliceApplied Builtin.Slice.sliceFields
  refine wpAny_bind (wpAny_bind (wpAny_field hos hds (x := vl) rfl (wpAny_bind (wpAny_field hos hds (x := vu) rfl (wpAny_bind (wpAny_field hos hds (x := .none) rfl (wpAny_pure ?_)))))))
  refine wpAny_bind (slicePart_none ?_)
  show wpAny _ _ (if ((1 : Int) == 0) = true then _ else _) _ _ s
  rw [if_neg (by decide)]
  refine wpAny_bind (slicePart_ pl (wpAny_bind (slicePart_ pu (wpAny_bind (wpAny_pure ?_)))))
  show wpAny _ _ (match Builtin.Slice.sliceAdjust lo hi 1 (n : Int) with | (lo, hi) => pure (lo, (1 : Int), Builtin.Slice.slicePlaces lo hi 1)) _ _ s
  rw [adjust_gen lo hi n]
  show wpAny _ _ (pure (((sIx n 0 lo : Nat) : Int), (1 : Int), Builtin.Slice.slicePlaces ((sIx n 0 lo : Nat) : Int) ((sIx n n hi : Nat) : Int) 1)) _ _ s
  rw [places_gen]
  exact wpAny_pure h
theorem pick_gen (xs : Array Value) (i k : Nat) : ((List.range k).filterMap fun (m : Nat) => xs[((i : Int) + (m : Int) * 1).toNat]?).toArray = ((xs.toList.drop i).take k).toArray := by
  have e : (fun (m : Nat) => xs[((i : Int) + (m : Int) * 1).toNat]?) = fun m => xs[i + m]? := by
    funext m
    have : ((i : Int) + (m : Int) * 1).toNat = i + m := by omega
    rw [this]
  rw [e]
  have := pick_run xs i k
  rw [List.filterMap_map] at this
  have e2 : ((fun x => xs[x]?) ∘ fun x => i + x) = fun m => xs[i + m]? := rfl
  rw [e2] at this
  rw [this]

theorem getItem_tuple_cut {t sl : Addr} {items : Array Value} {vl vu : Value} {lo hi : Option Int} {Q : Value → Shared → Prop} (ht : IsTup s.heap t items) (hs : s.heap.IsSliceOf sl vl vu .none) (pl : IsPart vl lo) (pu : IsPart vu hi)
    (hw : ¬ (sIx items.size 0 lo = 0 ∧ sIx items.size items.size hi = items.size))
    (h : Q (.ref s.heap.objs.size) { s with heap := s.heap.push { cls := .type "tuple", data := .seq ((items.toList.drop (sIx items.size 0 lo)).take (sIx items.size items.size hi - sIx items.size 0 lo)).toArray } })
    (hsz : items.size ≤ sizeLine) : wpAny (model prog w) A (getItem (.ref t) (.ref sl)) Q E s := by
  have htake : sizeOk (.seq ((items.toList.drop (sIx items.size 0 lo)).take (sIx items.size items.size hi - sIx items.size 0 lo)).toArray) := by
    show ((items.toList.drop (sIx items.size 0 lo)).take (sIx items.size items.size hi - sIx items.size 0 lo)).toArray.size ≤ sizeLine
    rw [List.size_toArray, List.length_take, List.length_drop, Array.length_toList]
    omega
  have hj : sIx items.size items.size hi ≤ items.size := sIx_le _ _ (Nat.le_refl _) hi
  obtain ⟨os, hos, hcs, hds⟩ := id hs
  have hTs : s.TypeIs (.ref sl) "slice" := ⟨os, hos, hcs⟩
  unfold getItem
  try with_reducible refine wpAny_holding ?_
  first | refine wpAny_bind (wpAny_pure ?_) | skip
  refine wpAny_bind (wpAny_sequenceKey ht.typeIs (by decide) ?_)
  refine wpAny_bind (wpAny_callSpecial?_slot (name := Str.ofString "__getitem__") ht.typeIs PyProof.Rows.slot_tuple_getitem
    (wpAny_call_entry PyProof.Rows.slot_tuple_getitem ht.typeIs entry_tuple_getitem ?_ (args_tuple_getitem _ _)))
  show wpAny _ _ (Builtin.Tuple.tupleItemsOf (.ref t) >>= _) _ _ s
  refine wpAny_bind (tupleItemsOf_ ht ?_)
  refine wpAny_bind (wpAny_typeOf hTs ?_)
  rw [if_pos (by decide)]
  refine wpAny_bind (sliceApplied_gen hs pl pu ?_)
  have hno : ¬ ((((sIx items.size 0 lo : Nat) : Int) == 0 && (1 : Int) == 1 && (sIx items.size items.size hi - sIx items.size 0 lo) == items.size) = true) := by
    intro q
    rw [Bool.and_eq_true, Bool.and_eq_true] at q
    have q1 : ((sIx items.size 0 lo : Nat) : Int) = 0 := eq_of_beq q.1.1
    have q2 : sIx items.size items.size hi - sIx items.size 0 lo = items.size := eq_of_beq q.2
    exact hw ⟨by omega, by omega⟩
  show wpAny _ _ (if (((sIx items.size 0 lo : Nat) : Int) == 0 && (1 : Int) == 1 && (sIx items.size items.size hi - sIx items.size 0 lo) == items.size) = true then _ else _) _ _ s
  rw [if_neg hno, pick_gen]
  first
    | exact wpAny_bind (m := Builtin.Tuple.tupleExact _) (wpAny_newObj_type (wpAny_pure ⟨_, rfl, wpAny_pure h⟩) htake)
    | exact wpAny_bind (m := Builtin.Tuple.tupleExact _) (wpAny_newObj_type (wpAny_bind (wpAny_pure (wpAny_pure ⟨_, rfl, wpAny_pure h⟩))) htake)
    | exact wpAny_bind (wpAny_bind (m := Builtin.Tuple.tupleExact _) (wpAny_newObj_type (wpAny_pure (wpAny_pure ⟨_, rfl, wpAny_pure h⟩)) htake))
    | exact wpAny_bind (wpAny_bind (m := Builtin.Tuple.tupleExact _) (wpAny_newObj_type (wpAny_pure ⟨_, rfl, wpAny_pure h⟩) htake))
end
end HT

namespace L2
open PySem PySem.Spec PyProof.Rows

/-! ### the parts of a slice -/
abbrev TO := St → Hp → (Option Int → Hp → Prop) → Prop
/-- a slice's part (left out, or an int) -/
def PO (X : Cx) (e : Option Expr) (t : TO) : Prop :=
  ∀ (pins : List (Addr × Obj)) (s : Shared) (σ : St) (H : Hp) (Q : Option Int → Hp → Prop), Inv X pins σ H s → t σ H Q →
    wpAny (model X.prog X.w) X.A (evalPart e X.env) (fun u s' => ∃ o H', Inv X pins σ H' s' ∧ IsPart u o ∧ Q o H') X.xe s
def tNoPart : TO := fun _ H Q => Q none H
def tPart (t : TE) : TO := fun σ H Q => t σ H fun x H1 => ∃ i, x = .int i ∧ Q (some i) H1

theorem intsAre_of {ns : List Int} : ∀ {us : List Value}, Vals (ns.map V.int) us → IntsAre us ns := by
  induction ns with
  | nil => intro us r; rw [List.map_nil] at r; cases r; exact .nil
  | cons n ns ih =>
    intro us r
    rw [List.map_cons] at r
    cases r with
    | cons r1 r2 =>
      obtain ⟨t, e⟩ := r1
      subst e
      exact .cons n t (ih r2)

section
variable {X : Cx} {e : Expr} {te : TE} {lo hi : Option Expr} {tl th : TO} {pos p2 : Pos}

theorem po_none : PO X none tNoPart := by
  intro pins s σ H Q I h
  rw [evalPart_none]
  exact wpAny_pure ⟨none, H, I, .none, h⟩
theorem po_some (h : PE X e te) : PO X (some e) (tPart te) := by
  intro pins s σ H Q I hw
  rw [evalPart_some]
  refine thn (h pins s σ H _ I hw) fun u s1 ⟨x, H1, I1, r1, q1⟩ => ?_
  obtain ⟨i, rfl, q⟩ := q1
  obtain ⟨t, rfl⟩ := r1
  exact ⟨some i, H1, I1, .int i t, q⟩

/-- what a slice of a value is, by values: the slice object stands at sl -/
def SlR (X : Cx) (r : V → Option Int → Option Int → Hp → VK → Prop) : Prop :=
  ∀ (pins : List (Addr × Obj)) (s : Shared) (σ : St) (H : Hp) (x : V) (v vl vu : Value) (lo hi : Option Int) (sl : Addr) (Q : VK), Inv X pins σ H s → RelV x v → s.heap.IsSliceOf sl vl vu .none → IsPart vl lo → IsPart vu hi → r x lo hi H Q →
    ∃ T id, typeLookup (.type T) "__getitem__" = pure (some (.builtin id)) ∧ s.TypeIs v T ∧ wpAny (model X.prog X.w) X.A (getItem v (.ref sl)) (EP X pins σ Q) X.xe s
theorem SlR.or {r r' : V → Option Int → Option Int → Hp → VK → Prop} (h : SlR X r) (h' : SlR X r') : SlR X (fun x lo hi H Q => r x lo hi H Q ∨ r' x lo hi H Q) := by
  intro pins s σ H x v vl vu lo hi sl Q I rx hs pl pu q
  rcases q with q | q
  · exact h pins s σ H x v vl vu lo hi sl Q I rx hs pl pu q
  · exact h' pins s σ H x v vl vu lo hi sl Q I rx hs pl pu q
def tSl (r : V → Option Int → Option Int → Hp → VK → Prop) (te : TE) (tl th : TO) : TE := fun σ H Q => te σ H fun x H1 => tl σ H1 fun l H2 => th σ H2 fun u H3 => r x l u H3 Q
/-- a[lo:hi], any a -/
theorem pe_slice {r : V → Option Int → Option Int → Hp → VK → Prop} (hr : SlR X r) (he : PE X e te) (hl : PO X lo tl) (hu : PO X hi th) : PE X (.Subscript e (.Slice lo hi none p2) pos) (tSl r te tl th) := by
  intro pins s σ H Q I h
  refine Subscript_ (thn (he pins s σ H _ I h) fun v s1 ⟨x, H1, I1, r1, q1⟩ => ?_)
  refine wpAny_Slice (thn (hl pins s1 σ H1 _ I1 q1) fun vl s2 ⟨l, H2, I2, pl, q2⟩ => thn (hu pins s2 σ H2 _ I2 q2) fun vu s3 ⟨u, H3, I3, pu, q3⟩ => ?_)
  rw [evalPart_none]
  refine wpAny_pure ?_
  have I4 : Inv X pins σ H3 { s3 with heap := s3.heap.push { cls := .type "slice", data := .fields #[vl, vu, .none] } } := I3.kept (t' := s3.toks) fun b ob q => Heap.get?_push_of_some _ q
  obtain ⟨T, id, hT, ht, hg⟩ := hr pins { s3 with heap := s3.heap.push { cls := .type "slice", data := .fields #[vl, vu, .none] } } σ H3 x v vl vu l u s3.heap.objs.size Q I4 r1 (Heap.IsSliceOf.new ..) pl pu q3
  show wpAny (model X.prog X.w) X.A (subscriptTail e (.Slice lo hi none p2) v (.ref s3.heap.objs.size)) (EP X pins σ Q) X.xe { s3 with heap := s3.heap.push { cls := .type "slice", data := .fields #[vl, vu, .none] } }
  exact tail_any (ops := [.ref s3.heap.objs.size, v]) ht hT hg (by with_unfolding_all rfl)

/-- the items of xs[lo:hi] -/
def cutV (xs : List V) (lo hi : Option Int) : List V := (xs.drop (HT.sIx xs.length 0 lo)).take (HT.sIx xs.length xs.length hi - HT.sIx xs.length 0 lo)
theorem cutV_length (xs : List V) (lo hi : Option Int) : (cutV xs lo hi).length ≤ xs.length := by
  unfold cutV
  rw [List.length_take, List.length_drop]
  omega
/-- t[lo:hi], not the whole of it (the whole would be t itself) -/
def rSlT (K : PySem.W.Frag) : V → Option Int → Option Int → Hp → VK → Prop := fun x lo hi H Q => ∃ a xs, x = .ref a ∧ SqT K H a xs ∧
  ¬ (HT.sIx xs.length 0 lo = 0 ∧ HT.sIx xs.length xs.length hi = xs.length) ∧ ∀ p, H p = none → Q (.ref p) (upd H p (.tup (cutV xs lo hi)))
theorem sl_tup : SlR X (rSlT X.K) := by
  intro pins s σ H x v vl vu lo hi sl Q I rx hs pl pu h
  obtain ⟨a, xs, rfl, hx, hw, q⟩ := h
  cases rx
  obtain ⟨its, r, ht, hz⟩ := I.tuple hx
  have hlen : its.toArray.size = xs.length := by rw [List.size_toArray]; exact r.length.symm
  refine ⟨"tuple", _, PyProof.Rows.slot_tuple_getitem.lookup, ht.typeIs, ?_⟩
  refine HT.getItem_tuple_cut ht hs pl pu (by rw [hlen]; exact hw) ?_ (by rw [hlen]; exact hz)
  rw [hlen]
  refine ⟨.ref s.heap.objs.size, _, I.laid (t' := s.toks) (o := .tup (cutV xs lo hi)) (fun b ob q => Heap.get?_push_of_some _ q) (Nat.le_refl _) ?_, rfl, q _ (I.hok.fresh (Nat.le_refl _))⟩
  exact ⟨Nat.le_trans (cutV_length xs lo hi) hz, _, (r.drop (HT.sIx xs.length 0 lo)).take (HT.sIx xs.length xs.length hi - HT.sIx xs.length 0 lo), IsTup.new _ _⟩

/-! ### t < u, t + u -/
def rLtT (K : PySem.W.Frag) : R2 := fun x y H Q => ∃ a b ns ms, x = .ref a ∧ y = .ref b ∧ SqT K H a (ns.map V.int) ∧ SqT K H b (ms.map V.int) ∧ Q (.bl (HT.lexLt ns ms)) H
theorem op_ltT (hu : X.A.units < cLine) : OpR X (compareOp .Lt) (rLtT X.K) := by
  intro pins s σ H x y v u Q I rx ry h
  obtain ⟨a, b, ns, ms, rfl, rfl, ha, hb, q⟩ := h
  cases rx
  cases ry
  obtain ⟨its, r1, p1, _⟩ := I.tuple ha
  obtain ⟨its2, r2, p2, _⟩ := I.tuple hb
  have i1 : IntsAre its.toArray.toList ns := intsAre_of r1
  have i2 : IntsAre its2.toArray.toList ms := intsAre_of r2
  exact HT.lt_tupInts p1 p2 i1 i2 hu ⟨.bl (HT.lexLt ns ms), H, I, rfl, q⟩
/-- t + u, t not empty: u empty gives t itself -/
def rCatT (K : PySem.W.Frag) : R2 := fun x y H Q => ∃ a b xs ys, x = .ref a ∧ y = .ref b ∧ SqT K H a xs ∧ SqT K H b ys ∧ xs ≠ [] ∧ xs.length + ys.length ≤ sizeLine ∧
  (ys = [] → Q (.ref a) H) ∧ (ys ≠ [] → ∀ p, H p = none → Q (.ref p) (upd H p (.tup (xs ++ ys))))
theorem Vals.nil_iff {xs : List V} {us : List Value} (r : Vals xs us) : us = [] ↔ xs = [] := by
  cases r with
  | nil => simp
  | cons _ _ => simp
theorem op_catT : OpR X (binaryOp .Add) (rCatT X.K) := by
  intro pins s σ H x y v u Q I rx ry h
  obtain ⟨a, b, xs, ys, rfl, rfl, ha, hb, hx, hz, q1, q2⟩ := h
  cases rx
  cases ry
  obtain ⟨its, r1, p1, _⟩ := I.tuple ha
  obtain ⟨its2, r2, p2, _⟩ := I.tuple hb
  refine HT.cat_tup p1 p2 (fun z => hx (r1.nil_iff.mp z)) (fun z => ⟨.ref a, H, I, rfl, q1 (r2.nil_iff.mp z)⟩) (fun z => ?_) (by rw [← r1.length, ← r2.length]; exact hz)
  refine ⟨.ref s.heap.objs.size, _, I.laid (t' := s.toks) (o := .tup (xs ++ ys)) (fun b ob q => Heap.get?_push_of_some _ q) (Nat.le_refl _) ?_, rfl, q2 (fun w => z (r2.nil_iff.mpr w)) _ (I.hok.fresh (Nat.le_refl _))⟩
  exact ⟨by rw [List.length_append]; exact hz, _, r1.append r2, IsTup.new _ _⟩
/-- tuple(t) -/
theorem call_tupleT : CallR X (.type "tuple") (fun xs H Q => ∃ a ys, xs = [.ref a] ∧ SqT X.K H a ys ∧ Q (.ref a) H) := by
  intro pins s σ H xs us Q I r h
  obtain ⟨a, ys, rfl, ha, q⟩ := h
  obtain ⟨u, rfl, ru⟩ := vals1 r
  cases ru
  obtain ⟨its, _, p1, _⟩ := I.tuple ha
  exact call_tuple_same (items := its.toArray) p1 ⟨.ref a, H, I, rfl, q⟩
end
end L2

namespace L2
open PySem PySem.Spec PyProof.Rows

/-! ### places -/
/-- the place that an index of any sign means -/
def ixN (n : Nat) (i : Int) : Option Nat := if 0 ≤ i then (if i < n then some i.toNat else none) else if -(n : Int) ≤ i then some (i + n).toNat else none
def atI {α : Type} (xs : List α) (i : Int) : Option α := (ixN xs.length i).bind fun j => xs[j]?
theorem ixN_seq {n : Nat} {i : Int} {j : Nat} (h : ixN n i = some j) : seqIndex? i n = some j ∧ j < n ∧ -(n : Int) ≤ i ∧ i < n := by
  unfold ixN at h
  by_cases h0 : 0 ≤ i
  · rw [if_pos h0] at h
    by_cases h1 : i < n
    · rw [if_pos h1] at h
      have e : i.toNat = j := Option.some.inj h
      exact ⟨by rw [seqIndex_of h0 h1, e], by omega, by omega, h1⟩
    · rw [if_neg h1] at h; cases h
  · rw [if_neg h0] at h
    by_cases h1 : -(n : Int) ≤ i
    · rw [if_pos h1] at h
      have e : (i + n).toNat = j := Option.some.inj h
      exact ⟨by rw [seqIndex_neg (by omega) h1, e], by omega, h1, by omega⟩
    · rw [if_neg h1] at h; cases h
theorem atI_get {α : Type} {xs : List α} {i : Int} {v : α} (h : atI xs i = some v) : ∃ j, seqIndex? i xs.length = some j ∧ xs[j]? = some v ∧ j < xs.length ∧ -(xs.length : Int) ≤ i ∧ i < xs.length := by
  unfold atI at h
  cases e : ixN xs.length i with
  | none => rw [e] at h; cases h
  | some j =>
    rw [e] at h
    obtain ⟨h1, h2, h3, h4⟩ := ixN_seq e
    exact ⟨j, h1, h, h2, h3, h4⟩
theorem atI_nat {α : Type} {xs : List α} {j : Nat} {v : α} (h : xs[j]? = some v) : atI xs (j : Int) = some v := by
  have hj : j < xs.length := (List.getElem?_eq_some_iff.mp h).1
  have e : ixN xs.length (j : Int) = some j := by
    unfold ixN
    rw [if_pos (by omega), if_pos (by omega)]; simp
  unfold atI; rw [e]; exact h
theorem atI_last {α : Type} (xs : List α) (v : α) : atI (xs ++ [v]) (-1) = some v := by
  have hl : (xs ++ [v]).length = xs.length + 1 := by simp
  have e : ixN (xs ++ [v]).length (-1) = some xs.length := by
    unfold ixN
    rw [hl, if_neg (by decide), if_pos (by omega)]
    congr 1
    omega
  unfold atI
  rw [e]
  show (xs ++ [v])[xs.length]? = some v
  simp

/-! ### what may be subscripted -/
/-- what stands as an index of a plain subscript -/
def PlainIx (b : Expr) : Prop := ∀ o i, subscripted b false o i = operate [o, i] (getItem o i)
/-- a subscript by values -/
def IxR (X : Cx) (r : R2) : Prop :=
  ∀ (value slice : Expr) (pins : List (Addr × Obj)) (s : Shared) (σ : St) (H : Hp) (x y : V) (v u : Value) (Q : VK), Inv X pins σ H s → RelV x v → RelV y u → r x y H Q →
    subscripted slice false v u = operate [v, u] (getItem v u) → wpAny (model X.prog X.w) X.A (subscriptTail value slice v u) (EP X pins σ Q) X.xe s
/-- a call of a builtin's method by values: the receiver, the arguments -/
def MtR (X : Cx) (id : String) (r : V → List V → Hp → VK → Prop) : Prop :=
  ∀ (pins : List (Addr × Obj)) (s : Shared) (σ : St) (H : Hp) (x : V) (xs : List V) (v : Value) (us : List Value) (Q : VK), Inv X pins σ H s → RelV x v → Vals xs us → r x xs H Q →
    wpAny (model X.prog X.w) X.A (call (.builtin id) (v :: us)) (EP X pins σ Q) X.xe s
section
variable {X : Cx} {a b : Expr} {ta tb : TE} {pos : Pos}
theorem IxR.or {r r' : R2} (h : IxR X r) (h' : IxR X r') : IxR X (fun x y H Q => r x y H Q ∨ r' x y H Q) := by
  intro value slice pins s σ H x y v u Q I rx ry q hs
  rcases q with q | q
  · exact h value slice pins s σ H x y v u Q I rx ry q hs
  · exact h' value slice pins s σ H x y v u Q I rx ry q hs
theorem MtR.or {id : String} {r r' : V → List V → Hp → VK → Prop} (h : MtR X id r) (h' : MtR X id r') : MtR X id (fun x xs H Q => r x xs H Q ∨ r' x xs H Q) := by
  intro pins s σ H x xs v us Q I rx rs q
  rcases q with q | q
  · exact h pins s σ H x xs v us Q I rx rs q
  · exact h' pins s σ H x xs v us Q I rx rs q
/-- a[b] -/
theorem pe_ix {r : R2} (hr : IxR X r) (ha : PE X a ta) (hb : PE X b tb) (hs : PlainIx b) : PE X (.Subscript a b pos) (tOp r ta tb) := by
  intro pins s σ H Q I h
  exact Subscript_ (binT ha hb I h fun v u s2 x y H2 I2 rx ry q => hr a b pins s2 σ H2 x y v u Q I2 rx ry q (hs _ _))

def rIxL (K : PySem.W.Frag) : R2 := fun x y H Q => ∃ p xs i v, x = .ref p ∧ y = .int i ∧ SqL K H p xs ∧ atI xs i = some v ∧ Q v H
def rIxT (K : PySem.W.Frag) : R2 := fun x y H Q => ∃ p xs i v, x = .ref p ∧ y = .int i ∧ SqT K H p xs ∧ atI xs i = some v ∧ Q v H
def rIxS : R2 := fun x y H Q => ∃ z i c, x = .str z ∧ y = .int i ∧ z.length ≤ sizeLine ∧ atI z.cps.toList i = some c ∧ Q (.str ⟨#[c]⟩) H
theorem ix_list : IxR X (rIxL X.K) := by
  intro value slice pins s σ H x y v u Q I rx ry h hs
  obtain ⟨p, xs, i, z, rfl, rfl, hq, he, q⟩ := h
  cases rx
  obtain ⟨t, rfl⟩ := ry
  obtain ⟨its, r, pl, hz⟩ := I.list hq
  obtain ⟨j, h1, h2, h3, h4, h5⟩ := atI_get he
  obtain ⟨w, ew, rw'⟩ := r.get h2
  have hl := r.length
  have hn := line63
  have fin : EP X pins σ Q w s := ⟨z, H, I, rw', q⟩
  by_cases h0 : 0 ≤ i
  · have hj : i.toNat = j := by
      rw [seqIndex_of h0 h5] at h1
      exact Option.some.inj h1
    exact item_listR pl.isList h0 (by omega) (by rw [hj]; simpa using ew) fin hs
  · have hj : (i + (its.toArray.size : Int)).toNat = j := by
      rw [seqIndex_neg (by omega) h4] at h1
      rw [List.size_toArray, ← hl]
      exact Option.some.inj h1
    exact subscriptTail_builtinR (x := w) pl.isList.typeIs slot_list_getitem.lookup
      (wpAny_getItem_list_neg (Q := fun r s' => r = w ∧ EP X pins σ Q r s') pl.isList (by omega) (by rw [List.size_toArray] <;> omega) (by omega) (by rw [hj]; simpa using ew) ⟨rfl, fin⟩) hs
theorem ix_tup : IxR X (rIxT X.K) := by
  intro value slice pins s σ H x y v u Q I rx ry h hs
  obtain ⟨p, xs, i, z, rfl, rfl, hq, he, q⟩ := h
  cases rx
  obtain ⟨t, rfl⟩ := ry
  obtain ⟨its, r, pl, hz⟩ := I.tuple hq
  obtain ⟨j, h1, h2, h3, h4, h5⟩ := atI_get he
  obtain ⟨w, ew, rw'⟩ := r.get h2
  have hl := r.length
  have hn := line63
  have fin : EP X pins σ Q w s := ⟨z, H, I, rw', q⟩
  exact subscriptTail_builtinR (x := w) pl.typeIs slot_tuple_getitem.lookup
    (getItem_tuple (j := j) (Q := fun r s' => r = w ∧ EP X pins σ Q r s') pl (by omega) (by omega) (by rw [List.size_toArray, ← hl]; exact h1) (by simpa using ew) ⟨rfl, fin⟩) hs
theorem ix_str : IxR X rIxS := by
  intro value slice pins s σ H x y v u Q I rx ry h hs
  obtain ⟨z, i, c, rfl, rfl, hz, he, q⟩ := h
  obtain ⟨t, rfl⟩ := rx
  obtain ⟨t', rfl⟩ := ry
  obtain ⟨j, h1, h2, h3, h4, h5⟩ := atI_get he
  have hl : z.cps.toList.length = z.length := by simp [Str.length]
  rw [hl] at h1 h4 h5
  have hn := line63
  exact tail_any (typeIs_str s z t) slot_str_getitem.lookup (getItem_str (c := c) (by
    have e1 : decide (i < -(2 ^ 63 : Int)) = false := decide_eq_false (by omega)
    have e2 : decide (i ≥ 2 ^ 63) = false := decide_eq_false (by omega)
    rw [e1, e2, Bool.or_false]) (by rw [h1]; simpa using h2) ⟨.str ⟨#[c]⟩, H, I.tok _, ⟨_, rfl⟩, q⟩) hs
/-- list, tuple or str -/
def rIx (K : PySem.W.Frag) : R2 := fun x y H Q => rIxL K x y H Q ∨ rIxT K x y H Q ∨ rIxS x y H Q
theorem ix_seq : IxR X (rIx X.K) := ix_list.or (ix_tup.or ix_str)

/-! ### xs[i] = v, any sign -/
/-- the list's object behind a store -/
theorem mapSeq_set (its : List Value) (n j : Nat) (u : Value) : Obj.mapSeq (·.setIfInBounds j u) { cls := .type "list", data := .seq its.toArray n } = { cls := .type "list", data := .seq (its.set j u).toArray n } := by
  simp [Obj.mapSeq]
theorem Inv.lst {pins : List (Addr × Obj)} {σ : St} {H : Hp} {s : Shared} {p : Addr} {xs : List V} (I : Inv X pins σ H s) (h : H p = some (.lst xs)) :
    ∃ (its : List Value) (n : Nat), Vals xs its ∧ s.heap.get? p = some { cls := .type "list", data := .seq its.toArray n } ∧ xs.length ≤ sizeLine := by
  obtain ⟨z, its, n, r, e⟩ := I.hok p _ h
  exact ⟨its, n, r, e, z⟩
/-- the list at p is written by an update of its object -/
theorem Inv.lstUpd {pins : List (Addr × Obj)} {σ : St} {H : Hp} {s : Shared} {p : Addr} {xs ys : List V} {its its' : List Value} {n n' : Nat} {f : Obj → Obj} (I : Inv X pins σ H s) (h : H p = some (.lst xs))
    (ho : s.heap.get? p = some { cls := .type "list", data := .seq its.toArray n }) (hf : f { cls := .type "list", data := .seq its.toArray n } = { cls := .type "list", data := .seq its'.toArray n' }) (r : Vals ys its') (hz : ys.length ≤ sizeLine) (t : Nat) :
    Inv X pins σ (upd H p (.lst ys)) { s with heap := s.heap.update p f, toks := t } := by
  have e : (s.heap.update p f).get? p = some { cls := .type "list", data := .seq its'.toArray n' } := by
    rw [Heap.get?_update_self f ho (by rw [hf] <;> rfl), hf]
  refine I.write (x := p) (e := p) (by rw [h]; trivial) (.inl rfl) (fun b u hb q => (Heap.get?_update_other _ _ (Ne.symm hb)).trans q) ⟨_, e⟩ ?_
  exact ⟨hz, its', n', r, e⟩
def rSetL : V → V → V → Hp → (Hp → Prop) → Prop := fun o i v H Q => ∃ p xs k j, o = .ref p ∧ i = .int k ∧ H p = some (.lst xs) ∧ ixN xs.length k = some j ∧ Q (upd H p (.lst (xs.set j v)))
theorem set_list : PSet X rSetL := by
  intro pins s σ H o i v ov iv u Q I ro ri rv h
  obtain ⟨p, xs, k, j, rfl, rfl, hp, hj, q⟩ := h
  cases ro
  obtain ⟨t, rfl⟩ := ri
  obtain ⟨its, n, r, ho, hz⟩ := I.lst hp
  obtain ⟨h1, h2, h3, h4⟩ := ixN_seq hj
  have hl := r.length
  have hn := line63
  have I' : Inv X pins σ (upd H p (.lst (xs.set j v))) { s with heap := s.heap.update p (Obj.mapSeq (·.setIfInBounds j u)) } :=
    I.lstUpd hp ho (mapSeq_set its n j u) (r.set rv j) (by rw [List.length_set]; exact hz) s.toks
  by_cases h0 : 0 ≤ k
  · have hk : k.toNat = j := by
      rw [seqIndex_of h0 h4] at h1
      exact Option.some.inj h1
    exact PySem.W.ki_setAt ho h0 (by omega) (by rw [List.size_toArray, ← hl]; exact h4) (by rw [hk]; exact ⟨_, I', q⟩)
  · have hk : (k + (its.toArray.size : Int)).toNat = j := by
      rw [seqIndex_neg (by omega) h3] at h1
      rw [List.size_toArray, ← hl]
      exact Option.some.inj h1
    exact PySem.W.ki_setBack ho (by omega) (by rw [List.size_toArray, ← hl]; exact h3) (by omega) (by rw [hk]; exact ⟨_, I', q⟩)

/-! ### slices -/
theorem slice_bounds (lo hi : Option Int) (n : Nat) : (sliceBounds lo hi none n).1 = ((HT.sIx n 0 lo : Nat) : Int) ∧ (sliceBounds lo hi none n).2.1 = ((HT.sIx n n hi : Nat) : Int) ∧ (sliceBounds lo hi none n).2.2 = 1 := by
  refine ⟨?_, ?_, rfl⟩
  · cases lo with
    | none => simp [sliceBounds, HT.sIx]
    | some i =>
      simp only [sliceBounds, HT.sIx, Option.getD_none, show (1 : Int) > 0 by decide, if_true]
      by_cases h : i < 0
      · simp only [h, if_true] <;> omega
      · simp only [h, if_false] <;> omega
  · cases hi with
    | none => simp [sliceBounds, HT.sIx]
    | some i =>
      simp only [sliceBounds, HT.sIx, Option.getD_none, show (1 : Int) > 0 by decide, if_true]
      by_cases h : i < 0
      · simp only [h, if_true] <;> omega
      · simp only [h, if_false] <;> omega
theorem slicePick_cut (its : List Value) (lo hi : Option Int) : slicePick its.toArray lo hi none = ((its.drop (HT.sIx its.length 0 lo)).take (HT.sIx its.length its.length hi - HT.sIx its.length 0 lo)).toArray := by
  obtain ⟨h1, h2, h3⟩ := slice_bounds lo hi its.toArray.size
  unfold slicePick
  rw [h1, h2, h3]
  simp only [sliceRange_one, pick_run, List.size_toArray] <;> rfl
/-- xs[lo:hi] of a list: a new list -/
def rSlL (K : PySem.W.Frag) : V → Option Int → Option Int → Hp → VK → Prop := fun x lo hi H Q => ∃ a xs, x = .ref a ∧ SqL K H a xs ∧ ∀ p, H p = none → Q (.ref p) (upd H p (.lst (cutV xs lo hi)))
theorem sl_list : SlR X (rSlL X.K) := by
  intro pins s σ H x v vl vu lo hi sl Q I rx hs pl pu h
  obtain ⟨a, xs, rfl, hx, q⟩ := h
  cases rx
  obtain ⟨its, r, ht, hz⟩ := I.list hx
  have hlen := r.length
  refine ⟨"list", _, slot_list_getitem.lookup, ht.isList.typeIs, ?_⟩
  refine wpAny_getItem_list_slice ht.isList hs pl pu .none (by simp) ?_ (by rw [List.size_toArray] <;> omega)
  rw [slicePick_cut, ← hlen]
  refine ⟨.ref s.heap.objs.size, _, I.laid (t' := s.toks) (o := .lst (cutV xs lo hi)) (fun b ob q => Heap.get?_push_of_some _ q) (Nat.le_refl _) ?_, rfl, q _ (I.hok.fresh (Nat.le_refl _))⟩
  exact ⟨Nat.le_trans (cutV_length xs lo hi) hz, _, 0, (r.drop (HT.sIx xs.length 0 lo)).take (HT.sIx xs.length xs.length hi - HT.sIx xs.length 0 lo), Heap.get?_push_size _ rfl⟩

/-! ### in, not in: flat items -/
def flatV : V → Bool
  | .non => true
  | .bl _ => true
  | .int _ => true
  | .str _ => true
  | _ => false
/-- == of flat values -/
def eqV : V → V → Bool
  | .non, .non => true
  | .bl a, .bl b => a == b
  | .bl a, .int b => (if a then 1 else 0) == b
  | .int a, .bl b => a == (if b then 1 else 0)
  | .int a, .int b => a == b
  | .str a, .str b => a == b
  | _, _ => false
theorem eqAt_V {A : Around} {s : Shared} {y x : V} {u v : Value} (ry : RelV y u) (rx : RelV x v) (fy : flatV y = true) (fx : flatV x = true) : SeqAt.EqAt A s u v (eqV y x) := by
  cases y with
  | non =>
    cases ry
    cases x with
    | non => cases rx; exact SeqAt.EqAt.same _
    | bl b => cases rx; exact SeqAt.EqAt.none_bool b
    | int b => obtain ⟨t, rfl⟩ := rx; exact SeqAt.EqAt.none_int b t
    | str b => obtain ⟨t, rfl⟩ := rx; exact SeqAt.EqAt.none_str b t
    | _ => exact absurd (show false = true from fx) Bool.false_ne_true
  | bl a =>
    cases ry
    cases x with
    | non => cases rx; exact SeqAt.EqAt.bool_none a
    | bl b => cases rx; exact SeqAt.EqAt.bool_bool a b
    | int b => obtain ⟨t, rfl⟩ := rx; exact SeqAt.EqAt.bool_int a b t
    | str b => obtain ⟨t, rfl⟩ := rx; exact SeqAt.EqAt.bool_str a b t
    | _ => exact absurd (show false = true from fx) Bool.false_ne_true
  | int a =>
    obtain ⟨t', rfl⟩ := ry
    cases x with
    | non => cases rx; exact SeqAt.EqAt.int_none a t'
    | bl b => cases rx; exact SeqAt.EqAt.int_bool a t' b
    | int b => obtain ⟨t, rfl⟩ := rx; exact SeqAt.EqAt.int_int a t' b t
    | str b => obtain ⟨t, rfl⟩ := rx; exact SeqAt.EqAt.int_str a t' b t
    | _ => exact absurd (show false = true from fx) Bool.false_ne_true
  | str a =>
    obtain ⟨t', rfl⟩ := ry
    cases x with
    | non => cases rx; exact SeqAt.EqAt.str_none a t'
    | bl b => cases rx; exact SeqAt.EqAt.str_bool a t' b
    | int b => obtain ⟨t, rfl⟩ := rx; exact SeqAt.EqAt.str_int a t' b t
    | str b => obtain ⟨t, rfl⟩ := rx; exact SeqAt.EqAt.str_str a t' b t
    | _ => exact absurd (show false = true from fx) Bool.false_ne_true
  | _ => exact absurd (show false = true from fy) Bool.false_ne_true
/-- the items' answers, read off the values (a value's own answer does not lean on its token) -/
def eqU (x : V) (u : Value) : Bool := match u with
  | .none => eqV .non x
  | .bool b => eqV (.bl b) x
  | .int i _ => eqV (.int i) x
  | .str z _ => eqV (.str z) x
  | _ => false
theorem eqU_of {x y : V} {u : Value} (r : RelV y u) (f : flatV y = true) : eqU x u = eqV y x := by
  cases y with
  | non => cases r; rfl
  | bl b => cases r; rfl
  | int i => obtain ⟨t, rfl⟩ := r; rfl
  | str z => obtain ⟨t, rfl⟩ := r; rfl
  | _ => exact absurd (show false = true from f) Bool.false_ne_true
theorem any_eqU {x : V} : ∀ {xs : List V} {us : List Value}, Vals xs us → xs.all flatV = true → us.any (eqU x) = xs.any fun y => eqV y x
  | _, _, .nil, _ => rfl
  | y :: xs, u :: us, .cons r t, f => by
    rw [List.all_cons, Bool.and_eq_true] at f
    rw [List.any_cons, List.any_cons, eqU_of r f.1, any_eqU t f.2]
theorem mem_eqAt {A : Around} {s : Shared} {x : V} {v : Value} (rx : RelV x v) (fx : flatV x = true) : ∀ {xs : List V} {us : List Value}, Vals xs us → xs.all flatV = true → ∀ u ∈ us, SeqAt.EqAt A s u v (eqU x u)
  | _, _, .nil, _ => fun u hu => by cases hu
  | y :: xs, u :: us, .cons r t, f => fun u' hu => by
    rw [List.all_cons, Bool.and_eq_true] at f
    rcases List.mem_cons.mp hu with rfl | hu
    · rw [eqU_of r f.1]; exact eqAt_V r rx f.1 fx
    · exact mem_eqAt rx fx t f.2 u' hu
def inV (x : V) (xs : List V) : Bool := xs.any fun y => eqV y x
/-- x in a list or tuple of flat items -/
def rIn (K : PySem.W.Frag) (neg : Bool) : R2 := fun x y H Q => ∃ p xs, y = .ref p ∧ (SqL K H p xs ∨ SqT K H p xs) ∧ flatV x = true ∧ xs.all flatV = true ∧ Q (.bl (if neg then !inV x xs else inV x xs)) H
theorem op_in_seq : OpR X (compareOp .In) (rIn X.K false) := by
  intro pins s σ H x y v u Q I rx ry h
  obtain ⟨p, xs, rfl, hq, fx, fs, q⟩ := h
  cases ry
  rcases hq with hq | hq
  · obtain ⟨its, r, pl, hz⟩ := I.list hq
    refine SeqAt.in_listAt (eqU x) pl.isList (fun w hw => mem_eqAt rx fx r fs w (by simpa using hw)) ⟨.bl _, H, I, rfl, ?_⟩
    rw [show its.toArray.any (eqU x) = its.any (eqU x) by simp, any_eqU r fs]
    exact q
  · obtain ⟨its, r, pl, hz⟩ := I.tuple hq
    refine SeqAt.in_tupleAt (eqU x) pl (fun w hw => mem_eqAt rx fx r fs w (by simpa using hw)) ⟨.bl _, H, I, rfl, ?_⟩
    rw [show its.toArray.any (eqU x) = its.any (eqU x) by simp, any_eqU r fs]
    exact q
theorem op_notIn_seq : OpR X (compareOp .NotIn) (rIn X.K true) := by
  intro pins s σ H x y v u Q I rx ry h
  obtain ⟨p, xs, rfl, hq, fx, fs, q⟩ := h
  cases ry
  rcases hq with hq | hq
  · obtain ⟨its, r, pl, hz⟩ := I.list hq
    refine SeqAt.notIn_listAt (eqU x) pl.isList (fun w hw => mem_eqAt rx fx r fs w (by simpa using hw)) ⟨.bl _, H, I, rfl, ?_⟩
    rw [show its.toArray.any (eqU x) = its.any (eqU x) by simp, any_eqU r fs]
    exact q
  · obtain ⟨its, r, pl, hz⟩ := I.tuple hq
    refine SeqAt.notIn_tupleAt (eqU x) pl (fun w hw => mem_eqAt rx fx r fs w (by simpa using hw)) ⟨.bl _, H, I, rfl, ?_⟩
    rw [show its.toArray.any (eqU x) = its.any (eqU x) by simp, any_eqU r fs]
    exact q
theorem op_notIn_str : OpR X (compareOp .NotIn) (fun x y H Q => ∃ i j, x = .str i ∧ y = .str j ∧ Q (.bl (!(!(Builtin.Str.occurrences j i 0 j.length 1).isEmpty))) H) := by
  intro pins s σ H x y v u Q I rx ry h
  obtain ⟨i, j, rfl, rfl, q⟩ := h
  obtain ⟨t, rfl⟩ := rx
  obtain ⟨t', rfl⟩ := ry
  exact notIn_str ⟨.bl _, H, I, rfl, q⟩

/-! ### len, list(x), tuple(x) of any list or tuple that is read -/
theorem call_len_seq : CallR X (.builtin "len") (fun xs H Q => ∃ p ys, xs = [.ref p] ∧ (SqL X.K H p ys ∨ SqT X.K H p ys) ∧ Q (.int ys.length) H) := by
  intro pins s σ H xs us Q I r h
  obtain ⟨p, ys, rfl, hq, q⟩ := h
  obtain ⟨u, rfl, rx⟩ := vals1 r
  cases rx
  have hn := line63
  rcases hq with hq | hq
  · obtain ⟨its, r', pl, hz⟩ := I.list hq
    have hlen := r'.length
    exact Calls.call_len_list pl.isList (by simp only [List.size_toArray] <;> omega) ⟨.int ys.length, H, I.tok _, ⟨s.toks + 1, by rw [List.size_toArray, hlen]⟩, q⟩
  · obtain ⟨its, r', pl, hz⟩ := I.tuple hq
    have hlen := r'.length
    exact len_tuple pl (by simp only [List.size_toArray] <;> omega) ⟨.int ys.length, H, I.tok _, ⟨s.toks + 1, by rw [List.size_toArray, hlen]⟩, q⟩
theorem call_len_str : CallR X (.builtin "len") (fun xs H Q => ∃ z, xs = [.str z] ∧ z.length ≤ sizeLine ∧ Q (.int z.length) H) := by
  intro pins s σ H xs us Q I r h
  obtain ⟨z, rfl, hz, q⟩ := h
  obtain ⟨u, rfl, t, rfl⟩ := vals1 r
  have hn := line63
  exact len_str (by omega) ⟨.int z.length, H, I.tok _, ⟨_, rfl⟩, q⟩
theorem CallR.or {f : Value} {r r' : List V → Hp → VK → Prop} (h : CallR X f r) (h' : CallR X f r') : CallR X f (fun xs H Q => r xs H Q ∨ r' xs H Q) := by
  intro pins s σ H xs us Q I rs q
  rcases q with q | q
  · exact h pins s σ H xs us Q I rs q
  · exact h' pins s σ H xs us Q I rs q
theorem call_list_of : CallR X (.type "list") (fun xs H Q => ∃ p ys, xs = [.ref p] ∧ (SqL X.K H p ys ∨ SqT X.K H p ys) ∧ ∀ l, H l = none → Q (.ref l) (upd H l (.lst ys))) := by
  intro pins s σ H xs us Q I r h
  obtain ⟨p, ys, rfl, hq, q⟩ := h
  obtain ⟨u, rfl, rx⟩ := vals1 r
  cases rx
  have fin : ∀ (its : List Value), Vals ys its → ys.length ≤ sizeLine → ∀ (h' : Heap) (c' : Nat), (∀ b o', s.heap.get? b = some o' → h'.get? b = some o') →
      h'.get? s.heap.objs.size = some { cls := .type "list", dict := none, data := .seq its.toArray c', slots := #[] } → EP X pins σ Q (.ref s.heap.objs.size) { s with heap := h' } := fun its r' hz h' c' kp e =>
    ⟨.ref s.heap.objs.size, _, I.laid (t' := s.toks) kp (Nat.le_refl _) (show ObjOk X.prog X.w _ h' _ (.lst ys) from ⟨hz, its, c', r', e⟩), rfl, q _ (I.hok.fresh (Nat.le_refl _))⟩
  rcases hq with hq | hq
  · obtain ⟨its, r', pl, hz⟩ := I.list hq
    have hlen := r'.length
    obtain ⟨o, ho, hc, n, hd⟩ := pl.isList
    exact call_list_seq p (.inl rfl) ho hc hd (fun h' c' kp e => fin its r' hz h' c' kp e) (by simp only [List.size_toArray] <;> omega)
  · obtain ⟨its, r', pl, hz⟩ := I.tuple hq
    have hlen := r'.length
    obtain ⟨o, ho, hc, n, hd⟩ := pl
    exact call_list_seq p (.inr rfl) ho hc hd (fun h' c' kp e => fin its r' hz h' c' kp e) (by simp only [List.size_toArray] <;> omega)
theorem call_tuple_of : CallR X (.type "tuple") (fun xs H Q => ∃ p ys, xs = [.ref p] ∧ ((SqL X.K H p ys ∧ ∀ l, H l = none → Q (.ref l) (upd H l (.tup ys))) ∨ (SqT X.K H p ys ∧ Q (.ref p) H))) := by
  intro pins s σ H xs us Q I r h
  obtain ⟨p, ys, rfl, h⟩ := h
  obtain ⟨u, rfl, rx⟩ := vals1 r
  cases rx
  rcases h with ⟨hq, q⟩ | ⟨hq, q⟩
  · obtain ⟨its, r', pl, hz⟩ := I.list hq
    have hlen := r'.length
    refine call_tuple_list pl.isList (fun h' kp => ?_) (by simp only [List.size_toArray] <;> omega)
    have I1 : Inv X pins σ H { s with heap := h' } := I.kept (t' := s.toks) kp
    have I2 : Inv X pins σ (upd H h'.objs.size (.tup ys)) { s with heap := h'.push { cls := .type "tuple", data := .seq its.toArray } } :=
      I1.laid (t' := s.toks) (fun b o e => Heap.get?_push_of_some _ e) (Nat.le_refl _) (show ObjOk X.prog X.w _ _ _ (.tup ys) from ⟨hz, its, r', IsTup.new _ _⟩)
    exact ⟨.ref h'.objs.size, _, I2, rfl, q _ (I1.hok.fresh (Nat.le_refl _))⟩
  · obtain ⟨its, r', pl, hz⟩ := I.tuple hq
    exact call_tuple_same pl ⟨.ref p, H, I, rfl, q⟩

/-! ### the call of a builtin's method: o.m(..) -/
/-- the value is of that builtin type -/
def tyV (K : PySem.W.Frag) (T : String) (x : V) (H : Hp) : Prop := match x with
  | .str _ => T = "str"
  | .int _ => T = "int"
  | .ref p => (T = "list" ∧ ∃ xs, SqL K H p xs) ∨ (T = "tuple" ∧ ∃ o, K.lookup p = some o ∧ o.cls = .type "tuple" ∧ o.dict = none) ∨
      (T = "dict" ∧ ((∃ kvs, H p = some (.dK kvs)) ∨ ∃ kvs, H p = some (.dT kvs))) ∨ (T = "set" ∧ ∃ S n, H p = some (.set S n))
  | _ => False
theorem tyV_is {pins : List (Addr × Obj)} {σ : St} {H : Hp} {s : Shared} {T : String} {x : V} {v : Value} (I : Inv X pins σ H s) (r : RelV x v) (ty : tyV X.K T x H) :
    s.TypeIs v T ∧ ∀ a, v = .ref a → ∃ ob, s.heap.get? a = some ob ∧ ob.dict = none := by
  cases x with
  | str z =>
    obtain ⟨t, rfl⟩ := r
    cases (show T = "str" from ty)
    exact ⟨typeIs_str s z t, fun _ e => nomatch e⟩
  | int i =>
    obtain ⟨t, rfl⟩ := r
    cases (show T = "int" from ty)
    exact ⟨typeIs_int s i t, fun _ e => nomatch e⟩
  | ref p =>
    cases r
    rcases ty with ⟨rfl, xs, hq⟩ | ⟨rfl, o, hk, hc, hd⟩ | ⟨rfl, hk⟩ | ⟨rfl, S, n, hk⟩
    · obtain ⟨its, _, pl, _⟩ := I.list hq
      refine ⟨pl.isList.typeIs, fun a e => ?_⟩
      cases e
      obtain ⟨o, n, e, c, hd, _⟩ := pl
      exact ⟨o, e, hd⟩
    · refine ⟨⟨o, I.kIn p o hk, hc⟩, fun a e => ?_⟩
      cases e
      exact ⟨o, I.kIn _ o hk, hd⟩
    · have z : ∃ o, s.heap.get? p = some o ∧ o.ExactDict := by
        rcases hk with ⟨kvs, hk⟩ | ⟨kvs, hk⟩
        · obtain ⟨_, _, _, _, o, _, _, e, ex, _⟩ := I.hok p _ hk
          exact ⟨o, e, ex⟩
        · obtain ⟨_, _, _, _, o, _, _, e, ex, _⟩ := I.hok p _ hk
          exact ⟨o, e, ex⟩
      obtain ⟨o, e, ex⟩ := z
      refine ⟨⟨o, e, ex.1⟩, fun a e2 => ?_⟩
      cases e2
      exact ⟨o, e, ex.2.1⟩
    · obtain ⟨o, _, _, _, e, ex, _⟩ := I.hok p _ hk
      refine ⟨⟨o, e, ex.1⟩, fun a e2 => ?_⟩
      cases e2
      exact ⟨o, e, ex.2.1⟩
  | _ => exact False.elim ty
def tBM0 (K : PySem.W.Frag) (T : String) (r : V → List V → Hp → VK → Prop) (to : TE) : TE := fun σ H Q => to σ H fun x H1 => tyV K T x H1 ∧ r x [] H1 Q
def tBM (K : PySem.W.Frag) (T : String) (r : V → List V → Hp → VK → Prop) (to : TE) (t : TA) : TE := fun σ H Q => to σ H fun x H1 => tyV K T x H1 ∧ t σ H1 fun xs H2 => r x xs H2 Q
variable {o e : Expr} {es : List Expr} {to : TE} {t : TA} {name : Str} {apos cpos : Pos} {T id : String} {r : V → List V → Hp → VK → Prop}
theorem pe_bm0 (pa : PlainAttrs T) (slot : Slot T name id) (hty : typeOf (.builtin id) = pure (.type "method_descriptor")) (hm : MtR X id r) (ho : PE X o to)
    (hbase : attributeBase o name X.env (eval o X.env) = eval o X.env := by rfl) (hline : (apos.endLine == cpos.line) = true := by rfl) : PE X (.Call (.Attribute o name apos) [] [] cpos) (tBM0 X.K T r to) := by
  intro pins s σ H Q I h
  refine wpAny_Call_method0_late hbase hline (thn (ho pins s σ H _ I h) fun v s1 ⟨x, H1, I1, r1, ty, q1⟩ => ?_)
  obtain ⟨h1, h2⟩ := tyV_is I1 r1 ty
  exact ⟨T, id, pa, slot, hty, h1, h2, Calls.callWith_builtin rfl (PySem.evalArgs_none (hm pins s1 σ H1 x [] v [] Q I1 r1 .nil q1))⟩
theorem pe_bm (pa : PlainAttrs T) (slot : Slot T name id) (hty : typeOf (.builtin id) = pure (.type "method_descriptor")) (hm : MtR X id r) (ho : PE X o to) (ha : PA X (e :: es) t)
    (hbase : attributeBase o name X.env (eval o X.env) = eval o X.env := by rfl)
    (hfew : ((backTo cpos (starEach (e :: es) X.env)).all (fun x => !x.1) && (backToKw cpos (keywordEach [] X.env)).all (fun x => x.1.isSome)
      && decide ((e :: es).length + ([] : List Keyword).length + (if ([] : List Keyword).isEmpty then 0 else 1) < 30)) = true := by rfl)
    (hline : (apos.endLine == cpos.line) = true := by rfl) (hs : starEach (e :: es) X.env = (false, eval e X.env) :: starEach es X.env := by rfl) (hplain : (backTo cpos (starEach es X.env)).any (·.1) = false := by rfl) :
    PE X (.Call (.Attribute o name apos) (e :: es) [] cpos) (tBM X.K T r to t) := by
  intro pins s σ H Q I h
  refine wpAny_Call_method_late hbase hfew hline rfl (thn (ho pins s σ H _ I h) fun v s1 ⟨x, H1, I1, r1, ty, q1⟩ => ?_)
  obtain ⟨h1, h2⟩ := tyV_is I1 r1 ty
  refine ⟨T, id, pa, slot, hty, h1, h2, ?_⟩
  have hA := ha cpos pins s1 σ H1 _ I1 q1
  rw [hs] at hA ⊢
  refine Calls.callWith_builtin (by show (false || (backTo cpos (starEach es X.env)).any (·.1)) = false; rw [hplain] <;> rfl) (Calls.evalArgs_plain ?_)
  exact thn hA fun us s2 ⟨vs, H2, I2, r2, q2⟩ => hm pins s2 σ H2 x vs v us Q I2 r1 r2 q2
/- xs.append(e), list.index on a module's tuple .. are MtR facts of 06m -/
end
end L2

namespace L2
open PySem PySem.Spec PyProof.Rows

def MtM (X : Cx) (id : String) (r : V → List V → Hp → VK → Prop) : Prop :=
  ∀ (pins : List (Addr × Obj)) (s : Shared) (σ : St) (H : Hp) (x : V) (xs : List V) (v : Value) (us : List Value) (Q : VK), Inv X pins σ H s → RelV x v → Vals xs us → r x xs H Q →
    wpAny (model X.prog X.w) X.A (call (.builtin id) (v :: us)) (EP X pins σ Q) X.xe s

/-! ### lists of values -/
theorem Vals.one : ∀ {x : V} {us : List Value}, Vals [x] us → ∃ u, us = [u] ∧ RelV x u
  | _, _, .cons r .nil => ⟨_, rfl, r⟩
theorem Vals.two : ∀ {x y : V} {us : List Value}, Vals [x, y] us → ∃ u v, us = [u, v] ∧ RelV x u ∧ RelV y v
  | _, _, _, .cons r (.cons q .nil) => ⟨_, _, rfl, r, q⟩
theorem Vals.zero : ∀ {us : List Value}, Vals [] us → us = []
  | _, .nil => rfl
theorem Vals.dropLast {xs : List V} {us : List Value} (h : Vals xs us) : Vals xs.dropLast us.dropLast := by
  induction h with
  | nil => exact .nil
  | cons r t ih =>
    cases t with
    | nil => exact .nil
    | cons q t' => exact .cons r ih
theorem Vals.eraseIdx : ∀ {xs : List V} {us : List Value} (i : Nat), Vals xs us → Vals (xs.eraseIdx i) (us.eraseIdx i)
  | _, _, _, .nil => .nil
  | _, _, 0, .cons _ t => t
  | _, _, i + 1, .cons r t => .cons r (Vals.eraseIdx i t)
theorem Vals.reverse {xs : List V} {us : List Value} (h : Vals xs us) : Vals xs.reverse us.reverse := by
  induction h with
  | nil => exact .nil
  | cons r t ih => rw [List.reverse_cons, List.reverse_cons]; exact Vals.append ih (.cons r .nil)
theorem Vals.rep {xs : List V} {us : List Value} (h : Vals xs us) : ∀ k : Nat, Vals (List.replicate k xs).flatten (List.replicate k us).flatten
  | 0 => .nil
  | k + 1 => by
    rw [List.replicate_succ, List.replicate_succ, List.flatten_cons, List.flatten_cons]
    exact Vals.append h (Vals.rep h k)
theorem erase_last {α : Type} (l : List α) : l.eraseIdx (l.length - 1) = l.dropLast := by
  induction l with
  | nil => rfl
  | cons a r ih =>
    cases r with
    | nil => rfl
    | cons b r =>
      have e : (a :: b :: r).length - 1 = ((b :: r).length - 1) + 1 := by
        have h1 : (a :: b :: r).length = r.length + 2 := rfl
        have h2 : (b :: r).length = r.length + 1 := rfl
        omega
      rw [e, List.eraseIdx_cons_succ, ih]
      all_goals rfl
theorem len_erase {α : Type} : ∀ (l : List α) (i : Nat), (l.eraseIdx i).length ≤ l.length
  | [], _ => Nat.le_refl _
  | _ :: _, 0 => Nat.le_succ _
  | _ :: r, i + 1 => Nat.succ_le_succ (len_erase r i)
theorem foldl_rep (its : List Value) : ∀ (k : Nat) (acc : List Value),
    List.foldl (fun x1 x2 => x1 ++ x2) acc.toArray (List.replicate k its.toArray) = (acc ++ (List.replicate k its).flatten).toArray
  | 0, acc => by simp
  | k + 1, acc => by
    have e : acc.toArray ++ its.toArray = (acc ++ its).toArray := by simp
    have e2 : (acc ++ its) ++ (List.replicate k its).flatten = acc ++ (List.replicate (k + 1) its).flatten := by
      rw [List.replicate_succ, List.flatten_cons, List.append_assoc]
    rw [← e2, ← foldl_rep its k (acc ++ its), ← e, List.replicate_succ, List.foldl_cons]

section
variable {X : Cx} {pins : List (Addr × Obj)} {σ : St} {H : Hp} {s : Shared} {l b : Addr} {xs ys zs : List V}

/-! ### the two steps: a tracked list is rewritten, a new list is laid -/
theorem Inv.lset {its its' : List Value} {n : Nat} {f : Array Value → Array Value} {t' : Nat} (I : Inv X pins σ H s) (hH : H l = some (.lst xs))
    (e : s.heap.get? l = some { cls := .type "list", data := .seq its.toArray n }) (hf : f its.toArray = its'.toArray) (hv : Vals ys its') (hz : ys.length ≤ sizeLine) :
    Inv X pins σ (upd H l (.lst ys)) { s with heap := s.heap.update l (Obj.mapSeq f), toks := t' } := by
  have q := PySem.IsL.update e f
  rw [hf] at q
  refine I.write (x := l) (e := l) (by rw [hH]; exact trivial) (.inl rfl) (fun b' u hb hu => (Heap.get?_update_other s.heap (Obj.mapSeq f) (Ne.symm hb)).trans hu) ⟨_, q⟩ ?_
  exact ⟨hz, its', _, hv, q⟩
theorem Inv.lnew {its : List Value} {t' : Nat} (I : Inv X pins σ H s) (hv : Vals ys its) (hz : ys.length ≤ sizeLine) :
    Inv X pins σ (upd H s.heap.objs.size (.lst ys)) { s with heap := s.heap.push { cls := .type "list", data := .seq its.toArray }, toks := t' } :=
  I.laid (fun _ _ q => Heap.get?_push_of_some _ q) (Nat.le_refl _) ⟨hz, its, 0, hv, Heap.get?_push_size _ rfl⟩
theorem Inv.fresh (I : Inv X pins σ H s) : H s.heap.objs.size = none := I.hok.fresh (Nat.le_refl _)
theorem Inv.lstM (I : Inv X pins σ H s) (hH : H l = some (.lst xs)) : xs.length ≤ sizeLine ∧ ∃ (its : List Value) (n : Nat), Vals xs its ∧ xs.length = its.length ∧ s.heap.get? l = some { cls := .type "list", data := .seq its.toArray n } := by
  obtain ⟨z, its, n, r, e⟩ := I.hok l _ hH
  exact ⟨z, its, n, r, r.length, e⟩

theorem notLongL {n : Nat} (h : n ≤ sizeLine) : Builtin.List.listTooLong n = false := by
  unfold Builtin.List.listTooLong
  exact decide_eq_false (by omega)
end

section
variable {X : Cx}

/-! ### methods -/
def rAppend : V → List V → Hp → VK → Prop := fun x vs H Q => ∃ l xs y, x = .ref l ∧ vs = [y] ∧ H l = some (.lst xs) ∧ xs.length < sizeLine ∧ Q .non (upd H l (.lst (xs ++ [y])))
theorem mt_append : MtM X "list.append" rAppend := by
  intro pins s σ H x vs v us Q I rx rv h
  obtain ⟨l, xs, y, rfl, rfl, hH, hz, q⟩ := h
  cases rx
  obtain ⟨u, rfl, ru⟩ := rv.one
  obtain ⟨z, its, n, r, hl, e⟩ := I.lstM hH
  refine call_meets F.slot_list_append ⟨_, e, rfl⟩ F.entry_list_append (F.args_list_append_2 _ _) (PySem.list_append l its.toArray n u (by rw [List.size_toArray]; omega)) ⟨e, ?_⟩
  refine ⟨.non, _, I.lset (its' := its ++ [u]) hH e (by simp) (r.append (.cons ru .nil)) ?_, rfl, q⟩
  rw [List.length_append, List.length_singleton]
  omega

def rExtend : V → List V → Hp → VK → Prop := fun x vs H Q => ∃ l b xs zs, x = .ref l ∧ vs = [.ref b] ∧ H l = some (.lst xs) ∧ H b = some (.lst zs) ∧ xs.length + zs.length ≤ sizeLine ∧ Q .non (upd H l (.lst (xs ++ zs)))
theorem mt_extend : MtM X "list.extend" rExtend := by
  intro pins s σ H x vs v us Q I rx rv h
  obtain ⟨l, b, xs, zs, rfl, rfl, hH, hB, hz, q⟩ := h
  cases rx
  obtain ⟨u, rfl, ru⟩ := rv.one
  cases ru
  obtain ⟨z, its, n, r, hl, e⟩ := I.lstM hH
  obtain ⟨z2, its2, n2, r2, hl2, e2⟩ := I.lstM hB
  have hsz : its.toArray.size + its2.toArray.size ≤ sizeLine := by rw [List.size_toArray, List.size_toArray]; omega
  have hlong : ¬ (!its.toArray.isEmpty && Builtin.List.listTooLong (its.toArray.size + its2.toArray.size)) = true := by
    rw [notLongL hsz, Bool.and_false]
    exact Bool.false_ne_true
  refine call_meets F.slot_list_extend ⟨_, e, rfl⟩ F.entry_list_extend (F.args_list_extend_2 _ _)
    (AutoSeq1.list_extend_list_list_0 l its.toArray n b its2.toArray n2 hlong (by rw [List.size_toArray]; omega) (by omega)) ⟨e, e2, ?_⟩
  refine ⟨.non, _, I.lset (its' := its ++ its2) hH e (by simp) (r.append r2) ?_, rfl, q⟩
  rw [List.length_append]
  omega

def rPop : V → List V → Hp → VK → Prop := fun x vs H Q => ∃ l xs y, x = .ref l ∧ vs = [] ∧ H l = some (.lst xs) ∧ xs[xs.length - 1]? = some y ∧ Q y (upd H l (.lst xs.dropLast))
theorem mt_pop : MtM X "list.pop" rPop := by
  intro pins s σ H x vs v us Q I rx rv h
  obtain ⟨l, xs, y, rfl, rfl, hH, hy, q⟩ := h
  cases rx
  have hus := rv.zero
  subst hus
  obtain ⟨z, its, n, r, hl, e⟩ := I.lstM hH
  obtain ⟨u, hu, ru⟩ := r.get hy
  have hy' : its.toArray[its.toArray.size - 1]? = some u := by
    show its.toArray[its.length - 1]? = some u
    rw [← Array.getElem?_toList, ← hl]
    exact hu
  refine call_meets F.slot_list_pop ⟨_, e, rfl⟩ F.entry_list_pop (F.args_list_pop_1 _) (MeetsSeq.list_pop_last l its.toArray n u hy' (by rw [List.size_toArray]; omega)) ⟨e, ?_⟩
  refine ⟨y, _, I.lset (its' := its.dropLast) hH e ?_ r.dropLast ?_, ru, q⟩
  · show its.toArray.eraseIdxIfInBounds (its.toArray.size - 1) = its.dropLast.toArray
    rw [List.size_toArray, List.eraseIdxIfInBounds_toArray, erase_last]
  · rw [List.length_dropLast]
    omega

def rPopAt : V → List V → Hp → VK → Prop := fun x vs H Q => ∃ l xs i k y, x = .ref l ∧ vs = [.int i] ∧ H l = some (.lst xs) ∧ -(2 ^ 63) ≤ i ∧ i < 2 ^ 63 ∧ seqIndex? i xs.length = some k ∧ xs[k]? = some y ∧ Q y (upd H l (.lst (xs.eraseIdx k)))
theorem mt_popAt : MtM X "list.pop" rPopAt := by
  intro pins s σ H x vs v us Q I rx rv h
  obtain ⟨l, xs, i, k, y, rfl, rfl, hH, h1, h2, hk, hy, q⟩ := h
  cases rx
  obtain ⟨u, rfl, ru⟩ := rv.one
  obtain ⟨t, rfl⟩ := ru
  obtain ⟨z, its, n, r, hl, e⟩ := I.lstM hH
  obtain ⟨w, hw, rw'⟩ := r.get hy
  refine call_meets F.slot_list_pop ⟨_, e, rfl⟩ F.entry_list_pop (F.args_list_pop_2 _ _)
    (MeetsSeq.list_pop_at l its.toArray n i t k w (fitsIndex_both h1 h2) (by rw [List.size_toArray, ← hl]; exact hk) (by rw [← Array.getElem?_toList]; exact hw) (by rw [List.size_toArray]; omega)) ⟨e, ?_⟩
  refine ⟨y, _, I.lset (its' := its.eraseIdx k) hH e ?_ (r.eraseIdx k) ?_, rw', q⟩
  · show its.toArray.eraseIdxIfInBounds k = (its.eraseIdx k).toArray
    rw [List.eraseIdxIfInBounds_toArray]
  · have := len_erase xs k
    omega

def rReverse : V → List V → Hp → VK → Prop := fun x vs H Q => ∃ l xs, x = .ref l ∧ vs = [] ∧ H l = some (.lst xs) ∧ Q .non (upd H l (.lst xs.reverse))
theorem mt_reverse : MtM X "list.reverse" rReverse := by
  intro pins s σ H x vs v us Q I rx rv h
  obtain ⟨l, xs, rfl, rfl, hH, q⟩ := h
  cases rx
  have hus := rv.zero
  subst hus
  obtain ⟨z, its, n, r, hl, e⟩ := I.lstM hH
  refine call_meets F.slot_list_reverse ⟨_, e, rfl⟩ F.entry_list_reverse (F.args_list_reverse_1 _) (AutoSeq1.list_reverse_list_0 l its.toArray n (by rw [List.size_toArray]; omega)) ⟨e, ?_⟩
  refine ⟨.non, _, I.lset (its' := its.reverse) hH e (by simp) r.reverse ?_, rfl, q⟩
  rw [List.length_reverse]
  omega

def rClear : V → List V → Hp → VK → Prop := fun x vs H Q => ∃ l xs, x = .ref l ∧ vs = [] ∧ H l = some (.lst xs) ∧ Q .non (upd H l (.lst []))
theorem mt_clear : MtM X "list.clear" rClear := by
  intro pins s σ H x vs v us Q I rx rv h
  obtain ⟨l, xs, rfl, rfl, hH, q⟩ := h
  cases rx
  have hus := rv.zero
  subst hus
  obtain ⟨z, its, n, r, hl, e⟩ := I.lstM hH
  refine call_meets F.slot_list_clear ⟨_, e, rfl⟩ F.entry_list_clear (F.args_list_clear_1 _) (AutoSeq1.list_clear_list_0 l its.toArray n (by rw [List.size_toArray]; omega)) ⟨e, ?_⟩
  exact ⟨.non, _, I.lset (its' := []) (ys := []) hH e rfl .nil (Nat.zero_le _), rfl, q⟩

/-! ### list + list, list += list, list * int -/
def rCat : R2 := fun x y H Q => ∃ l b xs zs, x = .ref l ∧ y = .ref b ∧ H l = some (.lst xs) ∧ H b = some (.lst zs) ∧ xs.length + zs.length ≤ sizeLine ∧ ∀ p, H p = none → Q (.ref p) (upd H p (.lst (xs ++ zs)))
theorem op_cat : OpR X (binaryOp .Add) rCat := by
  intro pins s σ H x y v u Q I rx ry h
  obtain ⟨l, b, xs, zs, rfl, rfl, hH, hB, hz, q⟩ := h
  cases rx
  cases ry
  obtain ⟨z, its, n, r, hl, e⟩ := I.lstM hH
  obtain ⟨z2, its2, n2, r2, hl2, e2⟩ := I.lstM hB
  refine PySem.P.add_list e e2 ?_ (by rw [List.size_toArray, List.size_toArray]; omega)
  have ea : its.toArray ++ its2.toArray = (its ++ its2).toArray := by simp
  rw [ea]
  exact ⟨.ref _, _, I.lnew (t' := s.toks) (r.append r2) (by rw [List.length_append]; omega), rfl, q _ I.fresh⟩
/-- a list times an int (a negative one is nothing) -/
def rRep : R2 := fun x y H Q => ∃ l k xs, x = .ref l ∧ y = .int k ∧ H l = some (.lst xs) ∧ -(2 ^ 63) ≤ k ∧ k < 2 ^ 63 ∧ xs.length * k.toNat ≤ sizeLine ∧
  ∀ p, H p = none → Q (.ref p) (upd H p (.lst (List.replicate k.toNat xs).flatten))
theorem len_rep {α : Type} (xs : List α) (k : Nat) : (List.replicate k xs).flatten.length = k * xs.length := by
  induction k with
  | zero => simp
  | succ k ih => rw [List.replicate_succ, List.flatten_cons, List.length_append, ih, Nat.succ_mul, Nat.add_comm]
theorem op_rep : OpR X (binaryOp .Mult) rRep := by
  intro pins s σ H x y v u Q I rx ry h
  obtain ⟨l, k, xs, rfl, rfl, hH, h1, h2, hz, q⟩ := h
  cases rx
  obtain ⟨t, rfl⟩ := ry
  obtain ⟨z, its, n, r, hl, e⟩ := I.lstM hH
  have hlen : its.toArray.size * k.toNat ≤ sizeLine := by rw [List.size_toArray, ← hl]; exact hz
  have hcap : ¬ its.toArray.size * k.toNat > (2 ^ 63 - 1) / 8 := by
    have : (sizeLine : Nat) ≤ (2 ^ 63 - 1) / 8 := by decide
    omega
  have hfit : ¬ (!Builtin.List.listFitsIndex k) = true := by
    rw [fitsIndex_both h1 h2]
    exact Bool.false_ne_true
  have hlong : ¬ Builtin.List.listTooLong (its.toArray.size * k.toNat) = true := by
    rw [notLongL hlen]
    exact Bool.false_ne_true
  have hnew : List.foldl (fun x1 x2 => x1 ++ x2) #[] (List.replicate (if its.toArray.isEmpty = true then 0 else k.toNat) its.toArray) = (List.replicate k.toNat its).flatten.toArray := by
    have f0 : ∀ m : Nat, List.foldl (fun x1 x2 => x1 ++ x2) #[] (List.replicate m its.toArray) = (List.replicate m its).flatten.toArray := fun m => by
      have := foldl_rep its m []
      rw [List.nil_append] at this
      exact this
    rw [f0]
    cases its with
    | nil => simp
    | cons a r' => rw [if_neg (by simp)]
  refine wpAny_binaryOp_repeat_ref (T := "list") (U := "int") (by decide) ⟨_, e, rfl⟩ (fun s' => typeIs_int s' k t) noFill_list_mul F.fills_int_mul F.slot_int_rmul repeat_list F.slot_int_index.lookup
    (call_meets F.slot_int_rmul (typeIs_int s k t) F.entry_int_rmul (F.args_int_rmul_2 _ _) (int___rmul___int_list k t l its.toArray n)
      ⟨e, rfl, ⟨_, e, rfl⟩, call_meets F.slot_list_mul ⟨_, e, rfl⟩ F.entry_list_mul (F.args_list_mul_2 _ _) (AutoListH.list___mul___list_int_3 l its.toArray n k t hfit hcap hlong) ⟨e, ?_⟩⟩)
  rw [hnew]
  exact ⟨.ref _, _, I.lnew (t' := s.toks) (r.rep k.toNat) (by rw [len_rep, Nat.mul_comm]; exact hz), rfl, q _ I.fresh⟩

/-! ### del xs[i] -/
theorem del_list {pins : List (Addr × Obj)} {s : Shared} {σ : St} {H : Hp} {l : Addr} {xs : List V} {i : Int} {t : Tok} {k : Nat} {Q : Unit → Shared → Prop} (I : Inv X pins σ H s) (hH : H l = some (.lst xs))
    (h1 : -(2 ^ 63) ≤ i) (h2 : i < 2 ^ 63) (hk : seqIndex? i xs.length = some k) (h : ∀ s', Inv X pins σ (upd H l (.lst (xs.eraseIdx k))) s' → Q () s') :
    wpAny (model X.prog X.w) X.A (delItem (.ref l) (.int i t)) Q X.xe s := by
  obtain ⟨z, its, n, r, hl, e⟩ := I.lstM hH
  refine PySem.P.delItem_list (k := k) e (fitsIndex_both h1 h2) (by rw [List.size_toArray, ← hl]; exact hk) (h _ ?_) (by rw [List.size_toArray]; omega)
  refine I.lset (its' := its.eraseIdx k) (t' := s.toks) hH e ?_ (r.eraseIdx k) ?_
  · show its.toArray.eraseIdxIfInBounds k = (its.eraseIdx k).toArray
    rw [List.eraseIdxIfInBounds_toArray]
  · have := len_erase xs k
    omega
end

/-! ### xs[a:b] = ys -/
section
variable {prog : Program} {w : World} {A : Around} {E : Value → Shared → Prop} {s : Shared}
theorem splice_eq (its its2 : List Value) (a c : Nat) : its.toArray.extract 0 a ++ its2.toArray ++ its.toArray.extract c its.toArray.size = (its.take a ++ its2 ++ its.drop c).toArray := by
  apply Array.toList_inj.mp
  first
    | (simp
       exact List.take_of_length_le (by simp))
    | simp [List.take_of_length_le]
    | simp
theorem bounds_run {a c n : Nat} (hac : a ≤ c) (hc : c ≤ n) : sliceBounds (some (a : Int)) (some (c : Int)) none n = ((a : Int), (c : Int), 1) := by
  simp only [sliceBounds, Option.getD_none]
  have h1 : ¬ ((a : Int) < 0) := by omega
  have h2 : ¬ ((c : Int) < 0) := by omega
  simp only [h1, h2, if_false, show (1 : Int) > 0 by decide, if_true]
  congr 1
  · omega
  · congr 1; omega
set_option maxRecDepth 100000 in
/-- list.__setitem__ with a slice of step one and another list -/
theorem setItem_slice {l b sl : Addr} {items new : Array Value} {n n2 : Nat} {vl vu : Value} {a c : Nat} {Q : Unit → Shared → Prop}
    (e : s.heap.get? l = some { cls := .type "list", data := .seq items n }) (e2 : s.heap.get? b = some { cls := .type "list", data := .seq new n2 }) (hne : l ≠ b)
    (hs : s.heap.IsSliceOf sl vl vu .none) (pl : IsPart vl (some (a : Int))) (pu : IsPart vu (some (c : Int))) (hac : a ≤ c) (hc : c ≤ items.size)
    (hsz : items.size + new.size ≤ sizeLine) (h : Q () { s with heap := s.heap.update l (Obj.mapSeq fun xs => xs.extract 0 a ++ new ++ xs.extract c xs.size) }) :
    wpAny (model prog w) A (setItem (.ref l) (.ref sl) (.ref b)) Q E s := by
  have hl : s.heap.IsList l items := PySem.IsL.isList e
  have hb : s.heap.IsList b new := PySem.IsL.isList e2
  obtain ⟨os, hos, hcs, hds⟩ := id hs
  have hTs : s.TypeIs (.ref sl) "slice" := ⟨os, hos, hcs⟩
  have hstep : ¬ ((rawPart none == rawInt 0) = true) := Bool.false_ne_true
  have hsame : Builtin.List.listSameRef (.ref l) (.ref b) = false := by
    unfold Builtin.List.listSameRef
    exact beq_eq_false_iff_ne.mpr hne
  have hmax : (max (a : Int) (c : Int)).toNat = c := by omega
  have hz' : ((fun xs : Array Value => xs.extract 0 a ++ new ++ xs.extract c xs.size) items).size ≤ sizeLine + 1 := by
    simp only [Array.size_append, Array.size_extract]
    omega
  unfold setItem
  try with_reducible refine wpAny_holding ?_
  first | refine wpAny_bind (wpAny_pure ?_) | skip
  refine wpAny_bind (wpAny_sequenceKey hl.typeIs (by decide) ?_)
  refine wpAny_bind (wpAny_callSpecial?_slot (name := Str.ofString "__setitem__") hl.typeIs slot_list_setitem
    (wpAny_call_entry slot_list_setitem hl.typeIs entry_list_setitem ?_ (args_list_setitem _ _ _)))
  show wpAny _ _ (Builtin.List.listSubscript? (.ref sl) >>= _) _ _ s
  refine wpAny_bind ?_
  unfold Builtin.List.listSubscript?
  refine wpAny_bind (wpAny_specialOf hTs slice_no_index ?_)
  simp only [Option.isNone_none, if_true]
  refine wpAny_pure ?_
  show wpAny _ _ (typeOf (.ref sl) >>= _) _ _ s
  refine wpAny_bind (wpAny_typeOf hTs ?_)
  first
    | rw [if_neg (by decide)]
    | refine PySem.W.KFB.if_not (by decide) ?_
  rw [listSliceParts_eq]
  refine wpAny_bind (wpAny_bind (wpAny_field hos hds (x := .none) rfl (wpAny_bind (wpAny_listPart .none ?_))))
  rw [if_neg hstep]
  refine wpAny_bind (wpAny_field hos hds (x := vl) rfl (wpAny_bind (wpAny_listPart pl ?_)))
  refine wpAny_bind (wpAny_field hos hds (x := vu) rfl (wpAny_bind (wpAny_listPart pu (wpAny_pure ?_))))
  first
    | simp only [hsame, Bool.false_eq_true, if_false]
    | refine PySem.W.KFB.if_not hsame ?_
    | (dsimp only
       rw [if_neg (by rw [hsame]; exact Bool.false_ne_true)])
  refine wpAny_bind (m := Builtin.List.listAllItems (.ref b) "must assign iterable to extended slice") ?_
  unfold Builtin.List.listAllItems
  refine wpAny_bind (wpAny_typeOf hb.typeIs ?_)
  first
    | refine PySem.W.KFB.if_so (by decide) ?_
    | rw [if_pos (by decide)]
    | simp only [beq_self_eq_true, Bool.true_or, if_true]
  unfold Builtin.List.listItems
  refine wpAny_bind (wpAny_seqItems e2 rfl (wpAny_pure ?_))
  refine wpAny_bind (wpAny_bind (wpAny_seqItems e rfl (wpAny_pure ?_)))
  refine wpAny_bind (wpAny_of_eq ((sliceIndices_raw (some (a : Int)) (some (c : Int)) none items.size (by simp)).trans (congrArg (pure : Int × Int × Int → Sem (Int × Int × Int)) (bounds_run hac hc))) ?_)
  show wpAny _ _ (if ((1 : Int) == 1) = true then _ else _) _ _ s
  rw [if_pos (by decide)]
  refine wpAny_bind (wpAny_rule ?_)
  first
    | simp only [notLongL hsz, Bool.false_eq_true, if_false]
    | refine PySem.W.KFB.if_not (notLongL hsz) ?_
  first | refine wpAny_bind (wpAny_pure ?_) | skip
  show wpAny _ _ (updateSeq l (fun xs => xs.extract 0 ((a : Int)).toNat ++ new ++ xs.extract (max (a : Int) (c : Int)).toNat xs.size) >>= _) _ _ s
  rw [hmax, Int.toNat_natCast]
  refine wpAny_bind (wpAny_updateSeq (hz := Nat.le_trans (Nat.le_add_right _ _) hsz) (_hz' := hz') e rfl ?_)
  refine wpAny_bind (wpAny_letGo ?_)
  first
    | exact wpAny_bind (wpAny_pure (wpAny_pure ⟨.none, rfl, wpAny_pure h⟩))
    | exact wpAny_pure ⟨.none, rfl, wpAny_pure h⟩
end

section
variable {X : Cx}
/-- xs[a:c] = ys of another list, at the value level: sl is the slice object that was just made -/
theorem set_slice {pins : List (Addr × Obj)} {s : Shared} {σ : St} {H : Hp} {l b sl : Addr} {xs ys : List V} {a c : Int} {vl vu : Value} {Q : Unit → Shared → Prop} (I : Inv X pins σ H s)
    (hH : H l = some (.lst xs)) (hB : H b = some (.lst ys)) (hne : l ≠ b) (hs : s.heap.IsSliceOf sl vl vu .none) (ra : RelV (.int a) vl) (rc : RelV (.int c) vu) (h0 : 0 ≤ a) (hac : a ≤ c) (hc : c ≤ xs.length)
    (hz : xs.length + ys.length ≤ sizeLine) (h : ∀ s', Inv X pins σ (upd H l (.lst (xs.take a.toNat ++ ys ++ xs.drop c.toNat))) s' → Q () s') :
    wpAny (model X.prog X.w) X.A (setItem (.ref l) (.ref sl) (.ref b)) Q X.xe s := by
  obtain ⟨ta, rfl⟩ := ra
  obtain ⟨tc, rfl⟩ := rc
  obtain ⟨z, its, n, r, hl, e⟩ := I.lstM hH
  obtain ⟨z2, its2, n2, r2, hl2, e2⟩ := I.lstM hB
  obtain ⟨a', rfl⟩ := Int.eq_ofNat_of_zero_le h0
  obtain ⟨c', rfl⟩ := Int.eq_ofNat_of_zero_le (Int.le_trans h0 hac)
  simp only [Int.toNat_natCast] at h
  refine setItem_slice (a := a') (c := c') e e2 hne hs (.int _ _) (.int _ _) (by omega) (by rw [List.size_toArray]; omega) (by rw [List.size_toArray, List.size_toArray]; omega) (h _ ?_)
  refine I.lset (its' := its.take a' ++ its2 ++ its.drop c') (t' := s.toks) hH e ?_ (Vals.append (Vals.append (r.take _) r2) (r.drop _)) ?_
  · exact splice_eq its its2 a' c'
  · rw [List.length_append, List.length_append, List.length_take, List.length_drop]
    omega
end
end L2

namespace L2
open PySem PySem.Spec PyProof.Rows

theorem Vals.ints : ∀ {ns : List Int} {us : List Value}, Vals (ns.map V.int) us → IntsAre us ns
  | [], us, h => by
    rw [List.map_nil] at h
    cases h
    exact IntsAre.nil
  | n :: ns, us, h => by
    rw [List.map_cons] at h
    cases h with
    | cons r t =>
      obtain ⟨k, rfl⟩ := r
      exact IntsAre.cons n k (Vals.ints t)
theorem vals_of_ints : ∀ {us : List Value} {ns : List Int}, IntsAre us ns → Vals (ns.map V.int) us
  | _, _, .nil => by rw [List.map_nil]; exact Paired.nil
  | _, _, .cons n t h => by rw [List.map_cons]; exact Paired.cons (show RelV (V.int n) (Value.int n t) from ⟨t, rfl⟩) (vals_of_ints h)
theorem Vals.strs : ∀ {xs : List Str} {us : List Value}, Vals (xs.map V.str) us → StrsAre us xs
  | [], us, h => by
    rw [List.map_nil] at h
    cases h
    exact StrsAre.nil
  | x :: xs, us, h => by
    rw [List.map_cons] at h
    cases h with
    | cons r t =>
      obtain ⟨k, rfl⟩ := r
      exact StrsAre.cons x k (Vals.strs t)
theorem vals_of_strs : ∀ {us : List Value} {xs : List Str}, StrsAre us xs → Vals (xs.map V.str) us
  | _, _, .nil => by rw [List.map_nil]; exact Paired.nil
  | _, _, .cons x t h => by rw [List.map_cons]; exact Paired.cons (show RelV (V.str x) (Value.str x t) from ⟨t, rfl⟩) (vals_of_strs h)
theorem Vals.bls : ∀ {bs : List Bool} {us : List Value}, Vals (bs.map V.bl) us → us = bs.map Value.bool
  | [], us, h => by
    rw [List.map_nil] at h
    cases h
    rfl
  | b :: bs, us, h => by
    rw [List.map_cons] at h
    cases h with
    | cons r t =>
      cases r
      rw [Vals.bls t, List.map_cons]
theorem Vals.ref1 {a : Addr} {us : List Value} (r : Vals [V.ref a] us) : us = [Value.ref a] := by
  cases r with
  | cons r t =>
    cases t
    cases r
    rfl
theorem Vals.int2 {i j : Int} {us : List Value} (r : Vals [V.int i, V.int j] us) : ∃ t u, us = [Value.int i t, Value.int j u] := by
  cases r with
  | cons r t =>
    cases t with
    | cons r2 t2 =>
      cases t2
      obtain ⟨t, rfl⟩ := r
      obtain ⟨u, rfl⟩ := r2
      exact ⟨t, u, rfl⟩

/-! ### the library's walks over a list of ints, kept objects alone -/
section
variable {prog : Program} {w : World} {A : Around} {E : Value → Shared → Prop} {s : Shared} {l : Addr} {its : List Value} {ns : List Int} {Q : Value → Shared → Prop}
theorem sum_raw (hh : A.handled = none) (hl : s.heap.IsList l its.toArray) (hi : IntsAre its ns)
    (h : ∀ h' tk t', (∀ b o, s.heap.get? b = some o → h'.get? b = some o) → Q (.int ns.sum t') { s with heap := h', toks := tk }) : wpAny (model prog w) A (call (.builtin "sum") [.ref l]) Q E s := by
  obtain ⟨xs, e⟩ := hi.allInts.items
  have hn : numsOf (intItems xs).toList = ns := by rw [← e]; exact hi.numsOf
  rw [nums_intItems] at hn
  rw [e] at hl
  refine PySem.sum_intListG hh hl fun h' tk t' hk => ?_
  have := h h' tk t' hk
  rw [preSum_eq, List.take_of_length_le (by simp), hn]; exact this
theorem max_raw (hh : A.handled = none) (hl : s.heap.IsList l its.toArray) (hi : IntsAre its ns) (hne : 0 < ns.length)
    (h : ∀ h' tk M t', (∀ b o, s.heap.get? b = some o → h'.get? b = some o) → M ∈ ns → (∀ a, a ∈ ns → a ≤ M) → Q (.int M t') { s with heap := h', toks := tk }) : wpAny (model prog w) A (call (.builtin "max") [.ref l]) Q E s := by
  obtain ⟨xs, e⟩ := hi.allInts.items
  have hn : numsOf (intItems xs).toList = ns := by rw [← e]; exact hi.numsOf
  rw [nums_intItems] at hn
  subst hn
  rw [e] at hl
  have hsz : 0 < xs.size := by simpa using hne
  refine PySem.max_intList hh hl hsz fun v h' tk hv hk => ?_
  obtain ⟨t, rfl⟩ := intItems_at hv
  obtain ⟨h1, h2⟩ := argBest_gt (numAt xs) (xs.size - 1)
  refine h h' tk _ t hk ?_ fun a ha => ?_
  · rw [numAt_eq]; exact PySem.getD_mem (by rw [List.length_map, Array.length_toList]; omega)
  · obtain ⟨j, hj, rfl⟩ := mem_getD ha
    rw [List.length_map, Array.length_toList] at hj
    rw [← numAt_eq]; exact h2 j (by omega)
theorem min_raw (hh : A.handled = none) (hl : s.heap.IsList l its.toArray) (hi : IntsAre its ns) (hne : 0 < ns.length)
    (h : ∀ h' tk M t', (∀ b o, s.heap.get? b = some o → h'.get? b = some o) → M ∈ ns → (∀ a, a ∈ ns → M ≤ a) → Q (.int M t') { s with heap := h', toks := tk }) : wpAny (model prog w) A (call (.builtin "min") [.ref l]) Q E s := by
  obtain ⟨xs, e⟩ := hi.allInts.items
  have hn : numsOf (intItems xs).toList = ns := by rw [← e]; exact hi.numsOf
  rw [nums_intItems] at hn
  subst hn
  rw [e] at hl
  have hsz : 0 < xs.size := by simpa using hne
  refine PySem.min_intList hh hl hsz fun v h' tk hv hk => ?_
  obtain ⟨t, rfl⟩ := intItems_at hv
  obtain ⟨h1, h2⟩ := argBest_lt (numAt xs) (xs.size - 1)
  refine h h' tk _ t hk ?_ fun a ha => ?_
  · rw [numAt_eq]; exact PySem.getD_mem (by rw [List.length_map, Array.length_toList]; omega)
  · obtain ⟨j, hj, rfl⟩ := mem_getD ha
    rw [List.length_map, Array.length_toList] at hj
    rw [← numAt_eq]; exact h2 j (by omega)
end

/-! ### the calls, by values (CallR of 03t; MtR of 06l) -/
section
variable {X : Cx}
/-- sum(xs) of a list of ints -/
def rSum (K : PySem.W.Frag) : List V → Hp → VK → Prop := fun vs H Q => ∃ (a : Addr) (ns : List Int), vs = [V.ref a] ∧ SqL K H a (ns.map V.int) ∧ Q (.int ns.sum) H
/-- max(xs), min(xs) of a list of ints -/
def rMax (K : PySem.W.Frag) : List V → Hp → VK → Prop := fun vs H Q => ∃ (a : Addr) (ns : List Int), vs = [V.ref a] ∧ SqL K H a (ns.map V.int) ∧ 0 < ns.length ∧ ∀ m, m ∈ ns → (∀ y, y ∈ ns → y ≤ m) → Q (.int m) H
def rMin (K : PySem.W.Frag) : List V → Hp → VK → Prop := fun vs H Q => ∃ (a : Addr) (ns : List Int), vs = [V.ref a] ∧ SqL K H a (ns.map V.int) ∧ 0 < ns.length ∧ ∀ m, m ∈ ns → (∀ y, y ∈ ns → m ≤ y) → Q (.int m) H
theorem cr_sum (hc : X.calm = true) : CallR X (.builtin "sum") (rSum X.K) := by
  intro pins s σ H vs us Q I r h
  obtain ⟨a, ns, rfl, hs, q⟩ := h
  obtain ⟨its, rv, hl, _⟩ := I.list hs
  rw [Vals.ref1 r]
  exact sum_raw (I.ok.hd hc) hl.isList rv.ints fun h' tk t' hk => ⟨.int _, H, I.kept hk, ⟨_, rfl⟩, q⟩
theorem cr_max (hc : X.calm = true) : CallR X (.builtin "max") (rMax X.K) := by
  intro pins s σ H vs us Q I r h
  obtain ⟨a, ns, rfl, hs, hne, q⟩ := h
  obtain ⟨its, rv, hl, _⟩ := I.list hs
  rw [Vals.ref1 r]
  exact max_raw (I.ok.hd hc) hl.isList rv.ints hne fun h' tk m t' hk h1 h2 => ⟨.int _, H, I.kept hk, ⟨_, rfl⟩, q m h1 h2⟩
theorem cr_min (hc : X.calm = true) : CallR X (.builtin "min") (rMin X.K) := by
  intro pins s σ H vs us Q I r h
  obtain ⟨a, ns, rfl, hs, hne, q⟩ := h
  obtain ⟨its, rv, hl, _⟩ := I.list hs
  rw [Vals.ref1 r]
  exact min_raw (I.ok.hd hc) hl.isList rv.ints hne fun h' tk m t' hk h1 h2 => ⟨.int _, H, I.kept hk, ⟨_, rfl⟩, q m h1 h2⟩

/-! sorted, sort (fewer than 64 items: the library's own bound) -/
def rSorted (K : PySem.W.Frag) : List V → Hp → VK → Prop := fun vs H Q => ∃ (a : Addr) (ns : List Int), vs = [V.ref a] ∧ SqL K H a (ns.map V.int) ∧ ns.length < 64 ∧
  ∀ (ns' : List Int) (p : Addr), ns'.Perm ns → ns'.Pairwise (· ≤ ·) → H p = none → Q (.ref p) (upd H p (.lst (ns'.map V.int)))
def rSortedS (K : PySem.W.Frag) : List V → Hp → VK → Prop := fun vs H Q => ∃ (a : Addr) (xs : List Str), vs = [V.ref a] ∧ SqL K H a (xs.map V.str) ∧ xs.length < 64 ∧
  ∀ (ys : List Str) (p : Addr), ys.Perm xs → sortedS ys = true → H p = none → Q (.ref p) (upd H p (.lst (ys.map V.str)))
theorem small64 {n : Nat} (h : n < 64) : n ≤ sizeLine := by rw [sizeLine_eq]; omega
theorem cr_sorted : CallR X (.builtin "sorted") (rSorted X.K) := by
  intro pins s σ H vs us Q I r h
  obtain ⟨a, ns, rfl, hs, h64, q⟩ := h
  obtain ⟨its, rv, hl, _⟩ := I.list hs
  rw [Vals.ref1 r]
  have hi := rv.ints
  refine PyProof.Rows.sorted_ints hl.isList hi (by rw [hi.length]; exact h64) fun out ns' h1 h2 h3 => ?_
  obtain ⟨ep, he'⟩ := PyProof.Rows.sortedAll_at s.heap its out
  have hlen : (ns'.map V.int).length ≤ sizeLine := by rw [List.length_map, h2.length_eq]; exact small64 h64
  exact ⟨.ref _, upd H (s.heap.objs.size + 1) (.lst (ns'.map V.int)), I.laid (t' := s.toks) (fun _ _ => PyProof.Rows.sortedAll_old) (Nat.le_succ _) ⟨hlen, out.toList, ep, vals_of_ints h1, he'⟩, rfl, q ns' _ h2 h3 (I.hok.fresh (Nat.le_succ _))⟩
theorem cr_sortedS : CallR X (.builtin "sorted") (rSortedS X.K) := by
  intro pins s σ H vs us Q I r h
  obtain ⟨a, xs, rfl, hs, h64, q⟩ := h
  obtain ⟨its, rv, hl, _⟩ := I.list hs
  rw [Vals.ref1 r]
  have hlen0 := rv.length
  rw [List.length_map] at hlen0
  refine PyProof.Rows.sorted_strs hl.isList rv.strs (by rw [← hlen0]; exact h64) fun out ys h1 h2 h3 => ?_
  obtain ⟨ep, he'⟩ := PyProof.Rows.sortedAll_at s.heap its out
  have hlen : (ys.map V.str).length ≤ sizeLine := by rw [List.length_map, h2.length_eq]; exact small64 h64
  exact ⟨.ref _, upd H (s.heap.objs.size + 1) (.lst (ys.map V.str)), I.laid (t' := s.toks) (fun _ _ => PyProof.Rows.sortedAll_old) (Nat.le_succ _) ⟨hlen, out.toList, ep, vals_of_strs h1, he'⟩, rfl, q ys _ h2 h3 (I.hok.fresh (Nat.le_succ _))⟩
/-- xs.sort(), ints -/
def rSort : V → List V → Hp → VK → Prop := fun x xs H Q => ∃ (a : Addr) (ns : List Int), x = V.ref a ∧ xs = [] ∧ H a = some (.lst (ns.map V.int)) ∧ ns.length < 64 ∧
  ∀ ns' : List Int, ns'.Perm ns → ns'.Pairwise (· ≤ ·) → Q .non (upd H a (.lst (ns'.map V.int)))
theorem mt_sort : MtR X "list.sort" rSort := by
  intro pins s σ H x xs v us Q I rx rxs h
  obtain ⟨a, ns, rfl, rfl, ha, h64, q⟩ := h
  cases rx
  cases rxs
  obtain ⟨hz, its, n, rv, hob⟩ := I.hok a _ ha
  have hi := rv.ints
  refine wpAny_call_entry PyProof.Rows.slot_list_sort ⟨_, hob, rfl⟩ PyProof.Rows.entry_list_sort
    (PyProof.Rows.list_sort_tree hob hi (by rw [hi.length]; exact h64) fun out ns' h1 h2 h3 => ⟨.none, rfl, ?_⟩) (PyProof.Rows.args_list_sort _)
  obtain ⟨ep, he'⟩ := PyProof.Rows.sortedHeap_at (vs := its) (out := out) hob
  have hlen : (ns'.map V.int).length ≤ sizeLine := by rw [List.length_map, h2.length_eq]; exact small64 h64
  refine ⟨.non, upd H a (.lst (ns'.map V.int)), I.write (e := a) (t' := s.toks) (by rw [ha]; trivial) (.inl rfl) (fun b u hb hu => ?_) ⟨_, he'⟩ ⟨hlen, out.toList, ep, vals_of_ints h1, he'⟩, rfl, q ns' h2 h3⟩
  rw [PyProof.Rows.sortedHeap_old hb (Heap.lt_size hu)]; exact hu
end

/-! ### list.index, flat items -/
section
variable {X : Cx}
def rIndex (K : PySem.W.Frag) : V → List V → Hp → VK → Prop := fun x xs H Q => ∃ (a : Addr) (ys : List V) (y : V) (j : Nat) (z : V), x = V.ref a ∧ xs = [y] ∧ SqL K H a ys ∧ flatV y = true ∧ ys.all flatV = true ∧ ys[j]? = some z ∧ eqV z y = true ∧
  (∀ (m : Nat) (z' : V), m < j → ys[m]? = some z' → eqV z' y = false) ∧ Q (.int (j : Nat)) H
theorem flat_at {ys : List V} (f : ys.all flatV = true) {j : Nat} {z : V} (h : ys[j]? = some z) : flatV z = true := List.all_eq_true.mp f z (List.mem_of_getElem? h)
theorem mt_index : MtR X "list.index" (rIndex X.K) := by
  intro pins s σ H x xs v us Q I rx rxs h
  obtain ⟨a, ys, y, j, z, rfl, rfl, hs, fy, fys, hz, hzj, hno, q⟩ := h
  cases rx
  cases rxs with
  | cons ry rt =>
    rename_i uy ut
    cases rt
    obtain ⟨its, rv, ⟨⟨cls, dd, data, sl⟩, n, ho, hc, hdn, hd⟩, hlen⟩ := I.list hs
    simp only at hc hd
    subst hc hd
    obtain ⟨u, hu, ru⟩ := rv.get hz
    obtain ⟨hjl, hje⟩ := List.getElem?_eq_some_iff.mp hu
    have hvl := rv.length
    have hj : j < its.toArray.size := by simpa using hjl
    have hsl := sizeLine_eq
    refine call_meets PySem.F.slot_list_index ⟨_, ho, rfl⟩ PySem.F.entry_list_index (PySem.F.args_list_index_2 _ _)
      (SeqAt.list_indexAt a its.toArray n dd sl uy (eqU y) j hj (by omega) ?_ ?_) ⟨ho, fun u' hu' => mem_eqAt ry fy rv fys u' (by simpa using hu'), ?_⟩
    · have e1 : its.toArray[j] = u := by simpa using hje
      rw [e1, eqU_of ru (flat_at fys hz)]
      exact hzj
    · intro m hm hmj
      have hml : m < its.length := by simpa using hm
      have hmy : m < ys.length := by omega
      have hy' : ys[m]? = some ys[m] := List.getElem?_eq_getElem hmy
      obtain ⟨u2, hu2, ru2⟩ := rv.get hy'
      obtain ⟨_, hme⟩ := List.getElem?_eq_some_iff.mp hu2
      have e1 : its.toArray[m] = u2 := by simpa using hme
      rw [e1, eqU_of ru2 (flat_at fys hy')]
      exact hno m _ hmj hy'
    · exact ⟨.int (j : Nat), H, I.tok _, ⟨_, rfl⟩, q⟩
end

/-! ### type(x) of an own instance; is, is not of a module's class -/
section
variable {X : Cx}
theorem cr_type : CallR X (.type "type") (fun xs H Q => ∃ a C dx fs, xs = [V.ref a] ∧ H a = some (.ins C dx fs) ∧ Q (.ref C) H) := by
  intro pins s σ H xs us Q I r h
  obtain ⟨a, C, dx, fs, rfl, ha, q⟩ := h
  rw [Vals.ref1 r]
  obtain ⟨mA, O, _⟩ := ins_get I.hok ha
  obtain ⟨od, J, _⟩ := O.look
  exact PySem.W.kto_own J ⟨.ref C, H, I, rfl, q⟩
/-- an object of the module whose class is no tuple: a class of the text (makesIn says that its type is a type's heir) -/
theorem cls_there {K : PySem.W.Frag} {C : Addr} (h : PySem.W.makesIn K C = true) : ∃ o, K.lookup C = some o ∧ o.cls ≠ .type "tuple" := by
  unfold PySem.W.makesIn at h
  split at h
  · rename_i oc od cd sl ho
    refine ⟨_, ho, fun e => ?_⟩
    rw [Bool.and_eq_true] at h
    have h2 : PySem.W.instIn K (.ref C) (.type "type") = some true := beq_iff_eq.mp h.2
    have e2 : oc = .type "tuple" := e
    have h3 : PySem.W.instIn K (.ref C) (.type "type") = PySem.W.subIn K oc (.type "type") := by
      show ((K.lookup C).map (fun o => o.cls)).bind (fun t => PySem.W.subIn K t (.type "type")) = _
      rw [ho]
      all_goals rfl
    rw [h3, e2] at h2
    have h4 : PySem.W.subIn K (.type "tuple") (.type "type") = some false := by
      show (fastBuiltinMro "tuple").map (·.contains (.type "type")) = some false
      decide +kernel
    rw [h4] at h2
    cases h2
  · cases h
theorem op_is_cls : OpR X (compareOp .Is) (fun x y H Q => ∃ a b, x = V.ref a ∧ y = V.ref b ∧ (a = b ∨ (PySem.W.makesIn X.K a = true ∧ PySem.W.makesIn X.K b = true)) ∧ Q (.bl (decide (a = b))) H) := by
  intro pins s σ H x y v u Q I rx ry h
  obtain ⟨a, b, rfl, rfl, hab, q⟩ := h
  cases rx
  cases ry
  by_cases z : a = b
  · subst z
    exact wpAny_is_ref_self ⟨.bl _, H, I, by simp [RelV], q⟩
  · rcases hab with e | ⟨h1, h2⟩
    · exact absurd e z
    · obtain ⟨o1, e1, n1⟩ := cls_there h1
      obtain ⟨o2, e2, _⟩ := cls_there h2
      exact wpAny_is_ref_other z (I.kIn _ _ e1) (I.kIn _ _ e2) n1 ⟨.bl _, H, I, by simp [RelV, z], q⟩
theorem op_isnot_cls : OpR X (compareOp .IsNot) (fun x y H Q => ∃ a b, x = V.ref a ∧ y = V.ref b ∧ (a = b ∨ (PySem.W.makesIn X.K a = true ∧ PySem.W.makesIn X.K b = true)) ∧ Q (.bl (!decide (a = b))) H) := by
  intro pins s σ H x y v u Q I rx ry h
  obtain ⟨a, b, rfl, rfl, hab, q⟩ := h
  cases rx
  cases ry
  by_cases z : a = b
  · subst z
    exact wpAny_isNot_ref_self ⟨.bl _, H, I, by simp [RelV], q⟩
  · rcases hab with e | ⟨h1, h2⟩
    · exact absurd e z
    · obtain ⟨o1, e1, n1⟩ := cls_there h1
      obtain ⟨o2, e2, _⟩ := cls_there h2
      exact wpAny_isNot_ref_other z (I.kIn _ _ e1) (I.kIn _ _ e2) n1 ⟨.bl _, H, I, by simp [RelV, z], q⟩
end

/-! ### any(xs), all(xs) of a list of bools -/
theorem iter_any {prog : Program} {w : World} {A : Around} {E : Value → Shared → Prop} {s : Shared} {l : Addr} {items : Array Value} {Q : Value → Shared → Prop} (hl : s.heap.IsList l items)
    (h : ∀ s₂ : Shared, s₂ = { s with heap := s.heap.push { cls := .type "list_iterator", data := .fields #[.ref l, .int 0 0] } } →
      (s₂.heap.IsListIter s.heap.objs.size l 0 ∧ s₂.heap.IsList l items) → l ≠ s.heap.objs.size → Q (.ref s.heap.objs.size) s₂) : wpAny (model prog w) A (pyIter (.ref l)) Q E s := by
  have hlt : l < s.heap.objs.size := by obtain ⟨_, e, _⟩ := hl; exact Heap.lt_size e
  exact wpAny_pyIter_list hl (h _ rfl ⟨⟨_, Heap.get?_push_size _ rfl, rfl, rfl⟩, hl.push _⟩ (Nat.ne_of_lt hlt))
theorem truth_bools {prog : Program} {w : World} {A : Around} {bs : List Bool} {its : List Value} (e : its = bs.map Value.bool) :
    TruthOf prog w A (fun i v => its.toArray[i]? = some v) (fun i => bs.getD i false) := fun i v s Q E hv hq => by
  have hv' : its[i]? = some v := by simpa using hv
  rw [e, List.getElem?_map] at hv'
  obtain ⟨b, hb, rfl⟩ := Option.map_eq_some_iff.mp hv'
  have hg : bs.getD i false = b := by rw [List.getD_eq_getElem?_getD, hb] <;> rfl
  have hq' : Q (bs.getD i false) s := hq
  rw [hg] at hq'
  exact wpAny_truthy_bool hq'
theorem any_range : ∀ bs : List Bool, (List.range bs.length).any (fun i => bs.getD i false) = bs.any id
  | [] => rfl
  | b :: bs => by
    rw [List.length_cons, List.range_succ_eq_map, List.any_cons, List.any_map, List.any_cons, ← any_range bs]
    all_goals rfl
theorem all_range : ∀ bs : List Bool, (List.range bs.length).all (fun i => bs.getD i false) = bs.all id
  | [] => rfl
  | b :: bs => by
    rw [List.length_cons, List.range_succ_eq_map, List.all_cons, List.all_map, List.all_cons, ← all_range bs]
    all_goals rfl
section
variable {X : Cx}
def rAny (K : PySem.W.Frag) : List V → Hp → VK → Prop := fun vs H Q => ∃ (a : Addr) (bs : List Bool), vs = [V.ref a] ∧ SqL K H a (bs.map V.bl) ∧ Q (.bl (bs.any id)) H
def rAll (K : PySem.W.Frag) : List V → Hp → VK → Prop := fun vs H Q => ∃ (a : Addr) (bs : List Bool), vs = [V.ref a] ∧ SqL K H a (bs.map V.bl) ∧ Q (.bl (bs.all id)) H
theorem cr_any (hc : X.calm = true) : CallR X (.builtin "any") (rAny X.K) := by
  intro pins s σ H vs us Q I r h
  obtain ⟨a, bs, rfl, hs, q⟩ := h
  obtain ⟨its, rv, hl, _⟩ := I.list hs
  rw [Vals.ref1 r]
  have hb := rv.bls
  refine call_any_walk (iter_any hl.isList fun s₂ e2 st hne => ?_)
  subst e2
  refine ⟨_, _, _, _, _, _, _, rfl, Walks.list (A := X.A.in1) (I.ok.hd hc) _ a hne its.toArray, st, truth_bools hb, fun h' tk hk => ?_⟩
  refine ⟨.bl _, H, I.kept fun b o eo => hk b o (fun hmem => ?_) (Heap.get?_push_of_some _ eo), ?_, q⟩
  · rcases List.mem_cons.mp hmem with e1 | hmem
    · exact absurd (e1 ▸ Heap.lt_size eo) (Nat.lt_irrefl _)
    · cases hmem
  · show Value.bool _ = Value.bool _
    rw [← any_range, hb, List.size_toArray, List.length_map]
theorem cr_all (hc : X.calm = true) : CallR X (.builtin "all") (rAll X.K) := by
  intro pins s σ H vs us Q I r h
  obtain ⟨a, bs, rfl, hs, q⟩ := h
  obtain ⟨its, rv, hl, _⟩ := I.list hs
  rw [Vals.ref1 r]
  have hb := rv.bls
  refine call_all_walk (iter_any hl.isList fun s₂ e2 st hne => ?_)
  subst e2
  refine ⟨_, _, _, _, _, _, _, rfl, Walks.list (A := X.A.in1) (I.ok.hd hc) _ a hne its.toArray, st, truth_bools hb, fun h' tk hk => ?_⟩
  refine ⟨.bl _, H, I.kept fun b o eo => hk b o (fun hmem => ?_) (Heap.get?_push_of_some _ eo), ?_, q⟩
  · rcases List.mem_cons.mp hmem with e1 | hmem
    · exact absurd (e1 ▸ Heap.lt_size eo) (Nat.lt_irrefl _)
    · cases hmem
  · show Value.bool _ = Value.bool _
    rw [← all_range, hb, List.size_toArray, List.length_map]
end

/-! ### == and != of data at any depth: none, bools, ints, texts, lists, tuples -/
mutual
inductive Dp (K : PySem.W.Frag) (H : Hp) : V → PyData → Prop
  | non : Dp K H .non .none
  | bl (b : Bool) : Dp K H (.bl b) (.bool b)
  | int (i : Int) : Dp K H (.int i) (.int i)
  | str (x : Str) : Dp K H (.str x) (.str x)
  | lst {a : Addr} {xs : List V} {ds : List PyData} : SqL K H a xs → DpAll K H xs ds → Dp K H (.ref a) (.list ds)
  | tup {a : Addr} {xs : List V} {ds : List PyData} : SqT K H a xs → DpAll K H xs ds → Dp K H (.ref a) (.tuple ds)
inductive DpAll (K : PySem.W.Frag) (H : Hp) : List V → List PyData → Prop
  | nil : DpAll K H [] []
  | cons {v : V} {vs : List V} {d : PyData} {ds : List PyData} : Dp K H v d → DpAll K H vs ds → DpAll K H (v :: vs) (d :: ds)
end
section
variable {X : Cx} {pins : List (Addr × Obj)} {σ : St} {H : Hp} {s : Shared}
mutual
theorem Dp.reads (I : Inv X pins σ H s) : ∀ (d : PyData) (v : V) (u : Value), Dp X.K H v d → RelV v u → ∃ as, Reads s.heap u d as
  | .none, _, _, h, r => by
    cases h
    cases r
    exact ⟨_, Reads.none⟩
  | .bool b, _, _, h, r => by
    cases h
    cases r
    exact ⟨_, Reads.bool b⟩
  | .int i, _, _, h, r => by
    cases h
    obtain ⟨t, rfl⟩ := r
    exact ⟨_, Reads.int i t⟩
  | .str x, _, _, h, r => by
    cases h
    obtain ⟨t, rfl⟩ := r
    exact ⟨_, Reads.str x t⟩
  | .list ds, _, _, h, r => by
    cases h with
    | lst hs ha =>
      cases r
      obtain ⟨its, rv, ⟨o, n, ho, hc, _, hd⟩, _⟩ := I.list hs
      obtain ⟨as, hr⟩ := Dp.readsAll I ds _ its ha rv
      exact ⟨_, Reads.list ho hc hd hr⟩
  | .tuple ds, _, _, h, r => by
    cases h with
    | tup hs ha =>
      cases r
      obtain ⟨its, rv, ⟨o, ho, hc, n, hd⟩, _⟩ := I.tuple hs
      obtain ⟨as, hr⟩ := Dp.readsAll I ds _ its ha rv
      exact ⟨_, Reads.tuple ho hc hd hr⟩
  | .dict _, _, _, h, _ => by cases h
theorem Dp.readsAll (I : Inv X pins σ H s) : ∀ (ds : List PyData) (vs : List V) (us : List Value), DpAll X.K H vs ds → Vals vs us → ∃ as, ReadsAll s.heap us ds as
  | [], _, _, h, r => by
    cases h
    cases r
    exact ⟨_, ReadsAll.nil⟩
  | d :: ds, _, _, h, r => by
    cases h with
    | cons h1 h2 =>
      cases r with
      | cons r1 r2 =>
        obtain ⟨as, q1⟩ := Dp.reads I d _ _ h1 r1
        obtain ⟨bs, q2⟩ := Dp.readsAll I ds _ _ h2 r2
        exact ⟨_, ReadsAll.cons q1 q2⟩
end
end
section
variable {X : Cx}
def rEqD (K : PySem.W.Frag) : R2 := fun x y H Q => ∃ d e, Dp K H x d ∧ Dp K H y e ∧ SeqAt.shaped d = true ∧ SeqAt.shaped e = true ∧ Q (.bl (PyData.eqv d e)) H
def rNeD (K : PySem.W.Frag) : R2 := fun x y H Q => ∃ d e, Dp K H x d ∧ Dp K H y e ∧ SeqAt.shaped d = true ∧ SeqAt.shaped e = true ∧ Q (.bl (!PyData.eqv d e)) H
theorem op_eqD (hu : X.A.units + 64 < cLine) : OpR X (compareOp .Eq) (rEqD X.K) := by
  intro pins s σ H x y v u Q I rx ry h
  obtain ⟨d, e, hd, he, sd, se, q⟩ := h
  obtain ⟨as, r1⟩ := Dp.reads I d x v hd rx
  obtain ⟨bs, r2⟩ := Dp.reads I e y u he ry
  exact SeqAt.compareEq_shaped r1 r2 sd se hu ⟨.bl _, H, I, rfl, q⟩
theorem op_neD (hu : X.A.units + 64 < cLine) : OpR X (compareOp .NotEq) (rNeD X.K) := by
  intro pins s σ H x y v u Q I rx ry h
  obtain ⟨d, e, hd, he, sd, se, q⟩ := h
  obtain ⟨as, r1⟩ := Dp.reads I d x v hd rx
  obtain ⟨bs, r2⟩ := Dp.reads I e y u he ry
  exact SeqAt.compareNe_shaped r1 r2 sd se hu ⟨.bl _, H, I, rfl, q⟩
end
end L2

namespace L2
open PySem PySem.Spec PyProof.Rows
abbrev CellAt (h : Heap) (c : Addr) (v : Option Value) : Prop := h.IsCell c v
def relS (scope sc : Scope) : Scope :=
  { scope with names := scope.names.map fun (n, k) => if (k == .free && sc.kind == .function && sc.names.lookup n == some .cell) then (n, .cell) else (n, k) }

def cloFrom (cells : List (Str × Addr)) : List (Str × NameKind) → List (Str × Addr) → List (Str × Addr)
  | [], acc => acc
  | (n, k) :: r, acc => if k == .free then cloFrom cells r ((n, (cells.lookup n).getD 0) :: acc) else cloFrom cells r acc

theorem closure_loop (env : Env) (f : Str × NameKind → List (Str × Addr) → Sem (ForInStep (List (Str × Addr))))
    (hf : ∀ n k c, f (n, k) c = if k == .free then (do let a ← cellOf env n; pure (.yield ((n, a) :: c))) else pure (.yield c)) :
    ∀ (names : List (Str × NameKind)) (acc : List (Str × Addr)), (∀ y ∈ names, y.2 = .free → ∃ c, env.cells.lookup y.1 = some c) → forIn names acc f = pure (cloFrom env.cells names acc)
  | [], acc, _ => by rw [List.forIn_nil]; rfl
  | (n, k) :: r, acc, h => by
    rw [List.forIn_cons, hf]
    have ih := fun acc => closure_loop env f hf r acc fun y hy => h y (List.mem_cons_of_mem _ hy)
    unfold cloFrom
    by_cases hk : (k == NameKind.free) = true
    · rw [if_pos hk, if_pos hk]
      obtain ⟨c, hc⟩ := h (n, k) List.mem_cons_self (by simpa using hk)
      have e : cellOf env n = pure c := by unfold cellOf; rw [hc]
      rw [e]
      have e2 : (env.cells.lookup n).getD 0 = c := by rw [hc]; rfl
      rw [e2]
      exact ih _
    · rw [if_neg hk, if_neg hk]
      exact ih _
theorem closure_ok {scope : Scope} {env : Env} (h : ∀ y ∈ scope.names, y.2 = .free → ∃ c, env.cells.lookup y.1 = some c) : closureFor scope env = pure (cloFrom env.cells scope.names []) := by
  simp only [closureFor]
  rw [closure_loop env _ (fun n k c => rfl) scope.names [] h]
  rfl

theorem mem_lookup {α : Type} : ∀ {l : List (Str × α)} {n : Str} {c : α}, (n, c) ∈ l → ∃ c', l.lookup n = some c'
  | (k, v) :: r, n, c, h => by
    rw [List.lookup_cons]
    cases hb : n == k with
    | true => exact ⟨_, rfl⟩
    | false =>
      rcases List.mem_cons.mp h with e | h
      · cases e; simp at hb
      · exact mem_lookup h

theorem cloFrom_mem {cells : List (Str × Addr)} : ∀ {names : List (Str × NameKind)} {acc : List (Str × Addr)} {n : Str} {c : Addr}, (n, c) ∈ cloFrom cells names acc → (n, c) ∈ acc ∨ ((n, .free) ∈ names ∧ c = (cells.lookup n).getD 0)
  | [], _, _, _, h => .inl h
  | (m, k) :: r, acc, n, c, h => by
    unfold cloFrom at h
    split at h
    · rename_i hk
      have hk : k = .free := by simpa using hk
      rcases cloFrom_mem h with h | ⟨h1, h2⟩
      · rcases List.mem_cons.mp h with e | h
        · cases e; exact .inr ⟨hk ▸ List.mem_cons_self, rfl⟩
        · exact .inl h
      · exact .inr ⟨List.mem_cons_of_mem _ h1, h2⟩
    · rcases cloFrom_mem h with h | ⟨h1, h2⟩
      · exact .inl h
      · exact .inr ⟨List.mem_cons_of_mem _ h1, h2⟩
theorem cloFrom_acc {cells : List (Str × Addr)} : ∀ {names : List (Str × NameKind)} {acc : List (Str × Addr)} {p : Str × Addr}, p ∈ acc → p ∈ cloFrom cells names acc
  | [], _, _, h => h
  | (m, k) :: r, acc, p, h => by
    unfold cloFrom
    split
    · exact cloFrom_acc (List.mem_cons_of_mem _ h)
    · exact cloFrom_acc h
theorem cloFrom_has {cells : List (Str × Addr)} : ∀ {names : List (Str × NameKind)} {acc : List (Str × Addr)} {n : Str}, (n, .free) ∈ names → (n, (cells.lookup n).getD 0) ∈ cloFrom cells names acc
  | (m, k) :: r, acc, n, h => by
    unfold cloFrom
    rcases List.mem_cons.mp h with e | h
    · cases e
      exact cloFrom_acc List.mem_cons_self
    · split
      · exact cloFrom_has h
      · exact cloFrom_has h

theorem cells_mem : ∀ {names : List (Str × NameKind)} {h : Heap} {acc : List (Str × Addr)} {x : Str} {c : Addr}, (x, c) ∈ cellsFrom h.objs.size names acc →
    (x, c) ∈ acc ∨ ((x, .cell) ∈ names ∧ h.objs.size ≤ c ∧ CellAt (pushCells h names) c none)
  | [], _, _, _, _, h => .inl h
  | (n, k) :: r, h, acc, x, c, hm => by
    unfold cellsFrom at hm
    unfold pushCells
    split at hm
    · rename_i hk
      rw [if_pos hk]
      have hk : k = .cell := by simpa using hk
      rw [← Heap.size_push h { cls := .type "cell", data := .cell none }] at hm
      rcases cells_mem hm with hm | ⟨h1, h2, h3⟩
      · rcases List.mem_cons.mp hm with e | hm
        · cases e
          exact .inr ⟨hk ▸ List.mem_cons_self, Nat.le_refl _, _, pushCells_keeps r _ _ _ (Heap.get?_push_size _ rfl), rfl⟩
        · exact .inl hm
      · rw [Heap.size_push] at h2
        exact .inr ⟨List.mem_cons_of_mem _ h1, Nat.le_of_succ_le h2, h3⟩
    · rename_i hk
      rw [if_neg hk]
      rcases cells_mem hm with hm | ⟨h1, h2, h3⟩
      · exact .inl hm
      · exact .inr ⟨List.mem_cons_of_mem _ h1, h2, h3⟩
theorem cells_acc : ∀ {names : List (Str × NameKind)} {n : Nat} {acc : List (Str × Addr)} {p : Str × Addr}, p ∈ acc → p ∈ cellsFrom n names acc
  | [], _, _, _, h => h
  | (m, k) :: r, n, acc, p, h => by
    unfold cellsFrom
    split
    · exact cells_acc (List.mem_cons_of_mem _ h)
    · exact cells_acc h
theorem cells_has : ∀ {names : List (Str × NameKind)} {n : Nat} {acc : List (Str × Addr)} {x : Str}, (x, .cell) ∈ names → ∃ c, (x, c) ∈ cellsFrom n names acc
  | (m, k) :: r, n, acc, x, h => by
    unfold cellsFrom
    rcases List.mem_cons.mp h with e | h
    · cases e
      exact ⟨n, cells_acc List.mem_cons_self⟩
    · split
      · exact cells_has h
      · exact cells_has h
theorem cells_inj : ∀ {names : List (Str × NameKind)} {h : Heap} {acc : List (Str × Addr)} {x y : Str} {c : Addr}, (∀ p ∈ acc, p.2 < h.objs.size) → (∀ x y c, (x, c) ∈ acc → (y, c) ∈ acc → x = y) →
    (x, c) ∈ cellsFrom h.objs.size names acc → (y, c) ∈ cellsFrom h.objs.size names acc → x = y
  | [], _, _, _, _, _, _, hi, h1, h2 => hi _ _ _ h1 h2
  | (n, k) :: r, h, acc, x, y, c, hl, hi, h1, h2 => by
    unfold cellsFrom at h1 h2
    split at h1
    · rename_i hk
      rw [if_pos hk] at h2
      rw [← Heap.size_push h { cls := .type "cell", data := .cell none }] at h1 h2
      refine cells_inj (h := h.push _) (fun p hp => ?_) (fun x y c a b => ?_) h1 h2
      · rw [Heap.size_push]
        rcases List.mem_cons.mp hp with rfl | hp
        · exact Nat.lt_succ_self _
        · exact Nat.lt_succ_of_lt (hl p hp)
      · rcases List.mem_cons.mp a with e | a <;> rcases List.mem_cons.mp b with e' | b
        · cases e; cases e'; rfl
        · cases e; exact absurd (hl _ b) (Nat.lt_irrefl _)
        · cases e'; exact absurd (hl _ a) (Nat.lt_irrefl _)
        · exact hi _ _ _ a b
    · rename_i hk
      rw [if_neg hk] at h2
      exact cells_inj hl hi h1 h2

theorem newEnv_comp {M : Model} {A : Around} {E : Value → Shared → Prop} {s : Shared} {scope : Scope} {globals : Addr} {closure : List (Str × Addr)} {qual : Str} {func : Option Addr} {code : Value} {around : Env} {builtins : Addr} {Q : Env → Shared → Prop}
    (h : Q (newEnv scope s.heap.objs.size globals (cellsFrom (s.heap.objs.size + 1) scope.names closure) qual func code (some around) builtins)
      { s with heap := pushCells (s.heap.push { cls := .type "dict", data := .dict #[] }) scope.names }) :
    wpAny M A (newFunctionEnv scope globals closure [] qual func code (some around) builtins) Q E s := by
  simp only [newFunctionEnv, Option.isSome_some, if_true]
  refine wpAny_bind (wpAny_alloc ?_)
  refine wpAny_bind (wpAny_layCells _ (fun n k c => rfl) scope.names closure _ _ ?_)
  rw [show ({ s with heap := s.heap.push { cls := .type "dict", data := .dict #[] } } : Shared).heap.objs.size = s.heap.objs.size + 1 from Heap.size_push ..]
  rw [List.forIn_nil]
  exact wpAny_bind (wpAny_pure (wpAny_pure h))

/-- every name of the written scope, in the scope that runs -/
theorem lookup_relS {sc : Scope} : ∀ {names : List (Str × NameKind)} {x : Str} {k : NameKind},
    (names.map fun (n, k) => if (k == NameKind.free && sc.kind == .function && sc.names.lookup n == some .cell) then (n, NameKind.cell) else (n, k)).lookup x = some k →
    ∃ k', names.lookup x = some k' ∧ (k = k' ∨ (k' = .free ∧ k = .cell))
  | [], _, _, h => by simp at h
  | (n, k₀) :: r, x, k, h => by
    have ih := @lookup_relS sc r x k
    have h' : List.lookup x ((if (k₀ == NameKind.free && sc.kind == .function && sc.names.lookup n == some .cell) = true then (n, NameKind.cell) else (n, k₀)) :: (r.map _)) = some k := h
    cases hx : x == n with
    | true =>
      simp only [List.lookup_cons, hx]
      by_cases hc : (k₀ == NameKind.free && sc.kind == .function && sc.names.lookup n == some .cell) = true
      · rw [if_pos hc] at h'
        simp only [List.lookup_cons, hx] at h'
        cases h'
        simp only [Bool.and_eq_true, beq_iff_eq] at hc
        exact ⟨k₀, rfl, .inr ⟨hc.1.1, rfl⟩⟩
      · rw [if_neg hc] at h'
        simp only [List.lookup_cons, hx] at h'
        cases h'
        exact ⟨_, rfl, .inl rfl⟩
    | false =>
      simp only [List.lookup_cons, hx]
      by_cases hc : (k₀ == NameKind.free && sc.kind == .function && sc.names.lookup n == some .cell) = true
      · rw [if_pos hc] at h'
        simp only [List.lookup_cons, hx] at h'
        exact ih h'
      · rw [if_neg hc] at h'
        simp only [List.lookup_cons, hx] at h'
        exact ih h'
theorem lookup_relS_keep {sc : Scope} : ∀ {names : List (Str × NameKind)} {x : Str} {k : NameKind}, k ≠ .free → names.lookup x = some k →
    (names.map fun (n, k) => if (k == NameKind.free && sc.kind == .function && sc.names.lookup n == some .cell) then (n, NameKind.cell) else (n, k)).lookup x = some k
  | [], _, _, _, h => by simp at h
  | (n, k₀) :: r, x, k, hk, h => by
    have ih := @lookup_relS_keep sc r x k hk
    show List.lookup x ((if (k₀ == NameKind.free && sc.kind == .function && sc.names.lookup n == some .cell) = true then (n, NameKind.cell) else (n, k₀)) :: (r.map _)) = some k
    cases hx : x == n with
    | true =>
      simp only [List.lookup_cons, hx] at h
      cases h
      have : ¬ (k₀ == NameKind.free && sc.kind == .function && sc.names.lookup n == some .cell) = true := by simp [hk]
      rw [if_neg this]
      simp only [List.lookup_cons, hx]
    | false =>
      simp only [List.lookup_cons, hx] at h
      by_cases hc : (k₀ == NameKind.free && sc.kind == .function && sc.names.lookup n == some .cell) = true
      · rw [if_pos hc]; simp only [List.lookup_cons, hx]; exact ih h
      · rw [if_neg hc]; simp only [List.lookup_cons, hx]; exact ih h

theorem pushCells_size : ∀ (names : List (Str × NameKind)) (h : Heap), h.objs.size ≤ (pushCells h names).objs.size
  | [], _ => Nat.le_refl _
  | (_, k) :: r, h => by
    unfold pushCells
    split
    · refine Nat.le_trans ?_ (pushCells_size r _)
      rw [Heap.size_push]; exact Nat.le_succ _
    · exact pushCells_size r h


/-- the names of a comprehension's block: its own (with their places in N), or captured -/
structure BlkOk (N : List Str) (sc scope : Scope) (own : List (Str × Nat)) : Prop where
  kind : scope.kind = .function
  uniq : ∀ y ∈ scope.names, scope.names.lookup y.1 = some y.2
  ix : ∀ p ∈ own, N[p.2]? = some p.1
  free : ∀ y ∈ scope.names, y.2 = .free → sc.names.lookup y.1 = some .cell ∨ sc.names.lookup y.1 = some .free
  own : ∀ y ∈ scope.names, y.2 = .local ∨ y.2 = .cell → y.1 ∈ own.map (·.1) ∨ y.1 ∉ N
/-- the slots of the block's own names forgotten -/
def wipe (σ : St) : List Nat → St
  | [] => σ
  | v :: vs => (wipe σ vs).set v none
theorem wipe_length (σ : St) : ∀ vs : List Nat, (wipe σ vs).length = σ.length
  | [] => rfl
  | v :: vs => by unfold wipe; rw [List.length_set, wipe_length σ vs]
theorem wipe_some {σ : St} {i : Nat} {x : V} : ∀ {vs : List Nat}, (wipe σ vs)[i]? = some (some x) → σ[i]? = some (some x) ∧ i ∉ vs
  | [], h => ⟨h, by simp⟩
  | v :: vs, h => by
    unfold wipe at h
    by_cases hi : v = i
    · subst hi
      by_cases hv : v < (wipe σ vs).length
      · rw [List.getElem?_set_self hv] at h; cases h
      · rw [List.getElem?_eq_none (by simpa using hv)] at h; cases h
    · rw [List.getElem?_set_ne hi] at h
      obtain ⟨h1, h2⟩ := wipe_some h
      exact ⟨h1, by simp only [List.mem_cons, not_or]; exact ⟨fun e => hi e.symm, h2⟩⟩

/-- the context of a block that starts at s, its iterator's objects at fp -/
abbrev Cx.blk (X : Cx) (s : Shared) (H : Hp) (scope : Scope) (cenv : Env) (fp : List Addr) : Cx := { X with s_0 := s, H_0 := H, env := cenv, outer := X.stack, ex := fp, fn := fun x => scope.names.lookup x == some .cell, pn := [], xe := fun _ _ => False }
section
variable {X : Cx} {pins : List (Addr × Obj)} {σ : St} {H : Hp} {s : Shared}
theorem block_start {scope : Scope} {own : List (Str × Nat)} {fp : List Addr} (I : Inv X pins σ H s) (ok : BlkOk X.N X.env.scope scope own) (hN : X.N.Nodup) (hfp : ∀ b ∈ fp, FpOk X pins H b ∧ b < s.heap.objs.size) :
    Inv (X.blk s H scope (compEnvC scope (cellsFrom (s.heap.objs.size + 1) scope.names (cloFrom X.env.cells scope.names [])) s.heap.objs.size X.env) fp) [] (wipe σ (own.map (·.2))) H { s with heap := pushCells (s.heap.push { cls := .type "dict", data := .dict #[] }) scope.names } := by
  have hfree : ∀ y ∈ scope.names, y.2 = .free → ∃ c, X.env.cells.lookup y.1 = some c := fun y hy e => by
    rcases ok.free y hy e with k | k
    · exact I.ok.has _ (.inl k)
    · exact I.ok.has _ (.inr k)
  generalize hcenv : compEnvC scope (cellsFrom (s.heap.objs.size + 1) scope.names (cloFrom X.env.cells scope.names [])) s.heap.objs.size X.env = cenv
  have kp : ∀ b o, s.heap.get? b = some o → (pushCells (s.heap.push { cls := .type "dict", data := .dict #[] }) scope.names).get? b = some o := fun b o e => pushCells_keeps _ _ _ _ (Heap.get?_push_of_some _ e)
  have hL : cenv.locals = s.heap.objs.size := by rw [← hcenv]; rfl
  have hcl : cenv.cells = cellsFrom (s.heap.objs.size + 1) scope.names (cloFrom X.env.cells scope.names []) := by rw [← hcenv]; rfl
  have hsc : cenv.scope = relS scope X.env.scope := by rw [← hcenv]; rfl
  rw [← Heap.size_push s.heap { cls := .type "dict", data := .dict #[] }] at hcl
  have cm : ∀ {y c}, (y, c) ∈ cloFrom X.env.cells scope.names [] → X.env.cells.lookup y = some c ∧ c < s.heap.objs.size := fun {y c} hm => by
    rcases cloFrom_mem hm with hm | ⟨h1, rfl⟩
    · cases hm
    · obtain ⟨c, hc⟩ := hfree _ h1 rfl
      rw [hc]
      obtain ⟨w, z⟩ := I.cell _ _ hc
      exact ⟨rfl, z.lt⟩
  have mem : ∀ {y c}, cenv.cells.lookup y = some c → (X.env.cells.lookup y = some c ∧ c < s.heap.objs.size) ∨ (s.heap.objs.size + 1 ≤ c ∧ CellAt (pushCells (s.heap.push { cls := .type "dict", data := .dict #[] }) scope.names) c none) := fun {y c} e => by
    rw [hcl] at e
    rcases cells_mem (PySem.mem_of_lookup e) with hm | ⟨_, h2, h3⟩
    · exact .inl (cm hm)
    · rw [Heap.size_push] at h2; exact .inr ⟨h2, h3⟩
  have look : ∀ {y}, scope.names.lookup y = some .free → ∃ c, cenv.cells.lookup y = some c ∧ X.env.cells.lookup y = some c := fun {y} hl => by
    have hy : (y, NameKind.free) ∈ scope.names := PySem.mem_of_lookup hl
    obtain ⟨c', e'⟩ := mem_lookup (cells_acc (names := scope.names) (n := (s.heap.push { cls := .type "dict", data := .dict #[] }).objs.size) (cloFrom_has (cells := X.env.cells) (acc := []) hy))
    rw [← hcl] at e'
    refine ⟨c', e', ?_⟩
    rw [hcl] at e'
    rcases cells_mem (PySem.mem_of_lookup e') with hm | ⟨h1, _, _⟩
    · exact (cm hm).1
    · have := ok.uniq _ h1
      rw [hl] at this; cases this
  have okB : (X.blk s H scope cenv fp).Ok := by
    refine ⟨I.ok.mod, by show cenv.scope.kind = _; rw [hsc]; exact ok.kind, by show cenv.globals = _; rw [← hcenv]; exact I.ok.glob, by show cenv.builtins = _; rw [← hcenv]; exact I.ok.blt, by show s.heap.objs.size ≤ cenv.locals; rw [hL]; exact Nat.le_refl _,
      fun y z c e1 e2 => ?_, fun y hy => ?_, fun y c z e => ?_, I.ok.hd, I.ok.frames, .inl rfl, fun b hb => ⟨?_, fun y c e z => ?_⟩, I.bs, Nat.le_trans I.ok.bsz I.sz, fun b o e hb => ?_, fun b hb z => ?_, I.stack, I.stkFree⟩
    · have e1 : cenv.cells.lookup y = some c := e1
      have e2 : cenv.cells.lookup z = some c := e2
      rw [hcl] at e1 e2
      refine cells_inj (fun p hp => ?_) (fun y z c a b => I.ok.inj y z c (cm a).1 (cm b).1) (PySem.mem_of_lookup e1) (PySem.mem_of_lookup e2)
      rw [Heap.size_push]
      exact Nat.lt_succ_of_lt (cm (y := p.1) (c := p.2) hp).2
    · show ∃ c, cenv.cells.lookup y = some c
      have key : ∀ k, cenv.kindOf y = some k → (k = .cell ∨ k = .free) → ∃ c, cenv.cells.lookup y = some c := fun k hk hk' => by
        unfold Env.kindOf at hk
        rw [hsc] at hk
        obtain ⟨k', e, r⟩ := lookup_relS hk
        have : k' = .cell ∨ k' = .free := by
          rcases r with rfl | ⟨rfl, _⟩
          · exact hk'
          · exact .inr rfl
        rcases this with rfl | rfl
        · obtain ⟨c, hm⟩ := cells_has (n := (s.heap.push { cls := .type "dict", data := .dict #[] }).objs.size) (acc := cloFrom X.env.cells scope.names []) (PySem.mem_of_lookup e)
          obtain ⟨c', e'⟩ := mem_lookup hm
          exact ⟨c', by rw [hcl]; exact e'⟩
        · obtain ⟨c, h1, _⟩ := look e
          exact ⟨c, h1⟩
      rcases hy with hy | hy
      · exact key _ hy (.inl rfl)
      · exact key _ hy (.inr rfl)
    · have z : (scope.names.lookup y == some NameKind.cell) = true := z
      have z : scope.names.lookup y = some .cell := by simpa using z
      have e : cenv.cells.lookup y = some c := e
      rw [hcl] at e
      rcases cells_mem (PySem.mem_of_lookup e) with hm | ⟨_, h2, _⟩
      · rcases cloFrom_mem hm with hm | ⟨h1, _⟩
        · cases hm
        · have q := ok.uniq _ h1
          rw [z] at q; cases q
      · rw [Heap.size_push] at h2
        exact Nat.le_of_succ_le h2
    · show b ≠ cenv.locals
      rw [hL]; exact Nat.ne_of_lt (hfp b hb).2
    · have e : cenv.cells.lookup y = some c := e
      rcases mem e with ⟨h1, _⟩ | ⟨h1, _⟩
      · exact (hfp b hb).1.2.2.2.2.1 y c h1 z
      · have h2 : s.heap.objs.size + 1 ≤ b := by rw [← z]; exact h1
        exact absurd (Nat.lt_of_lt_of_le (hfp b hb).2 (Nat.le_of_succ_le h2)) (Nat.lt_irrefl _)
    · rcases (hfp b hb).1.2.2.2.1 with z | z
      · exact I.ok.noex b o e z
      · exact absurd (Nat.lt_of_lt_of_le (Heap.lt_size e) (Nat.le_trans I.ok.bsz z)) (Nat.lt_irrefl _)
    · rcases List.mem_cons.mp (I.stkSub b z) with z | z
      · exact (hfp b hb).1.2.1 z
      · exact (hfp b hb).1.2.2.1 z
  refine ⟨okB, rfl, I.bare, Un.kept kp, ⟨fun _ => none, ?_, fun i y av e1 e2 e3 => ?_⟩, fun y c e => ?_, ?_, fun y c e => ?_, fun p hp => ?_, I.hok.kept kp, by rw [wipe_length]; exact I.len⟩
  · show Heap.Ns _ cenv.locals _
    rw [hL]
    exact Heap.Ns.keeps (Heap.Ns.new ..) fun b o e => pushCells_keeps _ _ _ _ e
  · obtain ⟨e2, hne⟩ := wipe_some e2
    have hfr : scope.names.lookup y = some .free ∧ (cenv.kindOf y = some .cell ∨ cenv.kindOf y = some .free) := by
      have key : ∀ k, cenv.scope.names.lookup y = some k → k = .local ∨ k = .cell ∨ k = .free → scope.names.lookup y = some .free ∧ (cenv.kindOf y = some .cell ∨ cenv.kindOf y = some .free) := fun k hk hk' => by
        have hk0 := hk
        rw [hsc] at hk
        obtain ⟨k', e, r⟩ := lookup_relS hk
        have no : ¬ (k' = .local ∨ k' = .cell) := fun hh => by
          rcases ok.own _ (PySem.mem_of_lookup e) hh with e' | e'
          · obtain ⟨p, hp, hpy⟩ := List.mem_map.mp e'
            have e3 := ok.ix p hp
            have : p.1 = y := hpy
            rw [this] at e3
            exact hne (List.mem_map.mpr ⟨p, hp, nodup_ix hN e3 e1⟩)
          · exact e' (List.mem_of_getElem? e1)
        rcases r with rfl | ⟨rfl, rfl⟩
        · rcases hk' with rfl | rfl | rfl
          · exact absurd (.inl rfl) no
          · exact absurd (.inr rfl) no
          · exact ⟨e, .inr hk0⟩
        · exact ⟨e, .inl hk0⟩
      have e3 : Vis cenv.scope y := e3
      rcases e3 with e3 | e3 | e3
      · exact key _ e3 (.inl rfl)
      · exact key _ e3 (.inr (.inl rfl))
      · exact key _ e3 (.inr (.inr rfl))
    obtain ⟨m, hn, hl⟩ := I.loc
    have hvis : Vis X.env.scope y := (ok.free _ (PySem.mem_of_lookup hfr.1) rfl).elim (fun k => .inr (.inl k)) (fun k => .inr (.inr k))
    obtain ⟨w, r, q⟩ := hl i y av e1 e2 hvis
    refine ⟨w, r, .inr ⟨hfr.2, ?_⟩⟩
    obtain ⟨c, h1, h2⟩ := look hfr.1
    rcases q with ⟨k, _⟩ | ⟨_, c', e', z⟩
    · have k : X.env.scope.names.lookup y = some .local := k
      rcases ok.free _ (PySem.mem_of_lookup hfr.1) rfl with k' | k' <;> rw [show X.env.scope.names.lookup y = _ from k'] at k <;> cases k
    · rw [h2] at e'; cases e'
      exact ⟨c, h1, z.keeps kp⟩
  · have e : cenv.cells.lookup y = some c := e
    rcases mem e with ⟨h1, _⟩ | ⟨_, z⟩
    · obtain ⟨w, z⟩ := I.cell y c h1
      exact ⟨w, z.keeps kp⟩
    · exact ⟨_, z⟩
  · show H cenv.locals = none
    rw [hL]; exact I.hok.fresh (Nat.le_refl _)
  · have e : cenv.cells.lookup y = some c := e
    rcases mem e with ⟨h1, _⟩ | ⟨h1, _⟩
    · exact I.freeC y c h1
    · exact I.hok.fresh (Nat.le_of_succ_le h1)
  · exact absurd (show p ∈ ([] : List (Addr × Obj)) ++ [] from hp) (by simp)

/-- an item appended to a tracked list -/
theorem app_ok {E : Value → Shared → Prop} {D : Addr} {xs : List V} {y : V} {v : Value} {Q : Value → Shared → Prop} (I : Inv X pins σ H s) (hD : H D = some (.lst xs)) (hz : xs.length < sizeLine) (r : RelV y v)
    (h : ∀ s', Inv X pins σ (upd H D (.lst (xs ++ [y]))) s' → Q .none s') : wpAny (model X.prog X.w) X.A (call (.builtin "list.append") [.ref D, v]) Q E s := by
  obtain ⟨hz', its, n, ri, e⟩ := I.hok D _ hD
  have hl := ri.length
  refine append_at (hsz := by rw [List.size_toArray]; omega) e fun h' sb ho' => ?_
  refine h { s with heap := h' } (I.write (t' := s.toks) (by rw [hD]; trivial) (.inl rfl) (fun b u hb q => (sb.2 b hb).trans q) ⟨_, ho'⟩ ⟨by rw [List.length_append]; exact hz, its ++ [v], n + 1, ri.append (.cons r .nil), ?_⟩)
  rw [ho']
  simp

/-- a clause's tests -/
def PTs (X : Cx) (ifs : List Expr) (t : TT) : Prop :=
  ∀ (pins : List (Addr × Obj)) (s : Shared) (σ : St) (H : Hp) (Q : Bool → Hp → Prop), Inv X pins σ H s → t σ H Q →
    wpAny (model X.prog X.w) X.A (forIn ifs true fun c r => if r = true then do let ok ← isTrue c X.env (eval c X.env); pure (ForInStep.yield ok) else pure (ForInStep.yield r)) (TP X pins σ Q) X.xe s
def tYes : TT := fun _ H Q => Q true H
theorem pts_nil : PTs X [] tYes := fun _ _ _ H _ I h => wpAny_tests_nil ⟨H, I, h⟩
theorem pts_one {c : Expr} {t : TT} (h : PT X c t) : PTs X [c] t := fun pins s σ H Q I hw => wpAny_tests_one (h pins s σ H Q I hw)
end

theorem thnF {α : Type} {t : Sem α} {Q Q' : α → Shared → Prop} {M : Model} {A : Around} {E : Value → Shared → Prop} {s : Shared} (h : wpAny M A t Q (fun _ _ => False) s) (hQ : ∀ a s, Q a s → Q' a s) : wpAny M A t Q' E s := wpAny_mono h hQ fun _ _ z => False.elim z

/-- the loop of a list comprehension's block, the target of any form (codeAny_compLoop_tests asks a target that no tuple goes to; statement and proof follow it, PyProof/CompMap.lean:41-61, with the step letOwnedTupleGo kept) -/
theorem compLoop_any {prog : Program} {w : World} {A : Around} {R : Result → Shared → Prop} {s : Shared} {elt target iter : Expr} {ifs : List Expr} {scope : Scope} {pos : Pos} {it acc : Value} {env : Env} (I : Nat → Shared → Prop)
    (turn : ∀ n s, I n s → wpAny (model prog w) A (pyNext it) (fun r s₁ => match r with
      | none => R (.ok .next) s₁
      | some v => wpAny (model prog w) A (letOwnedTupleGo target it v) (fun _ s₁' => wpAny (model prog w) A (assign target env v) (fun _ s₂ =>
          wpAny (model prog w) A (forIn ifs true fun c r => if r = true then do let ok ← isTrue c env (eval c env); pure (ForInStep.yield ok) else pure (ForInStep.yield r)) (fun ok s₃ =>
            if ok = true then wpAny (model prog w) A (eval elt env) (fun x s₄ =>
              wpAny (model prog w) A (call (.builtin "list.append") [acc, x]) (fun _ s₅ => ∃ m, m < n ∧ I m s₅) (notedBy (model prog w) A env fun e s' => R (.error e) s') s₄) (notedBy (model prog w) A env fun e s' => R (.error e) s') s₃
            else ∃ m, m < n ∧ I m s₃) (notedBy (model prog w) A env fun e s' => R (.error e) s') s₂) (notedBy (model prog w) A env fun e s' => R (.error e) s') s₁') (notedBy (model prog w) A env fun e s' => R (.error e) s') s₁) (notedBy (model prog w) A env fun e s' => R (.error e) s') s)
    (n : Nat) (h : I n s) :
    codeAny (model prog w) A (.compLoop (.ListComp elt [⟨target, iter, ifs, 0⟩] scope pos) 0 it acc env) R s := by
  refine codeAny_loop rfl I (fun n s hI => ?_) n h
  show wpAny _ A ((compTurn (.ListComp elt [⟨target, iter, ifs, 0⟩] scope pos) 0 it acc env).onRaise (fun x => do noteFrame x env; theTreesLotGoes x)) _ _ s
  refine wpAny_noted ?_
  rw [compTurn_list]
  refine wpAny_bind (wpAny_standAt (wpAny_bind (wpAny_mono (turn n s hI) (fun r s₁ h₁ => ?_) fun _ _ h' => h')))
  cases r with
  | none => exact wpAny_pure h₁
  | some v =>
    refine wpAny_bind (wpAny_mono h₁ (fun _ s₁' h₁' => ?_) fun _ _ h' => h')
    refine wpAny_bind (wpAny_mono h₁' (fun _ s₂ h₂ => wpAny_bind (wpAny_mono h₂ (fun ok s₃ h₃ => ?_) fun _ _ h' => h')) fun _ _ h' => h')
    cases ok with
    | false => exact wpAny_pure ⟨rfl, h₃⟩
    | true =>
      exact wpAny_bind (wpAny_bind (wpAny_mono h₃ (fun x s₄ h₄ => wpAny_bind (wpAny_mono h₄ (fun _ s₅ h₅ => wpAny_pure (wpAny_pure ⟨rfl, h₅⟩)) fun _ _ h' => h')) fun _ _ h' => h'))

section
variable {X : Cx}
/-- [elt for target in iter if ..]: D the new list; W by the turn and a measure, Nx what a turn is to reach -/
def tLc (wi : TI) (g : TG) (tt : TT) (te : TE) (vs : List Nat) : TE := fun σ H Q => wi σ H fun J H1 => ∀ D, H1 D = none → ∃ W : Nat → Nat → Hp → Prop, (∃ m, W 0 m (upd H1 D (.lst []))) ∧ ∀ i m H, W i m H →
  (J.stop i H ∧ Q (.ref D) H) ∨ (J.go i H ∧ ∃ Nx : Hp → Prop, (∀ H', Nx H' → ∃ m', m' < m ∧ W (i + 1) m' H') ∧ ∀ x H', J.yld i H x H' → g x (wipe σ vs) H' fun σ2 H2 => wipe σ2 vs = wipe σ vs ∧ tt σ2 H2 fun b H3 =>
    if b = true then te σ2 H3 fun y H4 => ∃ acc, H4 D = some (.lst acc) ∧ acc.length < sizeLine ∧ Nx (upd H4 D (.lst (acc ++ [y]))) else Nx H3)
theorem lc_core {pins : List (Addr × Obj)} {s : Shared} {σ : St} {H : Hp} {Q : VK} {elt tg iter : Expr} {ifs : List Expr} {scope : Scope} {own : List (Str × Nat)} {pos pos' : Pos} {wi : TI} {g : TG} {tt : TT} {te : TE} {use : Option (Value → Sem Unit)} {Qf : Value → Shared → Prop}
    (hc : X.calm = true) (hN : X.N.Nodup) (I : Inv X pins σ H s) (hi : PI X tg iter wi) (ok : BlkOk X.N X.env.scope scope own)
    (hg : ∀ (s : Shared) (H : Hp) (C : Addr) (cl : List (Str × Addr)) (fp : List Addr), PG (X.blk s H scope (compEnvC scope cl C X.env) fp) tg g) (ht : ∀ (s : Shared) (H : Hp) (C : Addr) (cl : List (Str × Addr)) (fp : List Addr), PTs (X.blk s H scope (compEnvC scope cl C X.env) fp) ifs tt)
    (he : ∀ (s : Shared) (H : Hp) (C : Addr) (cl : List (Str × Addr)) (fp : List Addr), PE (X.blk s H scope (compEnvC scope cl C X.env) fp) elt te) (hs : ∀ x, foldedSetIterable iter X.env x = pure x)
    (h : tLc wi g tt te (own.map (·.2)) σ H Q)
    (hRR : ∀ D C s' m H', Inv X pins σ H' s' → Q (.ref D) H' → s'.heap.Ns C m → FpOk X pins H' C → compPost (model X.prog X.w) X.A X.xe use Qf (.ref D) C (.ok .next) s') :
    wpAny (model X.prog X.w) X.A (comprehension (.ListComp elt [⟨tg, iter, ifs, 0⟩] scope pos) scope X.env pos' (newList []) false (eval iter X.env) use) Qf X.xe s := by
  have hfree : ∀ y ∈ scope.names, y.2 = .free → ∃ c, X.env.cells.lookup y.1 = some c := fun y hy e => by
    rcases ok.free y hy e with k | k
    · exact I.ok.has _ (.inl k)
    · exact I.ok.has _ (.inr k)
  refine wpAny_comprehension_free (use := use) rfl hs (closure_ok hfree) ok.kind (fun y hy e => by rw [ok.uniq y hy, e])
    (thn (hi pins s σ H _ I h) fun xv s1 hx => thn hx fun itv s2 h2 => ?_)
  obtain ⟨it, fp, tn, J, H2, e, I2, T, st2, f2, q⟩ := h2
  subst e
  refine wpAny_newObj_type (newEnv_comp ?_) (by show 0 ≤ sizeLine; decide)
  generalize hD : s2.heap.objs.size = D
  have hDn : H2 D = none := I2.hok.fresh (Nat.le_of_eq hD)
  obtain ⟨W, ⟨m0, w0⟩, turn⟩ := q D hDn
  -- the new list
  generalize hs3 : ({ s2 with heap := s2.heap.push { cls := .type "list", data := .seq ([] : List Value).toArray } } : Shared) = s3
  have I3 : Inv X pins σ (upd H2 D (.lst [])) s3 := by
    rw [← hs3]
    refine I2.laid (t' := s2.toks) (fun b o e => Heap.get?_push_of_some _ e) (Nat.le_of_eq hD) ⟨Nat.zero_le _, [], 0, .nil, ?_⟩
    rw [← hD]
    exact Heap.get?_push_size _ rfl
  have h3 : s3.heap = s2.heap.push { cls := .type "list", data := .seq ([] : List Value).toArray } := by rw [← hs3]
  have sz : ∀ b ∈ fp, b < s2.heap.objs.size := fun b hb => by
    obtain ⟨o, e, _⟩ := T.obj _ _ st2 b hb
    exact Heap.lt_size e
  have f3 : ∀ b ∈ fp, FpOk X pins (upd H2 D (.lst [])) b ∧ b < s3.heap.objs.size := fun b hb => by
    have hlt := sz b hb
    refine ⟨⟨?_, (f2 b hb).2⟩, by rw [h3, Heap.size_push]; exact Nat.lt_succ_of_lt hlt⟩
    rw [upd_ne (by rw [← hD]; exact Nat.ne_of_lt hlt)]
    exact (f2 b hb).1
  have st3 : tn 0 s3.heap := T.keep _ _ _ st2 fun b _ o e => by rw [h3]; exact Heap.get?_push_of_some _ e
  have I4 := block_start I3 ok hN f3
  have pg := hg s3 (upd H2 D (.lst [])) s3.heap.objs.size (cellsFrom (s3.heap.objs.size + 1) scope.names (cloFrom X.env.cells scope.names [])) fp
  have pt := ht s3 (upd H2 D (.lst [])) s3.heap.objs.size (cellsFrom (s3.heap.objs.size + 1) scope.names (cloFrom X.env.cells scope.names [])) fp
  have pe := he s3 (upd H2 D (.lst [])) s3.heap.objs.size (cellsFrom (s3.heap.objs.size + 1) scope.names (cloFrom X.env.cells scope.names [])) fp
  show codeAny _ _ (.compStart (.ListComp elt [⟨tg, iter, ifs, 0⟩] scope pos) 0 (.ref it) (.ref D) (compEnvC scope (cellsFrom (s3.heap.objs.size + 1) scope.names (cloFrom X.env.cells scope.names [])) s3.heap.objs.size X.env)) (compPost (model X.prog X.w) X.A X.xe use Qf (.ref D) s3.heap.objs.size) { s3 with heap := pushCells (s3.heap.push { cls := .type "dict", data := .dict #[] }) scope.names }
  have nfp : ∀ b ∈ fp, (upd H2 D (.lst [])) b = none := fun b hb => (f3 b hb).1.1
  generalize hce : compEnvC scope (cellsFrom (s3.heap.objs.size + 1) scope.names (cloFrom X.env.cells scope.names [])) s3.heap.objs.size X.env = ce at I4 pg pt pe ⊢
  have cL : ce.locals = s3.heap.objs.size := by subst hce; rfl
  generalize hH3 : upd H2 D (.lst []) = H3 at I3 I4 pg pt pe w0 nfp f3
  generalize hs4 : ({ s3 with heap := pushCells (s3.heap.push { cls := .type "dict", data := .dict #[] }) scope.names } : Shared) = s4 at I4 ⊢
  have st4 : tn 0 s4.heap := T.keep _ _ _ st3 fun b _ o e => by rw [← hs4]; exact pushCells_keeps _ _ _ _ (Heap.get?_push_of_some _ e)
  have stat : ∀ {σ' : St} {H' : Hp} {s' : Shared}, Inv (X.blk s3 H3 scope ce fp) [] σ' H' s' → (∀ b ∈ fp, H' b = none) → ∀ b ∈ fp, FpOk (X.blk s3 H3 scope ce fp) [] H' b := fun {σ' H' s'} I' hn b hb =>
    ⟨hn b hb, (I'.ok.exf b hb).1, I'.ok.exfs b hb, .inl hb, fun x c e => (I'.ok.exf b hb).2 x c e, fun p hp => absurd (show p ∈ ([] : List (Addr × Obj)) ++ [] from hp) (by simp)⟩
  have loop : codeAny (model X.prog X.w) X.A (.compLoop (.ListComp elt [⟨tg, iter, ifs, 0⟩] scope pos) 0 (.ref it) (.ref D) ce) (compPost (model X.prog X.w) X.A X.xe use Qf (.ref D) s3.heap.objs.size) s4 := by
    refine compLoop_any (fun n s' => ∃ i H', Inv (X.blk s3 H3 scope ce fp) [] (wipe σ (own.map (·.2))) H' s' ∧ tn i s'.heap ∧ (∀ b ∈ fp, H' b = none) ∧ W i n H') ?_ m0 ⟨0, H3, I4, st4, nfp, w0⟩
    rintro n s5 ⟨i, H5, I5, st5, n5, w5⟩
    rcases turn i n H5 w5 with ⟨stop, qq⟩ | ⟨go, Nx, hNx, step⟩
    · have td := T.done (X.blk s3 H3 scope ce fp) rfl rfl rfl hc i [] s5 _ H5 (fun _ _ => False) I5 (stat I5 n5) st5 stop
      refine thnF td fun r s6 ⟨hr, I6⟩ => ?_
      subst hr
      -- back in the def's context
      have I7 : Inv X pins σ H5 s6 := I3.call' (ch := fp) I6.os I6.base I6.hok I6.bare fun b hb => ⟨(f3 b hb).1.2.2.2.1, (f3 b hb).1.2.1, (f3 b hb).1.2.2.2.2.1, (f3 b hb).1.2.2.2.2.2⟩
      have nC : H5 s3.heap.objs.size = none := by
        have z : H5 ce.locals = none := I6.free
        rw [cL] at z
        exact z
      obtain ⟨m, hn, _⟩ := I6.loc
      have hn : s6.heap.Ns ce.locals m := hn
      rw [cL] at hn
      exact hRR D s3.heap.objs.size s6 m H5 I7 qq hn (I3.fpOk (Nat.le_refl _) nC)
    · have ti := T.item (X.blk s3 H3 scope ce fp) rfl rfl rfl hc i [] s5 _ H5 (fun _ _ => False) I5 (stat I5 n5) st5 go
      refine thnF ti fun r s6 ⟨u, hr, h6⟩ => ?_
      subst hr
      refine thnF h6 fun _ s7 ⟨x, H7, I7, r7, y7, st7, n7⟩ => ?_
      have I7' := I7.pinned (stat I7 n7) (T.obj _ _ st7)
      refine thnF (pg _ s7 _ H7 x u _ I7' r7 (step x H7 y7)) fun _ s8 ⟨σ8, H8, I8, hw8, q8⟩ => ?_
      refine thnF (pt _ s8 σ8 H8 _ I8 q8) fun b s9 ⟨H9, I9, q9⟩ => ?_
      -- the turn's end
      have fin : ∀ {s' : Shared} {H' : Hp}, Inv (X.blk s3 H3 scope ce fp) ([] ++ pinsAt fp s7.heap) σ8 H' s' → Nx H' → ∃ m, m < n ∧ ∃ i H', Inv (X.blk s3 H3 scope ce fp) [] (wipe σ (own.map (·.2))) H' s' ∧ tn i s'.heap ∧ (∀ b ∈ fp, H' b = none) ∧ W i m H' := fun {s' H'} I' nx => by
        obtain ⟨m', hm, w'⟩ := hNx H' nx
        have pin' : ∀ b ∈ fp, ∀ o, s7.heap.get? b = some o → s'.heap.get? b = some o ∧ H' b = none := fun b hb o e =>
          let z := I'.pin (b, o) (List.mem_append_right _ (List.mem_append_right _ (mem_pinsAt hb e)))
          ⟨z.1, z.2.1⟩
        have hl : (wipe σ (own.map (·.2))).length = σ8.length := by rw [← hw8, wipe_length]
        refine ⟨m', hm, i + 1, H', (I'.unpinned (pins := [])).weak hl (fun j v e => ?_), T.keep _ _ _ st7 fun b hb o e => (pin' b hb o e).1, fun b hb => ?_, w'⟩
        · rw [← hw8] at e
          exact (wipe_some e).1
        · obtain ⟨o, e, _⟩ := T.obj _ _ st7 b hb
          exact (pin' b hb o e).2
      cases b with
      | false =>
        simp only [Bool.false_eq_true, if_false] at q9 ⊢
        exact fin I9 q9
      | true =>
        simp only [if_true] at q9 ⊢
        refine thnF (pe _ s9 σ8 H9 _ I9 q9) fun z s10 ⟨yv, H10, I10, r10, acc, hD10, hz10, nx⟩ => ?_
        exact app_ok (X := X.blk s3 H3 scope ce fp) I10 hD10 hz10 r10 fun s11 I11 => fin I11 nx
  exact codeAny_compStart_list loop (T.self X.A 0 _ _ _ st4 loop)
/-- as a value -/
theorem pe_lc {elt tg iter : Expr} {ifs : List Expr} {scope : Scope} {own : List (Str × Nat)} {pos : Pos} {wi : TI} {g : TG} {tt : TT} {te : TE} (hc : X.calm = true) (hN : X.N.Nodup) (hi : PI X tg iter wi) (ok : BlkOk X.N X.env.scope scope own)
    (hg : ∀ (s : Shared) (H : Hp) (C : Addr) (cl : List (Str × Addr)) (fp : List Addr), PG (X.blk s H scope (compEnvC scope cl C X.env) fp) tg g) (ht : ∀ (s : Shared) (H : Hp) (C : Addr) (cl : List (Str × Addr)) (fp : List Addr), PTs (X.blk s H scope (compEnvC scope cl C X.env) fp) ifs tt)
    (he : ∀ (s : Shared) (H : Hp) (C : Addr) (cl : List (Str × Addr)) (fp : List Addr), PE (X.blk s H scope (compEnvC scope cl C X.env) fp) elt te) (hs : ∀ x, foldedSetIterable iter X.env x = pure x := by intro _; rfl) :
    PE X (.ListComp elt [⟨tg, iter, ifs, 0⟩] scope pos) (tLc wi g tt te (own.map (·.2))) := by
  intro pins s σ H Q I h
  rw [eval_ListComp]
  refine lc_core hc hN I hi ok hg ht he hs h fun D C s' m H' I' q hn f => ⟨m, hn, fun h'' sb => ?_⟩
  obtain ⟨f0, f1, f2, f3, f4, f5⟩ := f
  exact ⟨.ref D, H', I'.turned (t' := s'.toks) (fun b o hb e => (sb.2 b hb).trans e) f0 f1 f3 f4 f5, rfl, q⟩
/-- name = [..] on one line, the name a local -/
theorem ps_setLc {i : Nat} {y : Str} {py : Pos} {elt tg iter : Expr} {ifs : List Expr} {scope : Scope} {own : List (Str × Nat)} {pos spos : Pos} {wi : TI} {g : TG} {tt : TT} {te : TE} (hc : X.calm = true) (hN : X.N.Nodup) (hy : X.N[i]? = some y) (hyl : X.env.scope.names.lookup y = some .local)
    (hsw : swapsWith (.ListComp elt [⟨tg, iter, ifs, 0⟩] scope pos) (some (.Name y py)) spos.line X.env = pure true) (hi : PI X tg iter wi) (ok : BlkOk X.N X.env.scope scope own)
    (hg : ∀ (s : Shared) (H : Hp) (C : Addr) (cl : List (Str × Addr)) (fp : List Addr), PG (X.blk s H scope (compEnvC scope cl C X.env) fp) tg g) (ht : ∀ (s : Shared) (H : Hp) (C : Addr) (cl : List (Str × Addr)) (fp : List Addr), PTs (X.blk s H scope (compEnvC scope cl C X.env) fp) ifs tt)
    (he : ∀ (s : Shared) (H : Hp) (C : Addr) (cl : List (Str × Addr)) (fp : List Addr), PE (X.blk s H scope (compEnvC scope cl C X.env) fp) elt te) (hs : ∀ x, foldedSetIterable iter X.env x = pure x := by intro _; rfl) :
    PS X (.Assign [.Name y py] (.ListComp elt [⟨tg, iter, ifs, 0⟩] scope pos) spos) (tAsg (tLc wi g tt te (own.map (·.2))) (gName i)) := by
  intro pins s σ H D I h
  rw [exec_Assign_Name_used _ _ _ _ hsw]
  refine wpAny_bind (wpAny_standAt (wpAny_bind ?_))
  show wpAny _ X.A (do let _ ← comprehension (.ListComp elt [⟨tg, iter, ifs, 0⟩] scope pos) scope X.env (firstIterPos [⟨tg, iter, ifs, 0⟩] pos) (newList []) false (eval iter X.env) (some (assign (.Name y py) X.env))) _ _ s
  have h : tLc wi g tt te (own.map (·.2)) σ H (fun x H1 => gName i x σ H1 D.nx) := h
  refine wpAny_bind (thn (lc_core (Qf := fun _ s' => SP X pins D .next s') hc hN I hi ok hg ht he hs h fun L C s' m H' I' q hn f => ?_) fun _ s' hq => wpAny_pure (wpAny_pure hq))
  show wpAny _ _ (assign (.Name y py) X.env (.ref L)) _ _ _
  refine wpAny_assign_Name (store_ok2 (v := V.ref L) I' hN hy (.inl hyl) rfl (fun s2 I2 ⟨a, sb, ha⟩ => ?_) (.inr hyl))
  obtain ⟨f0, f1, f2, f3, f4, f5⟩ := f
  have haC : C ≠ a := by
    rcases ha with z | z
    · rw [z]; exact f1
    · exact fun e => f4 y a z e.symm
  refine ⟨m, hn.sameBut sb haC, fun h3 sb3 => ?_⟩
  exact ⟨_, H', I2.turned (t' := s2.toks) (fun b o hb e => (sb3.2 b hb).trans e) f0 f1 f3 f4 f5, q⟩
theorem sw_true {elt : Expr} {gs : List Comprehension} {scope : Scope} {pos py : Pos} {y : Str} {l : Nat} {env : Env} (hk : env.scope.kind = .function) (hy : env.scope.names.lookup y = some .local) (hl : (py.line == pos.line) = true)
    (ha : (scope.names.any fun (n, k) => n == y && (k == .local || k == .cell)) = false) : swapsWith (.ListComp elt gs scope pos) (some (.Name y py)) l env = pure true := by
  have ky : env.kindOf y = some .local := hy
  have hb : env.blockKind = .function := by unfold Env.blockKind; rw [hk]; rfl
  unfold swapsWith
  simp only [hb, ky, ha, Expr.pos, hl]
  rfl
end

/-! ### the forms one uses -/
/-- over a range: Pv by the turn and the heap (the new list at D within) -/
theorem lc_range {lo : Int} {n : Nat} {g : TG} {tt : TT} {te : TE} {vs : List Nat} {σ : St} {H1 : Hp} {D : Addr} {Qd : Hp → Prop} (Pv : Nat → Hp → Prop) (h0 : Pv 0 (upd H1 D (.lst [])))
    (hs : ∀ i H, i < n → Pv i H → g (.int (lo + i)) (wipe σ vs) H fun σ2 H2 => wipe σ2 vs = wipe σ vs ∧ tt σ2 H2 fun b H3 =>
      if b = true then te σ2 H3 fun y H4 => ∃ acc, H4 D = some (.lst acc) ∧ acc.length < sizeLine ∧ Pv (i + 1) (upd H4 D (.lst (acc ++ [y]))) else Pv (i + 1) H3) (hd : ∀ H, Pv n H → Qd H) :
    ∃ W : Nat → Nat → Hp → Prop, (∃ m, W 0 m (upd H1 D (.lst []))) ∧ ∀ i m H, W i m H →
      ((Itr lo n).stop i H ∧ Qd H) ∨ ((Itr lo n).go i H ∧ ∃ Nx : Hp → Prop, (∀ H', Nx H' → ∃ m', m' < m ∧ W (i + 1) m' H') ∧ ∀ x H', (Itr lo n).yld i H x H' → g x (wipe σ vs) H' fun σ2 H2 => wipe σ2 vs = wipe σ vs ∧ tt σ2 H2 fun b H3 =>
        if b = true then te σ2 H3 fun y H4 => ∃ acc, H4 D = some (.lst acc) ∧ acc.length < sizeLine ∧ Nx (upd H4 D (.lst (acc ++ [y]))) else Nx H3) := by
  refine ⟨fun i m H => m = n - i ∧ i ≤ n ∧ Pv i H, ⟨n, by simp, Nat.zero_le _, h0⟩, ?_⟩
  rintro i m H ⟨rfl, hi, p⟩
  by_cases hlt : i < n
  · refine .inr ⟨hlt, Pv (i + 1), fun H' p' => ⟨n - (i + 1), by omega, rfl, hlt, p'⟩, fun x H' y => ?_⟩
    obtain ⟨e, y⟩ := y
    subst e y
    exact hs i _ hlt p
  · have e : i = n := by omega
    subst e
    exact .inl ⟨Nat.le_refl _, hd H p⟩
/-- over a list that the block leaves as it is -/
theorem lc_list {K : PySem.W.Frag} {a : Addr} {xs : List V} {g : TG} {tt : TT} {te : TE} {vs : List Nat} {σ : St} {H1 : Hp} {D : Addr} {Qd : Hp → Prop} (Pv : Nat → Hp → Prop) (h0 : Pv 0 (upd H1 D (.lst []))) (hl : ∀ i H, i ≤ xs.length → Pv i H → SqL K H a xs)
    (hs : ∀ i x H, xs[i]? = some x → Pv i H → g x (wipe σ vs) H fun σ2 H2 => wipe σ2 vs = wipe σ vs ∧ tt σ2 H2 fun b H3 =>
      if b = true then te σ2 H3 fun y H4 => ∃ acc, H4 D = some (.lst acc) ∧ acc.length < sizeLine ∧ Pv (i + 1) (upd H4 D (.lst (acc ++ [y]))) else Pv (i + 1) H3) (hd : ∀ H, Pv xs.length H → Qd H) :
    ∃ W : Nat → Nat → Hp → Prop, (∃ m, W 0 m (upd H1 D (.lst []))) ∧ ∀ i m H, W i m H →
      ((Itl K a).stop i H ∧ Qd H) ∨ ((Itl K a).go i H ∧ ∃ Nx : Hp → Prop, (∀ H', Nx H' → ∃ m', m' < m ∧ W (i + 1) m' H') ∧ ∀ x H', (Itl K a).yld i H x H' → g x (wipe σ vs) H' fun σ2 H2 => wipe σ2 vs = wipe σ vs ∧ tt σ2 H2 fun b H3 =>
        if b = true then te σ2 H3 fun y H4 => ∃ acc, H4 D = some (.lst acc) ∧ acc.length < sizeLine ∧ Nx (upd H4 D (.lst (acc ++ [y]))) else Nx H3) := by
  refine ⟨fun i m H => m = xs.length - i ∧ i ≤ xs.length ∧ Pv i H, ⟨xs.length, by simp, Nat.zero_le _, h0⟩, ?_⟩
  rintro i m H ⟨rfl, hi, p⟩
  have q := hl i H hi p
  by_cases hlt : i < xs.length
  · refine .inr ⟨⟨xs, xs[i], q, by simp [hlt]⟩, Pv (i + 1), fun H' p' => ⟨xs.length - (i + 1), by omega, rfl, hlt, p'⟩, fun x H' y => ?_⟩
    obtain ⟨e, y⟩ := y
    subst e
    exact hs i x _ (y xs q) p
  · have e : i = xs.length := by omega
    subst e
    exact .inl ⟨⟨xs, q, Nat.le_refl _⟩, hd H p⟩
/-- over a tuple -/
theorem lc_tup {K : PySem.W.Frag} {a : Addr} {xs : List V} {g : TG} {tt : TT} {te : TE} {vs : List Nat} {σ : St} {H1 : Hp} {D : Addr} {Qd : Hp → Prop} (Pv : Nat → Hp → Prop) (h0 : Pv 0 (upd H1 D (.lst []))) (hl : ∀ i H, i ≤ xs.length → Pv i H → SqT K H a xs)
    (hs : ∀ i x H, xs[i]? = some x → Pv i H → g x (wipe σ vs) H fun σ2 H2 => wipe σ2 vs = wipe σ vs ∧ tt σ2 H2 fun b H3 =>
      if b = true then te σ2 H3 fun y H4 => ∃ acc, H4 D = some (.lst acc) ∧ acc.length < sizeLine ∧ Pv (i + 1) (upd H4 D (.lst (acc ++ [y]))) else Pv (i + 1) H3) (hd : ∀ H, Pv xs.length H → Qd H) :
    ∃ W : Nat → Nat → Hp → Prop, (∃ m, W 0 m (upd H1 D (.lst []))) ∧ ∀ i m H, W i m H →
      ((Itt K a).stop i H ∧ Qd H) ∨ ((Itt K a).go i H ∧ ∃ Nx : Hp → Prop, (∀ H', Nx H' → ∃ m', m' < m ∧ W (i + 1) m' H') ∧ ∀ x H', (Itt K a).yld i H x H' → g x (wipe σ vs) H' fun σ2 H2 => wipe σ2 vs = wipe σ vs ∧ tt σ2 H2 fun b H3 =>
        if b = true then te σ2 H3 fun y H4 => ∃ acc, H4 D = some (.lst acc) ∧ acc.length < sizeLine ∧ Nx (upd H4 D (.lst (acc ++ [y]))) else Nx H3) := by
  refine ⟨fun i m H => m = xs.length - i ∧ i ≤ xs.length ∧ Pv i H, ⟨xs.length, by simp, Nat.zero_le _, h0⟩, ?_⟩
  rintro i m H ⟨rfl, hi, p⟩
  have q := hl i H hi p
  by_cases hlt : i < xs.length
  · refine .inr ⟨⟨xs, xs[i], q, by simp [hlt]⟩, Pv (i + 1), fun H' p' => ⟨xs.length - (i + 1), by omega, rfl, hlt, p'⟩, fun x H' y => ?_⟩
    obtain ⟨e, y⟩ := y
    subst e
    exact hs i x _ (y xs q) p
  · have e : i = xs.length := by omega
    subst e
    exact .inl ⟨⟨xs, q, Nat.le_refl _⟩, hd H p⟩
def blkC (N : List Str) (sc scope : Scope) (own : List (Str × Nat)) : Bool :=
  (match scope.kind with | .function => true | _ => false) && (scope.names.all fun y => decide (scope.names.lookup y.1 = some y.2)) && (own.all fun p => decide (N[p.2]? = some p.1)) &&
    (scope.names.all fun y => match y.2 with
      | .free => (match sc.names.lookup y.1 with | some .cell => true | some .free => true | _ => false)
      | .local => decide (y.1 ∈ own.map (·.1)) || decide (y.1 ∉ N)
      | .cell => decide (y.1 ∈ own.map (·.1)) || decide (y.1 ∉ N)
      | _ => true)
theorem blkOk_by {N : List Str} {sc scope : Scope} {own : List (Str × Nat)} (h : blkC N sc scope own = true) : BlkOk N sc scope own := by
  unfold blkC at h
  simp only [Bool.and_eq_true, List.all_eq_true, decide_eq_true_eq] at h
  obtain ⟨⟨⟨h1, h2⟩, h3⟩, h4⟩ := h
  refine ⟨?_, h2, h3, fun y hy e => ?_, fun y hy e => ?_⟩
  · split at h1
    · assumption
    · cases h1
  · have q := h4 y hy
    simp only [e] at q
    split at q <;> first | exact .inl (by assumption) | exact .inr (by assumption) | cases q
  · have q := h4 y hy
    rcases e with e | e <;> (simp only [e, Bool.or_eq_true, decide_eq_true_eq] at q; exact q)
end L2

namespace L2
open PySem PySem.Spec PyProof.Rows

theorem compTurn2_out (elt t0 i0 t1 i1 : Expr) (ifs0 ifs1 : List Expr) (scope : Scope) (pos : Pos) (it acc : Value) (env : Env) :
    compTurn (.ListComp elt [⟨t0, i0, ifs0, 0⟩, ⟨t1, i1, ifs1, 0⟩] scope pos) 0 it acc env = (do
      standAt i0.pos
      match ← pyNext it with
      | none => pure (.done .next)
      | some v =>
        letOwnedTupleGo t0 it v
        assign t0 env v
        let mut ok := true
        for c in ifs0 do
          if ok then ok ← isTrue c env (eval c env)
        if ok then
          let x ← eval i1 env
          standAt i1.pos
          let x ← foldedSetIterable i1 env x
          let _ ← runOwn (.compStart (.ListComp elt [⟨t0, i0, ifs0, 0⟩, ⟨t1, i1, ifs1, 0⟩] scope pos) 1 (← holding [x] (pyIter x)) acc env) env
        again (.compLoop (.ListComp elt [⟨t0, i0, ifs0, 0⟩, ⟨t1, i1, ifs1, 0⟩] scope pos) 0 it acc env)) := by rfl
theorem compTurn2_in (elt t0 i0 t1 i1 : Expr) (ifs0 ifs1 : List Expr) (scope : Scope) (pos : Pos) (it acc : Value) (env : Env) :
    compTurn (.ListComp elt [⟨t0, i0, ifs0, 0⟩, ⟨t1, i1, ifs1, 0⟩] scope pos) 1 it acc env = (do
      standAt i1.pos
      match ← pyNext it with
      | none => pure (.done .next)
      | some v =>
        letOwnedTupleGo t1 it v
        assign t1 env v
        let mut ok := true
        for c in ifs1 do
          if ok then ok ← isTrue c env (eval c env)
        if ok then
          (do let _ ← call (.builtin "list.append") [acc, ← eval elt env])
        again (.compLoop (.ListComp elt [⟨t0, i0, ifs0, 0⟩, ⟨t1, i1, ifs1, 0⟩] scope pos) 1 it acc env)) := by rfl

section
variable {prog : Program} {w : World} {A : Around} {R : Result → Shared → Prop} {s : Shared} {elt t0 i0 t1 i1 : Expr} {ifs0 ifs1 : List Expr} {scope : Scope} {pos : Pos} {it acc : Value} {env : Env}
/-- the loop of the first clause -/
theorem compLoop2_out (hs : ∀ x, foldedSetIterable i1 env x = pure x) (I : Nat → Shared → Prop)
    (turn : ∀ n s, I n s → wpAny (model prog w) A (pyNext it) (fun r s₁ => match r with
      | none => R (.ok .next) s₁
      | some v => wpAny (model prog w) A (letOwnedTupleGo t0 it v) (fun _ s₁' => wpAny (model prog w) A (assign t0 env v) (fun _ s₂ =>
          wpAny (model prog w) A (forIn ifs0 true fun c r => if r = true then do let ok ← isTrue c env (eval c env); pure (ForInStep.yield ok) else pure (ForInStep.yield r)) (fun ok s₃ =>
            if ok = true then wpAny (model prog w) A (eval i1 env) (fun x s₄ => wpAny (model prog w) A (pyIter x) (fun it1 s₅ =>
              codeAny (model prog w) A (.compStart (.ListComp elt [⟨t0, i0, ifs0, 0⟩, ⟨t1, i1, ifs1, 0⟩] scope pos) 1 it1 acc env) (fun r s' => match r with
                | .ok _ => ∃ m, m < n ∧ I m s'
                | .error _ => False) s₅) (notedBy (model prog w) A env fun e s' => R (.error e) s') s₄) (notedBy (model prog w) A env fun e s' => R (.error e) s') s₃
            else ∃ m, m < n ∧ I m s₃) (notedBy (model prog w) A env fun e s' => R (.error e) s') s₂) (notedBy (model prog w) A env fun e s' => R (.error e) s') s₁') (notedBy (model prog w) A env fun e s' => R (.error e) s') s₁) (notedBy (model prog w) A env fun e s' => R (.error e) s') s)
    (n : Nat) (h : I n s) :
    codeAny (model prog w) A (.compLoop (.ListComp elt [⟨t0, i0, ifs0, 0⟩, ⟨t1, i1, ifs1, 0⟩] scope pos) 0 it acc env) R s := by
  refine codeAny_loop rfl I (fun n s hI => ?_) n h
  show wpAny _ A ((compTurn (.ListComp elt [⟨t0, i0, ifs0, 0⟩, ⟨t1, i1, ifs1, 0⟩] scope pos) 0 it acc env).onRaise (fun x => do noteFrame x env; theTreesLotGoes x)) _ _ s
  refine wpAny_noted ?_
  rw [compTurn2_out]
  refine wpAny_bind (wpAny_standAt (wpAny_bind (wpAny_mono (turn n s hI) (fun r s₁ h₁ => ?_) fun _ _ h' => h')))
  cases r with
  | none => exact wpAny_pure h₁
  | some v =>
    refine wpAny_bind (wpAny_mono h₁ (fun _ s₁' h₁' => ?_) fun _ _ h' => h')
    refine wpAny_bind (wpAny_mono h₁' (fun _ s₂ h₂ => wpAny_bind (wpAny_mono h₂ (fun ok s₃ h₃ => ?_) fun _ _ h' => h')) fun _ _ h' => h')
    cases ok with
    | false => exact wpAny_pure ⟨rfl, h₃⟩
    | true =>
      refine wpAny_bind (wpAny_mono h₃ (fun x s₄ h₄ => ?_) fun _ _ h' => h')
      refine wpAny_bind (wpAny_standAt (wpAny_bind (wpAny_of_eq (hs x) (wpAny_bind (wpAny_holding (wpAny_mono h₄ (fun it1 s₅ h₅ => ?_) fun _ _ h' => h'))))))
      refine wpAny_bind (wpAny_runOwn ?_)
      rw [Around.mark_none]
      refine codeAny_mono h₅ fun r s' hr => ?_
      cases r with
      | ok f =>
        first
          | exact wpAny_pure ⟨rfl, hr⟩
          | exact wpAny_bind (wpAny_pure (wpAny_pure ⟨rfl, hr⟩))
      | error e => exact hr.elim
/-- the loop of the second -/
theorem compLoop2_in (I : Nat → Shared → Prop)
    (turn : ∀ n s, I n s → wpAny (model prog w) A (pyNext it) (fun r s₁ => match r with
      | none => R (.ok .next) s₁
      | some v => wpAny (model prog w) A (letOwnedTupleGo t1 it v) (fun _ s₁' => wpAny (model prog w) A (assign t1 env v) (fun _ s₂ =>
          wpAny (model prog w) A (forIn ifs1 true fun c r => if r = true then do let ok ← isTrue c env (eval c env); pure (ForInStep.yield ok) else pure (ForInStep.yield r)) (fun ok s₃ =>
            if ok = true then wpAny (model prog w) A (eval elt env) (fun x s₄ =>
              wpAny (model prog w) A (call (.builtin "list.append") [acc, x]) (fun _ s₅ => ∃ m, m < n ∧ I m s₅) (notedBy (model prog w) A env fun e s' => R (.error e) s') s₄) (notedBy (model prog w) A env fun e s' => R (.error e) s') s₃
            else ∃ m, m < n ∧ I m s₃) (notedBy (model prog w) A env fun e s' => R (.error e) s') s₂) (notedBy (model prog w) A env fun e s' => R (.error e) s') s₁') (notedBy (model prog w) A env fun e s' => R (.error e) s') s₁) (notedBy (model prog w) A env fun e s' => R (.error e) s') s)
    (n : Nat) (h : I n s) :
    codeAny (model prog w) A (.compLoop (.ListComp elt [⟨t0, i0, ifs0, 0⟩, ⟨t1, i1, ifs1, 0⟩] scope pos) 1 it acc env) R s := by
  refine codeAny_loop rfl I (fun n s hI => ?_) n h
  show wpAny _ A ((compTurn (.ListComp elt [⟨t0, i0, ifs0, 0⟩, ⟨t1, i1, ifs1, 0⟩] scope pos) 1 it acc env).onRaise (fun x => do noteFrame x env; theTreesLotGoes x)) _ _ s
  refine wpAny_noted ?_
  rw [compTurn2_in]
  refine wpAny_bind (wpAny_standAt (wpAny_bind (wpAny_mono (turn n s hI) (fun r s₁ h₁ => ?_) fun _ _ h' => h')))
  cases r with
  | none => exact wpAny_pure h₁
  | some v =>
    refine wpAny_bind (wpAny_mono h₁ (fun _ s₁' h₁' => ?_) fun _ _ h' => h')
    refine wpAny_bind (wpAny_mono h₁' (fun _ s₂ h₂ => wpAny_bind (wpAny_mono h₂ (fun ok s₃ h₃ => ?_) fun _ _ h' => h')) fun _ _ h' => h')
    cases ok with
    | false => exact wpAny_pure ⟨rfl, h₃⟩
    | true =>
      exact wpAny_bind (wpAny_bind (wpAny_mono h₃ (fun x s₄ h₄ => wpAny_bind (wpAny_mono h₄ (fun _ s₅ h₅ => wpAny_pure (wpAny_pure ⟨rfl, h₅⟩)) fun _ _ h' => h')) fun _ _ h' => h'))
/-- the second clause's start -/
theorem compStart1_ok (h0 : codeAny (model prog w) A (.compLoop (.ListComp elt [⟨t0, i0, ifs0, 0⟩, ⟨t1, i1, ifs1, 0⟩] scope pos) 1 it acc env) R s)
    (h : wpAny (model prog w) A (pyIter it) (fun it' s' => codeAny (model prog w) A (.compLoop (.ListComp elt [⟨t0, i0, ifs0, 0⟩, ⟨t1, i1, ifs1, 0⟩] scope pos) 1 it' acc env) R s')
      (notedBy (model prog w) A env fun x s' => R (.error x) s') s) :
    codeAny (model prog w) A (.compStart (.ListComp elt [⟨t0, i0, ifs0, 0⟩, ⟨t1, i1, ifs1, 0⟩] scope pos) 1 it acc env) R s := by
  refine codeAny_of_tree ?_
  show wpAny _ _ ((compStart (.ListComp elt [⟨t0, i0, ifs0, 0⟩, ⟨t1, i1, ifs1, 0⟩] scope pos) 1 it acc env).onRaise (fun x => do noteFrame x env; standAt theWindowsPlace)) _ _ s
  refine wpAny_notedAt ?_
  unfold compStart
  show wpAny _ _ (ask >>= _) _ _ s
  refine wpAny_bind (wpAny_askSetting (wpAny_ite ?_))
  split
  · first
      | exact wpAny_bind (wpAny_pure (wpAny_pure (And.intro rfl h0)))
      | exact wpAny_pure (And.intro rfl h0)
  · first
      | exact wpAny_bind (wpAny_rule (wpAny_bind (wpAny_standAt (wpAny_bind (wpAny_mono h (fun it' s' h' => wpAny_pure (And.intro rfl h')) fun _ _ x => x)))))
      | (refine wpAny_bind (wpAny_rule ?_); show wpAny _ _ (standAt i1.pos >>= _) _ _ s; exact wpAny_bind (wpAny_standAt (wpAny_bind (wpAny_mono h (fun it' s' h' => wpAny_pure (And.intro rfl h')) fun _ _ x => x))))
end

theorem wipe_out {σ : St} {i : Nat} : ∀ {vs : List Nat}, i ∉ vs → (wipe σ vs)[i]? = σ[i]?
  | [], _ => rfl
  | v :: vs, h => by
    have h1 : v ≠ i := fun e => h (by rw [e]; exact List.mem_cons_self)
    have h2 : i ∉ vs := fun m => h (List.mem_cons_of_mem _ m)
    unfold wipe
    rw [List.getElem?_set_ne h1]
    exact wipe_out h2
section
variable {X : Cx}
/-- [elt for tg in iter if .. for tg1 in iter1 if ..]: behind the first clause's store and tests the second source's own loop, from which Nx is reached. vs: the block's names; vs1: those of the second target -/
def tLc2 (wi : TI) (g : TG) (tt : TT) (wi1 : TI) (g1 : TG) (tt1 : TT) (te : TE) (vs vs1 : List Nat) : TE := fun σ H Q => wi σ H fun J H1 => ∀ D, H1 D = none → ∃ W : Nat → Nat → Hp → Prop, (∃ m, W 0 m (upd H1 D (.lst []))) ∧ ∀ i m H, W i m H →
  (J.stop i H ∧ Q (.ref D) H) ∨ (J.go i H ∧ ∃ Nx : Hp → Prop, (∀ H', Nx H' → ∃ m', m' < m ∧ W (i + 1) m' H') ∧ ∀ x H', J.yld i H x H' → g x (wipe σ vs) H' fun σ2 H2 => wipe σ2 vs = wipe σ vs ∧ tt σ2 H2 fun b H3 =>
    if b = true then wi1 σ2 H3 fun J1 H4 => ∃ W1 : Nat → Nat → Hp → Prop, (∃ m, W1 0 m H4) ∧ ∀ j k H, W1 j k H →
      (J1.stop j H ∧ Nx H) ∨ (J1.go j H ∧ ∃ Nx1 : Hp → Prop, (∀ H', Nx1 H' → ∃ k', k' < k ∧ W1 (j + 1) k' H') ∧ ∀ x H', J1.yld j H x H' → g1 x (wipe σ2 vs1) H' fun σ3 H5 => wipe σ3 vs1 = wipe σ2 vs1 ∧ tt1 σ3 H5 fun b H6 =>
        if b = true then te σ3 H6 fun y H7 => ∃ acc, H7 D = some (.lst acc) ∧ acc.length < sizeLine ∧ Nx1 (upd H7 D (.lst (acc ++ [y]))) else Nx1 H6)
    else Nx H3)
theorem lc2_core {pins : List (Addr × Obj)} {s : Shared} {σ : St} {H : Hp} {Q : VK} {elt tg iter tg1 iter1 : Expr} {ifs ifs1 : List Expr} {scope : Scope} {own : List (Str × Nat)} {vs1 : List Nat} {pos pos' : Pos} {wi wi1 : TI} {g g1 : TG} {tt tt1 : TT} {te : TE} {use : Option (Value → Sem Unit)} {Qf : Value → Shared → Prop}
    (hc : X.calm = true) (hN : X.N.Nodup) (I : Inv X pins σ H s) (hi : PI X tg iter wi) (ok : BlkOk X.N X.env.scope scope own) (hv : ∀ i ∈ vs1, i ∈ own.map (·.2))
    (hg : ∀ (s : Shared) (H : Hp) (C : Addr) (cl : List (Str × Addr)) (fp : List Addr), PG (X.blk s H scope (compEnvC scope cl C X.env) fp) tg g) (ht : ∀ (s : Shared) (H : Hp) (C : Addr) (cl : List (Str × Addr)) (fp : List Addr), PTs (X.blk s H scope (compEnvC scope cl C X.env) fp) ifs tt)
    (he : ∀ (s : Shared) (H : Hp) (C : Addr) (cl : List (Str × Addr)) (fp : List Addr), PE (X.blk s H scope (compEnvC scope cl C X.env) fp) elt te) (hs : ∀ x, foldedSetIterable iter X.env x = pure x)
    (hi1 : ∀ (s : Shared) (H : Hp) (C : Addr) (cl : List (Str × Addr)) (fp : List Addr), PI (X.blk s H scope (compEnvC scope cl C X.env) fp) tg1 iter1 wi1)
    (hg1 : ∀ (s : Shared) (H : Hp) (C : Addr) (cl : List (Str × Addr)) (fp : List Addr), PG (X.blk s H scope (compEnvC scope cl C X.env) fp) tg1 g1)
    (ht1 : ∀ (s : Shared) (H : Hp) (C : Addr) (cl : List (Str × Addr)) (fp : List Addr), PTs (X.blk s H scope (compEnvC scope cl C X.env) fp) ifs1 tt1)
    (hs1 : ∀ env x, foldedSetIterable iter1 env x = pure x)
    (h : tLc2 wi g tt wi1 g1 tt1 te (own.map (·.2)) vs1 σ H Q)
    (hRR : ∀ D C s' m H', Inv X pins σ H' s' → Q (.ref D) H' → s'.heap.Ns C m → FpOk X pins H' C → compPost (model X.prog X.w) X.A X.xe use Qf (.ref D) C (.ok .next) s') :
    wpAny (model X.prog X.w) X.A (comprehension (.ListComp elt [⟨tg, iter, ifs, 0⟩, ⟨tg1, iter1, ifs1, 0⟩] scope pos) scope X.env pos' (newList []) false (eval iter X.env) use) Qf X.xe s := by
  have hfree : ∀ y ∈ scope.names, y.2 = .free → ∃ c, X.env.cells.lookup y.1 = some c := fun y hy e => by
    rcases ok.free y hy e with k | k
    · exact I.ok.has _ (.inl k)
    · exact I.ok.has _ (.inr k)
  refine wpAny_comprehension_free (use := use) rfl hs (closure_ok hfree) ok.kind (fun y hy e => by rw [ok.uniq y hy, e])
    (thn (hi pins s σ H _ I h) fun xv s1 hx => thn hx fun itv s2 h2 => ?_)
  obtain ⟨it, fp, tn, J, H2, e, I2, T, st2, f2, q⟩ := h2
  subst e
  refine wpAny_newObj_type (newEnv_comp ?_) (by show 0 ≤ sizeLine; decide)
  generalize hD : s2.heap.objs.size = D
  have hDn : H2 D = none := I2.hok.fresh (Nat.le_of_eq hD)
  obtain ⟨W, ⟨m0, w0⟩, turn⟩ := q D hDn
  -- the new list
  generalize hs3 : ({ s2 with heap := s2.heap.push { cls := .type "list", data := .seq ([] : List Value).toArray } } : Shared) = s3
  have I3 : Inv X pins σ (upd H2 D (.lst [])) s3 := by
    rw [← hs3]
    refine I2.laid (t' := s2.toks) (fun b o e => Heap.get?_push_of_some _ e) (Nat.le_of_eq hD) ⟨Nat.zero_le _, [], 0, .nil, ?_⟩
    rw [← hD]
    exact Heap.get?_push_size _ rfl
  have h3 : s3.heap = s2.heap.push { cls := .type "list", data := .seq ([] : List Value).toArray } := by rw [← hs3]
  have sz : ∀ b ∈ fp, b < s2.heap.objs.size := fun b hb => by
    obtain ⟨o, e, _⟩ := T.obj _ _ st2 b hb
    exact Heap.lt_size e
  have f3 : ∀ b ∈ fp, FpOk X pins (upd H2 D (.lst [])) b ∧ b < s3.heap.objs.size := fun b hb => by
    have hlt := sz b hb
    refine ⟨⟨?_, (f2 b hb).2⟩, by rw [h3, Heap.size_push]; exact Nat.lt_succ_of_lt hlt⟩
    rw [upd_ne (by rw [← hD]; exact Nat.ne_of_lt hlt)]
    exact (f2 b hb).1
  have st3 : tn 0 s3.heap := T.keep _ _ _ st2 fun b _ o e => by rw [h3]; exact Heap.get?_push_of_some _ e
  have I4 := block_start I3 ok hN f3
  have pg := hg s3 (upd H2 D (.lst [])) s3.heap.objs.size (cellsFrom (s3.heap.objs.size + 1) scope.names (cloFrom X.env.cells scope.names [])) fp
  have pt := ht s3 (upd H2 D (.lst [])) s3.heap.objs.size (cellsFrom (s3.heap.objs.size + 1) scope.names (cloFrom X.env.cells scope.names [])) fp
  have pe := he s3 (upd H2 D (.lst [])) s3.heap.objs.size (cellsFrom (s3.heap.objs.size + 1) scope.names (cloFrom X.env.cells scope.names [])) fp
  have pi1 := hi1 s3 (upd H2 D (.lst [])) s3.heap.objs.size (cellsFrom (s3.heap.objs.size + 1) scope.names (cloFrom X.env.cells scope.names [])) fp
  have pg1 := hg1 s3 (upd H2 D (.lst [])) s3.heap.objs.size (cellsFrom (s3.heap.objs.size + 1) scope.names (cloFrom X.env.cells scope.names [])) fp
  have pt1 := ht1 s3 (upd H2 D (.lst [])) s3.heap.objs.size (cellsFrom (s3.heap.objs.size + 1) scope.names (cloFrom X.env.cells scope.names [])) fp
  show codeAny _ _ (.compStart (.ListComp elt [⟨tg, iter, ifs, 0⟩, ⟨tg1, iter1, ifs1, 0⟩] scope pos) 0 (.ref it) (.ref D) (compEnvC scope (cellsFrom (s3.heap.objs.size + 1) scope.names (cloFrom X.env.cells scope.names [])) s3.heap.objs.size X.env)) (compPost (model X.prog X.w) X.A X.xe use Qf (.ref D) s3.heap.objs.size) { s3 with heap := pushCells (s3.heap.push { cls := .type "dict", data := .dict #[] }) scope.names }
  have nfp : ∀ b ∈ fp, (upd H2 D (.lst [])) b = none := fun b hb => (f3 b hb).1.1
  generalize hce : compEnvC scope (cellsFrom (s3.heap.objs.size + 1) scope.names (cloFrom X.env.cells scope.names [])) s3.heap.objs.size X.env = ce at I4 pg pt pe pi1 pg1 pt1 ⊢
  have cL : ce.locals = s3.heap.objs.size := by subst hce; rfl
  generalize hH3 : upd H2 D (.lst []) = H3 at I3 I4 pg pt pe pi1 pg1 pt1 w0 nfp f3
  generalize hs4 : ({ s3 with heap := pushCells (s3.heap.push { cls := .type "dict", data := .dict #[] }) scope.names } : Shared) = s4 at I4 ⊢
  have st4 : tn 0 s4.heap := T.keep _ _ _ st3 fun b _ o e => by rw [← hs4]; exact pushCells_keeps _ _ _ _ (Heap.get?_push_of_some _ e)
  have stat : ∀ {σ' : St} {H' : Hp} {s' : Shared}, Inv (X.blk s3 H3 scope ce fp) [] σ' H' s' → (∀ b ∈ fp, H' b = none) → ∀ b ∈ fp, FpOk (X.blk s3 H3 scope ce fp) [] H' b := fun {σ' H' s'} I' hn b hb =>
    ⟨hn b hb, (I'.ok.exf b hb).1, I'.ok.exfs b hb, .inl hb, fun x c e => (I'.ok.exf b hb).2 x c e, fun p hp => absurd (show p ∈ ([] : List (Addr × Obj)) ++ [] from hp) (by simp)⟩
  have loop : codeAny (model X.prog X.w) X.A (.compLoop (.ListComp elt [⟨tg, iter, ifs, 0⟩, ⟨tg1, iter1, ifs1, 0⟩] scope pos) 0 (.ref it) (.ref D) ce) (compPost (model X.prog X.w) X.A X.xe use Qf (.ref D) s3.heap.objs.size) s4 := by
    refine compLoop2_out (hs1 ce) (fun n s' => ∃ i H', Inv (X.blk s3 H3 scope ce fp) [] (wipe σ (own.map (·.2))) H' s' ∧ tn i s'.heap ∧ (∀ b ∈ fp, H' b = none) ∧ W i n H') ?_ m0 ⟨0, H3, I4, st4, nfp, w0⟩
    rintro n s5 ⟨i, H5, I5, st5, n5, w5⟩
    rcases turn i n H5 w5 with ⟨stop, qq⟩ | ⟨go, Nx, hNx, step⟩
    · have td := T.done (X.blk s3 H3 scope ce fp) rfl rfl rfl hc i [] s5 _ H5 (fun _ _ => False) I5 (stat I5 n5) st5 stop
      refine thnF td fun r s6 ⟨hr, I6⟩ => ?_
      subst hr
      -- back in the def's context
      have I7 : Inv X pins σ H5 s6 := I3.call' (ch := fp) I6.os I6.base I6.hok I6.bare fun b hb => ⟨(f3 b hb).1.2.2.2.1, (f3 b hb).1.2.1, (f3 b hb).1.2.2.2.2.1, (f3 b hb).1.2.2.2.2.2⟩
      have nC : H5 s3.heap.objs.size = none := by
        have z : H5 ce.locals = none := I6.free
        rw [cL] at z
        exact z
      obtain ⟨m, hn, _⟩ := I6.loc
      have hn : s6.heap.Ns ce.locals m := hn
      rw [cL] at hn
      exact hRR D s3.heap.objs.size s6 m H5 I7 qq hn (I3.fpOk (Nat.le_refl _) nC)
    · have ti := T.item (X.blk s3 H3 scope ce fp) rfl rfl rfl hc i [] s5 _ H5 (fun _ _ => False) I5 (stat I5 n5) st5 go
      refine thnF ti fun r s6 ⟨u, hr, h6⟩ => ?_
      subst hr
      refine thnF h6 fun _ s7 ⟨x, H7, I7, r7, y7, st7, n7⟩ => ?_
      have I7' := I7.pinned (stat I7 n7) (T.obj _ _ st7)
      refine thnF (pg _ s7 _ H7 x u _ I7' r7 (step x H7 y7)) fun _ s8 ⟨σ8, H8, I8, hw8, q8⟩ => ?_
      refine thnF (pt _ s8 σ8 H8 _ I8 q8) fun b s9 ⟨H9, I9, q9⟩ => ?_
      -- the turn's end, from any slots that know what the block knew at its start
      have fin : ∀ {σ9 : St} {s' : Shared} {H' : Hp}, Inv (X.blk s3 H3 scope ce fp) ([] ++ pinsAt fp s7.heap) σ9 H' s' → (wipe σ (own.map (·.2))).length = σ9.length → (∀ (j : Nat) v, (wipe σ (own.map (·.2)))[j]? = some (some v) → σ9[j]? = some (some v)) → Nx H' →
          ∃ m, m < n ∧ ∃ i H', Inv (X.blk s3 H3 scope ce fp) [] (wipe σ (own.map (·.2))) H' s' ∧ tn i s'.heap ∧ (∀ b ∈ fp, H' b = none) ∧ W i m H' := fun {σ9 s' H'} I' hl hk nx => by
        obtain ⟨m', hm, w'⟩ := hNx H' nx
        have pin' : ∀ b ∈ fp, ∀ o, s7.heap.get? b = some o → s'.heap.get? b = some o ∧ H' b = none := fun b hb o e =>
          let z := I'.pin (b, o) (List.mem_append_right _ (List.mem_append_right _ (mem_pinsAt hb e)))
          ⟨z.1, z.2.1⟩
        refine ⟨m', hm, i + 1, H', (I'.unpinned (pins := [])).weak hl hk, T.keep _ _ _ st7 fun b hb o e => (pin' b hb o e).1, fun b hb => ?_, w'⟩
        obtain ⟨o, e, _⟩ := T.obj _ _ st7 b hb
        exact (pin' b hb o e).2
      have hl8 : (wipe σ (own.map (·.2))).length = σ8.length := by rw [← hw8, wipe_length]
      have hk8 : ∀ (j : Nat) v, (wipe σ (own.map (·.2)))[j]? = some (some v) → σ8[j]? = some (some v) := fun j v e => by
        rw [← hw8] at e
        exact (wipe_some e).1
      have hk9 : ∀ (j : Nat) v, (wipe σ (own.map (·.2)))[j]? = some (some v) → (wipe σ8 vs1)[j]? = some (some v) := fun j v e => by
        rw [← hw8] at e
        obtain ⟨e1, e2⟩ := wipe_some e
        rw [wipe_out fun z => e2 (hv j z)]
        exact e1
      cases b with
      | false =>
        simp only [Bool.false_eq_true, if_false] at q9 ⊢
        exact fin I9 hl8 hk8 q9
      | true =>
        simp only [if_true] at q9 ⊢
        refine thnF (pi1 _ s9 σ8 H9 _ I9 q9) fun xv s10 hx => thnF hx fun itv s11 h11 => ?_
        obtain ⟨it1, fp1, tn1, J1, H11, e1, I11, T1, st11, f11, W1, ⟨m1, w1⟩, turn1⟩ := h11
        subst e1
        -- the inner loop
        have stat1 : ∀ {H' : Hp}, (∀ b ∈ fp1, H' b = none) → ∀ b ∈ fp1, FpOk (X.blk s3 H3 scope ce fp) ([] ++ pinsAt fp s7.heap) H' b := fun hn b hb => ⟨hn b hb, (f11 b hb).2⟩
        have loop1 : codeAny (model X.prog X.w) X.A (.compLoop (.ListComp elt [⟨tg, iter, ifs, 0⟩, ⟨tg1, iter1, ifs1, 0⟩] scope pos) 1 (.ref it1) (.ref D) ce)
            (fun r s' => match r with
              | .ok _ => ∃ m, m < n ∧ ∃ i H', Inv (X.blk s3 H3 scope ce fp) [] (wipe σ (own.map (·.2))) H' s' ∧ tn i s'.heap ∧ (∀ b ∈ fp, H' b = none) ∧ W i m H'
              | .error _ => False) s11 := by
          refine compLoop2_in (fun k s' => ∃ j H', Inv (X.blk s3 H3 scope ce fp) ([] ++ pinsAt fp s7.heap) (wipe σ8 vs1) H' s' ∧ tn1 j s'.heap ∧ (∀ b ∈ fp1, H' b = none) ∧ W1 j k H') ?_ m1 ⟨0, H11, I11.weak (wipe_length _ _) (fun j v e => (wipe_some e).1), st11, fun b hb => (f11 b hb).1, w1⟩
          rintro k s12 ⟨j, H12, I12, st12, n12, w12⟩
          rcases turn1 j k H12 w12 with ⟨stop1, nx1⟩ | ⟨go1, Nx1, hNx1, step1⟩
          · refine thnF (T1.done (X.blk s3 H3 scope ce fp) rfl rfl rfl hc j _ s12 (wipe σ8 vs1) H12 (fun _ _ => False) I12 (stat1 n12) st12 stop1) fun r s13 ⟨hr, I13⟩ => ?_
            subst hr
            exact fin I13 (hl8.trans (wipe_length σ8 vs1).symm) hk9 nx1
          · refine thnF (T1.item (X.blk s3 H3 scope ce fp) rfl rfl rfl hc j _ s12 (wipe σ8 vs1) H12 (fun _ _ => False) I12 (stat1 n12) st12 go1) fun r s13 ⟨u1, hr, h13⟩ => ?_
            subst hr
            refine thnF h13 fun _ s14 ⟨x1, H14, I14, r14, y14, st14, n14⟩ => ?_
            have I14' := I14.pinned (stat1 n14) (T1.obj _ _ st14)
            refine thnF (pg1 _ s14 (wipe σ8 vs1) H14 x1 u1 _ I14' r14 (step1 x1 H14 y14)) fun _ s15 ⟨σ15, H15, I15, hw15, q15⟩ => ?_
            refine thnF (pt1 _ s15 σ15 H15 _ I15 q15) fun b1 s16 ⟨H16, I16, q16⟩ => ?_
            have fin1 : ∀ {s' : Shared} {H' : Hp}, Inv (X.blk s3 H3 scope ce fp) (([] ++ pinsAt fp s7.heap) ++ pinsAt fp1 s14.heap) σ15 H' s' → Nx1 H' → ∃ m, m < k ∧ ∃ j H', Inv (X.blk s3 H3 scope ce fp) ([] ++ pinsAt fp s7.heap) (wipe σ8 vs1) H' s' ∧ tn1 j s'.heap ∧ (∀ b ∈ fp1, H' b = none) ∧ W1 j m H' := fun {s' H'} I' nx => by
              obtain ⟨m', hm, w'⟩ := hNx1 H' nx
              have pin' : ∀ b ∈ fp1, ∀ o, s14.heap.get? b = some o → s'.heap.get? b = some o ∧ H' b = none := fun b hb o e =>
                let z := I'.pin (b, o) (List.mem_append_right _ (List.mem_append_right _ (mem_pinsAt hb e)))
                ⟨z.1, z.2.1⟩
              refine ⟨m', hm, j + 1, H', I'.unpinned.weak (by rw [← hw15, wipe_length]) (fun j v e => by rw [← hw15] at e; exact (wipe_some e).1), T1.keep _ _ _ st14 fun b hb o e => (pin' b hb o e).1, fun b hb => ?_, w'⟩
              obtain ⟨o, e, _⟩ := T1.obj _ _ st14 b hb
              exact (pin' b hb o e).2
            cases b1 with
            | false =>
              simp only [Bool.false_eq_true, if_false] at q16 ⊢
              exact fin1 I16 q16
            | true =>
              simp only [if_true] at q16 ⊢
              refine thnF (pe _ s16 σ15 H16 _ I16 q16) fun z s17 ⟨yv, H17, I17, r17, acc, hD17, hz17, nx⟩ => ?_
              exact app_ok (X := X.blk s3 H3 scope ce fp) I17 hD17 hz17 r17 fun s18 I18 => fin1 I18 nx
        exact compStart1_ok loop1 (T1.self X.A 0 _ _ _ st11 loop1)
  exact codeAny_compStart_list loop (T.self X.A 0 _ _ _ st4 loop)
/-- as a value -/
theorem pe_lc2 {elt tg iter tg1 iter1 : Expr} {ifs ifs1 : List Expr} {scope : Scope} {own : List (Str × Nat)} {vs1 : List Nat} {pos : Pos} {wi wi1 : TI} {g g1 : TG} {tt tt1 : TT} {te : TE} (hc : X.calm = true) (hN : X.N.Nodup) (hi : PI X tg iter wi) (ok : BlkOk X.N X.env.scope scope own) (hv : ∀ i ∈ vs1, i ∈ own.map (·.2))
    (hg : ∀ (s : Shared) (H : Hp) (C : Addr) (cl : List (Str × Addr)) (fp : List Addr), PG (X.blk s H scope (compEnvC scope cl C X.env) fp) tg g) (ht : ∀ (s : Shared) (H : Hp) (C : Addr) (cl : List (Str × Addr)) (fp : List Addr), PTs (X.blk s H scope (compEnvC scope cl C X.env) fp) ifs tt)
    (hi1 : ∀ (s : Shared) (H : Hp) (C : Addr) (cl : List (Str × Addr)) (fp : List Addr), PI (X.blk s H scope (compEnvC scope cl C X.env) fp) tg1 iter1 wi1)
    (hg1 : ∀ (s : Shared) (H : Hp) (C : Addr) (cl : List (Str × Addr)) (fp : List Addr), PG (X.blk s H scope (compEnvC scope cl C X.env) fp) tg1 g1) (ht1 : ∀ (s : Shared) (H : Hp) (C : Addr) (cl : List (Str × Addr)) (fp : List Addr), PTs (X.blk s H scope (compEnvC scope cl C X.env) fp) ifs1 tt1)
    (he : ∀ (s : Shared) (H : Hp) (C : Addr) (cl : List (Str × Addr)) (fp : List Addr), PE (X.blk s H scope (compEnvC scope cl C X.env) fp) elt te) (hs : ∀ x, foldedSetIterable iter X.env x = pure x := by intro _; rfl) (hs1 : ∀ env x, foldedSetIterable iter1 env x = pure x := by intro _ _; rfl) :
    PE X (.ListComp elt [⟨tg, iter, ifs, 0⟩, ⟨tg1, iter1, ifs1, 0⟩] scope pos) (tLc2 wi g tt wi1 g1 tt1 te (own.map (·.2)) vs1) := by
  intro pins s σ H Q I h
  rw [eval_ListComp]
  refine lc2_core hc hN I hi ok hv hg ht he hs hi1 hg1 ht1 hs1 h fun D C s' m H' I' q hn f => ⟨m, hn, fun h'' sb => ?_⟩
  obtain ⟨f0, f1, f2, f3, f4, f5⟩ := f
  exact ⟨.ref D, H', I'.turned (t' := s'.toks) (fun b o hb e => (sb.2 b hb).trans e) f0 f1 f3 f4 f5, rfl, q⟩
theorem ps_setLc2 {i : Nat} {y : Str} {py : Pos} {elt tg iter tg1 iter1 : Expr} {ifs ifs1 : List Expr} {scope : Scope} {own : List (Str × Nat)} {vs1 : List Nat} {pos spos : Pos} {wi wi1 : TI} {g g1 : TG} {tt tt1 : TT} {te : TE} (hc : X.calm = true) (hN : X.N.Nodup) (hy : X.N[i]? = some y) (hyl : X.env.scope.names.lookup y = some .local)
    (hsw : swapsWith (.ListComp elt [⟨tg, iter, ifs, 0⟩, ⟨tg1, iter1, ifs1, 0⟩] scope pos) (some (.Name y py)) spos.line X.env = pure true) (hi : PI X tg iter wi) (ok : BlkOk X.N X.env.scope scope own) (hv : ∀ i ∈ vs1, i ∈ own.map (·.2))
    (hg : ∀ (s : Shared) (H : Hp) (C : Addr) (cl : List (Str × Addr)) (fp : List Addr), PG (X.blk s H scope (compEnvC scope cl C X.env) fp) tg g) (ht : ∀ (s : Shared) (H : Hp) (C : Addr) (cl : List (Str × Addr)) (fp : List Addr), PTs (X.blk s H scope (compEnvC scope cl C X.env) fp) ifs tt)
    (hi1 : ∀ (s : Shared) (H : Hp) (C : Addr) (cl : List (Str × Addr)) (fp : List Addr), PI (X.blk s H scope (compEnvC scope cl C X.env) fp) tg1 iter1 wi1)
    (hg1 : ∀ (s : Shared) (H : Hp) (C : Addr) (cl : List (Str × Addr)) (fp : List Addr), PG (X.blk s H scope (compEnvC scope cl C X.env) fp) tg1 g1) (ht1 : ∀ (s : Shared) (H : Hp) (C : Addr) (cl : List (Str × Addr)) (fp : List Addr), PTs (X.blk s H scope (compEnvC scope cl C X.env) fp) ifs1 tt1)
    (he : ∀ (s : Shared) (H : Hp) (C : Addr) (cl : List (Str × Addr)) (fp : List Addr), PE (X.blk s H scope (compEnvC scope cl C X.env) fp) elt te) (hs : ∀ x, foldedSetIterable iter X.env x = pure x := by intro _; rfl) (hs1 : ∀ env x, foldedSetIterable iter1 env x = pure x := by intro _ _; rfl) :
    PS X (.Assign [.Name y py] (.ListComp elt [⟨tg, iter, ifs, 0⟩, ⟨tg1, iter1, ifs1, 0⟩] scope pos) spos) (tAsg (tLc2 wi g tt wi1 g1 tt1 te (own.map (·.2)) vs1) (gName i)) := by
  intro pins s σ H D I h
  rw [exec_Assign_Name_used _ _ _ _ hsw]
  refine wpAny_bind (wpAny_standAt (wpAny_bind ?_))
  show wpAny _ X.A (do let _ ← comprehension (.ListComp elt [⟨tg, iter, ifs, 0⟩, ⟨tg1, iter1, ifs1, 0⟩] scope pos) scope X.env (firstIterPos [⟨tg, iter, ifs, 0⟩, ⟨tg1, iter1, ifs1, 0⟩] pos) (newList []) false (eval iter X.env) (some (assign (.Name y py) X.env))) _ _ s
  have h : tLc2 wi g tt wi1 g1 tt1 te (own.map (·.2)) vs1 σ H (fun x H1 => gName i x σ H1 D.nx) := h
  refine wpAny_bind (thn (lc2_core (Qf := fun _ s' => SP X pins D .next s') hc hN I hi ok hv hg ht he hs hi1 hg1 ht1 hs1 h fun L C s' m H' I' q hn f => ?_) fun _ s' hq => wpAny_pure (wpAny_pure hq))
  show wpAny _ _ (assign (.Name y py) X.env (.ref L)) _ _ _
  refine wpAny_assign_Name (store_ok2 (v := V.ref L) I' hN hy (.inl hyl) rfl (fun s2 I2 ⟨a, sb, ha⟩ => ?_) (.inr hyl))
  obtain ⟨f0, f1, f2, f3, f4, f5⟩ := f
  have haC : C ≠ a := by
    rcases ha with z | z
    · rw [z]; exact f1
    · exact fun e => f4 y a z e.symm
  refine ⟨m, hn.sameBut sb haC, fun h3 sb3 => ?_⟩
  exact ⟨_, H', I2.turned (t' := s2.toks) (fun b o hb e => (sb3.2 b hb).trans e) f0 f1 f3 f4 f5, q⟩
end
end L2

namespace L2
open PySem PySem.Spec PyProof.Rows

/-! ### lists of pairs as tables -/
section
variable {κ : Type} [DecidableEq κ]
def valV (kvs : List (κ × V)) (k : κ) : Option V := (kvs.find? fun kv => decide (kv.1 = k)).map (·.2)
/-- in its place, or at the end -/
def putK (kvs : List (κ × V)) (k : κ) (v : V) : List (κ × V) :=
  if (kvs.any fun kv => decide (kv.1 = k)) = true then kvs.map (fun kv => if kv.1 = k then (kv.1, v) else kv) else kvs ++ [(k, v)]
def dropK (kvs : List (κ × V)) (k : κ) : List (κ × V) := kvs.filter fun kv => decide (kv.1 ≠ k)

theorem valV_nil {k : κ} : valV ([] : List (κ × V)) k = none := rfl
theorem valV_pos {p : κ × V} {r : List (κ × V)} {k : κ} (e : p.1 = k) : valV (p :: r) k = some p.2 := by simp [valV, List.find?_cons, e]
theorem valV_neg {p : κ × V} {r : List (κ × V)} {k : κ} (e : ¬ p.1 = k) : valV (p :: r) k = valV r k := by simp [valV, List.find?_cons, e]
theorem valV_any (k : κ) : ∀ kvs : List (κ × V), (kvs.any fun kv => decide (kv.1 = k)) = (valV kvs k).isSome
  | [] => rfl
  | p :: r => by
    rw [List.any_cons]
    by_cases e : p.1 = k
    · simp only [valV_pos e, decide_eq_true e, Bool.true_or, Option.isSome_some]
    · rw [valV_neg e, decide_eq_false e, Bool.false_or]; exact valV_any k r
theorem valV_map (k j : κ) (y : V) : ∀ kvs : List (κ × V), valV (kvs.map fun kv => if kv.1 = k then (kv.1, y) else kv) j = (valV kvs j).map fun x => if j = k then y else x
  | [] => rfl
  | p :: r => by
    have ih := valV_map k j y r
    rw [List.map_cons]
    by_cases h : p.1 = k
    · rw [if_pos h]
      by_cases e : p.1 = j
      · rw [valV_pos (p := (p.1, y)) e, valV_pos e, Option.map_some, if_pos (e.symm.trans h)]
      · rw [valV_neg (p := (p.1, y)) e, valV_neg e, ih]
    · rw [if_neg h]
      by_cases e : p.1 = j
      · rw [valV_pos (p := p) e, valV_pos e, Option.map_some, if_neg (fun z => h (e.trans z))]
      · rw [valV_neg (p := p) e, valV_neg e, ih]
theorem valV_snoc (k j : κ) (y : V) : ∀ kvs : List (κ × V), valV kvs k = none → valV (kvs ++ [(k, y)]) j = if j = k then some y else valV kvs j
  | [], _ => by
    by_cases e : k = j
    · rw [if_pos e.symm]; exact valV_pos (p := (k, y)) e
    · rw [if_neg (fun z => e z.symm)]; exact valV_neg (p := (k, y)) e
  | p :: r, hn => by
    rw [List.cons_append]
    have hk : ¬ p.1 = k := fun z => by rw [valV_pos z] at hn; cases hn
    rw [valV_neg hk] at hn
    have ih := valV_snoc k j y r hn
    by_cases e : p.1 = j
    · rw [valV_pos e, valV_pos e, if_neg (fun z => hk (e.trans z))]
    · rw [valV_neg e, valV_neg e, ih]
theorem valV_put (kvs : List (κ × V)) (k j : κ) (y : V) : valV (putK kvs k y) j = if j = k then some y else valV kvs j := by
  unfold putK
  by_cases a : (kvs.any fun kv => decide (kv.1 = k)) = true
  · rw [if_pos a, valV_map]
    rw [valV_any] at a
    by_cases e : j = k
    · obtain ⟨x, hx⟩ := Option.isSome_iff_exists.mp a
      rw [if_pos e, e, hx, Option.map_some, if_pos rfl]
    · rw [if_neg e]
      cases valV kvs j with
      | none => rfl
      | some x => rw [Option.map_some, if_neg e]
  · rw [if_neg a]
    refine valV_snoc k j y kvs ?_
    rw [valV_any] at a
    cases q : valV kvs k with
    | none => rfl
    | some x => rw [q] at a; exact (a rfl).elim
theorem length_putK (kvs : List (κ × V)) (k : κ) (v : V) : (putK kvs k v).length ≤ kvs.length + 1 := by
  unfold putK
  split
  · rw [List.length_map]; omega
  · rw [List.length_append, List.length_cons, List.length_nil]; omega
theorem putK_new {kvs : List (κ × V)} {k : κ} (v : V) (h : valV kvs k = none) : putK kvs k v = kvs ++ [(k, v)] := by
  unfold putK
  rw [valV_any, h]
  exact if_neg (by decide)

theorem RelO.isSome_eq {o : Option V} {u : Option Value} (r : RelO o u) : o.isSome = u.isSome := by
  cases o with
  | none => cases u with
    | none => rfl
    | some _ => exact (show False from r).elim
  | some _ => cases u with
    | none => exact (show False from r).elim
    | some _ => rfl
theorem RelO.getD {o : Option V} {u : Option Value} {d : V} {d' : Value} (r : RelO o u) (rd : RelV d d') : RelV (o.getD d) (u.getD d') := by
  cases o with
  | none => cases u with
    | none => exact rd
    | some _ => exact (show False from r).elim
  | some _ => cases u with
    | none => exact (show False from r).elim
    | some _ => exact r

/-- raw tables of the same keys -/
theorem KV.val {kvs : List (κ × V)} {vs : List (κ × Value)} (r : KV kvs vs) (k : κ) : RelO (valV kvs k) (valueAt vs k) := by
  unfold KV at r
  induction r with
  | nil => exact True.intro
  | @cons p q ps qs h t ih =>
    obtain ⟨h1, h2⟩ := h
    by_cases e : p.1 = k
    · have e' : q.1 = k := h1.symm.trans e
      have b : valueAt (q :: qs) k = some q.2 := by simp [valueAt, List.find?_cons, e']
      rw [valV_pos e, b]; exact h2
    · have e' : ¬ q.1 = k := fun z => e (h1.trans z)
      have b : valueAt (q :: qs) k = valueAt qs k := by simp [valueAt, List.find?_cons, e']
      rw [valV_neg e, b]; exact ih
theorem KV.any {kvs : List (κ × V)} {vs : List (κ × Value)} (r : KV kvs vs) (k : κ) : (kvs.any fun kv => decide (kv.1 = k)) = vs.any fun kv => decide (kv.1 = k) := by
  unfold KV at r
  induction r with
  | nil => rfl
  | cons h t ih => rw [List.any_cons, List.any_cons, ih, h.1]
theorem KV.repl {kvs : List (κ × V)} {vs : List (κ × Value)} (r : KV kvs vs) (k : κ) {y : V} {u : Value} (ry : RelV y u) :
    KV (kvs.map fun kv => if kv.1 = k then (kv.1, y) else kv) (vs.map fun kv => if kv.1 = k then (kv.1, u) else kv) := by
  unfold KV at r ⊢
  induction r with
  | nil => exact .nil
  | @cons p q ps qs h t ih =>
    rw [List.map_cons, List.map_cons]
    refine .cons ?_ ih
    obtain ⟨h1, h2⟩ := h
    by_cases e : p.1 = k
    · rw [if_pos e, if_pos (h1.symm.trans e)]; exact ⟨h1, ry⟩
    · rw [if_neg e, if_neg (fun z => e (h1.trans z))]; exact ⟨h1, h2⟩
theorem KV.put {kvs : List (κ × V)} {vs : List (κ × Value)} (r : KV kvs vs) (k : κ) {y : V} {u : Value} (ry : RelV y u) : KV (putK kvs k y) (stored vs k u) := by
  unfold putK stored
  rw [r.any k]
  by_cases e : (vs.any fun kv => decide (kv.1 = k)) = true
  · rw [if_pos e, if_pos e]; exact r.repl k ry
  · rw [if_neg e, if_neg e]; exact Paired.snoc r ⟨rfl, ry⟩
theorem KV.drop {kvs : List (κ × V)} {vs : List (κ × Value)} (r : KV kvs vs) (k : κ) : KV (dropK kvs k) (without vs k) := by
  unfold KV at r ⊢
  unfold dropK without
  induction r with
  | nil => exact .nil
  | @cons p q ps qs h t ih =>
    obtain ⟨h1, h2⟩ := h
    rw [List.filter_cons, List.filter_cons]
    by_cases e : p.1 = k
    · have a : ¬ decide (p.1 ≠ k) = true := by simp [e]
      have b : ¬ decide (q.1 ≠ k) = true := by simp [h1.symm.trans e]
      rw [if_neg a, if_neg b]; exact ih
    · have e' : ¬ q.1 = k := fun z => e (h1.trans z)
      have a : decide (p.1 ≠ k) = true := by simp [e]
      have b : decide (q.1 ≠ k) = true := by simp [e']
      rw [if_pos a, if_pos b]; exact .cons ⟨h1, h2⟩ ih
theorem KV.keys {kvs : List (κ × V)} {vs : List (κ × Value)} (r : KV kvs vs) : kvs.map (·.1) = vs.map (·.1) := by
  unfold KV at r
  induction r with
  | nil => rfl
  | cons h t ih => rw [List.map_cons, List.map_cons, ih, h.1]
theorem KV.length {kvs : List (κ × V)} {vs : List (κ × Value)} (r : KV kvs vs) : kvs.length = vs.length := Paired.length r
theorem dropK_le (kvs : List (κ × V)) (k : κ) : (dropK kvs k).length ≤ kvs.length := List.length_filter_le _ _
end


/-! ### a tracked dict, its keys ints and texts or tuples of these -/
theorem kV_is {P : Program} {w : World} {k : Key} {u : Value} (r : RelV (kV k) u) : (mixKind P w).is k u = true := by
  cases k with
  | inl i => obtain ⟨t, e⟩ := (show ∃ t, u = Value.int i t from r); subst e; exact mixKind_int P w i t
  | inr x => obtain ⟨t, e⟩ := (show ∃ t, u = Value.str x t from r); subst e; exact mixKind_str P w x t
theorem kV_inj {a b : Key} (e : kV a = kV b) : a = b := by
  cases a with
  | inl i => cases b with
    | inl j => have e' : V.int i = V.int j := e; injection e' with e'; rw [e']
    | inr y => exact nomatch (show V.int i = V.str y from e)
  | inr x => cases b with
    | inl j => exact nomatch (show V.str x = V.int j from e)
    | inr y => have e' : V.str x = V.str y := e; injection e' with e'; rw [e']
theorem kVs_inj : ∀ {a b : List Key}, a.map kV = b.map kV → a = b
  | [], [], _ => rfl
  | [], _ :: _, e => by simp at e
  | _ :: _, [], e => by simp at e
  | x :: xs, y :: ys, e => by
    rw [List.map_cons, List.map_cons] at e
    injection e with e1 e2
    rw [kV_inj e1, kVs_inj e2]
theorem items_are {P : Program} {w : World} : ∀ {ks : List Key} {us : List Value}, Vals (ks.map kV) us → ItemsAre (mixKind P w) ks us
  | [], _, r => by rw [List.map_nil] at r; cases r; exact .nil
  | k :: ks, _, r => by
    rw [List.map_cons] at r
    cases r with
    | cons h t => exact .cons (kV_is h) (items_are t)

/-- raw entries of a dict with tuple keys -/
abbrev KT (H : Hp) : List (List Key × V) → List (List Key × Addr × Value) → Prop := Paired fun p q => p.1 = q.1 ∧ H q.2.1 = some (.tup (p.1.map kV)) ∧ RelV p.2 q.2.2
theorem KT.val {H : Hp} {kvs : List (List Key × V)} {xs : List (List Key × Addr × Value)} (r : KT H kvs xs) (k : List Key) : RelO (valV kvs k) ((atKey xs k).map (·.2)) := by
  induction r with
  | nil => exact True.intro
  | @cons p q ps qs h t ih =>
    obtain ⟨h1, _, h2⟩ := h
    by_cases e : p.1 = k
    · have e' : q.1 = k := h1.symm.trans e
      have b : atKey (q :: qs) k = some q.2 := by simp [atKey, List.find?_cons, e']
      rw [valV_pos e, b]; exact h2
    · have e' : ¬ q.1 = k := fun z => e (h1.trans z)
      have b : atKey (q :: qs) k = atKey qs k := by simp [atKey, List.find?_cons, e']
      rw [valV_neg e, b]; exact ih
theorem KT.repl {H : Hp} {kvs : List (List Key × V)} {xs : List (List Key × Addr × Value)} (r : KT H kvs xs) (k : List Key) {y : V} {u : Value} (ry : RelV y u) :
    KT H (kvs.map fun kv => if kv.1 = k then (kv.1, y) else kv) (xs.map (putAt k u)) := by
  induction r with
  | nil => exact .nil
  | @cons p q ps qs h t ih =>
    rw [List.map_cons, List.map_cons]
    refine .cons ?_ ih
    obtain ⟨h1, h2, h3⟩ := h
    unfold putAt
    by_cases e : p.1 = k
    · rw [if_pos e, if_pos (h1.symm.trans e)]; exact ⟨h1, h2, ry⟩
    · rw [if_neg e, if_neg (fun z => e (h1.trans z))]; exact ⟨h1, h2, h3⟩
theorem KT.put {H : Hp} {kvs : List (List Key × V)} {xs : List (List Key × Addr × Value)} (r : KT H kvs xs) (k : List Key) {b : Addr} {y : V} {u : Value} (hb : H b = some (.tup (k.map kV))) (ry : RelV y u) :
    KT H (putK kvs k y) (storedH xs k b u) := by
  have e : (kvs.any fun kv => decide (kv.1 = k)) = (atKey xs k).isSome := by
    rw [valV_any, (r.val k).isSome_eq, Option.isSome_map]
  unfold putK storedH
  rw [e]
  by_cases q : (atKey xs k).isSome = true
  · rw [if_pos q, if_pos q]; exact r.repl k ry
  · rw [if_neg q, if_neg q]; exact Paired.snoc r ⟨rfl, hb, ry⟩
theorem KT.keeps {H H' : Hp} {kvs : List (List Key × V)} {xs : List (List Key × Addr × Value)} (r : KT H kvs xs) (ht : ∀ b ys, H b = some (.tup ys) → H' b = some (.tup ys)) : KT H' kvs xs :=
  Paired.mapP r fun _ _ z => ⟨z.1, ht _ _ z.2.1, z.2.2⟩

section
variable {P : Program} {w : World} {H : Hp} {h : Heap} {a : Addr}
theorem rd_of {u : HO} (ok : HOk P w H h) (e : Rd H a u) : ObjOk P w H h a u := e.ok ok
theorem dk_rd {kvs : List (Key × V)} (ok : HOk P w H h) (e : Rd H a (.dK kvs)) : kvs.length ≤ sizeLine ∧ (a == sysModules) = false ∧ ∃ vs, KV kvs vs ∧ h.DictOf (mixKind P w) a vs :=
  show ObjOk P w H h a (.dK kvs) from rd_of ok e
theorem dk_of {kvs : List (Key × V)} (ok : HOk P w H h) (e : H a = some (.dK kvs)) : kvs.length ≤ sizeLine ∧ (a == sysModules) = false ∧ ∃ vs, KV kvs vs ∧ h.DictOf (mixKind P w) a vs := dk_rd ok (.inl e)
/-- a tracked tuple of ints and texts is a key -/
theorem key_of {ks : List Key} (ok : HOk P w H h) (e : H a = some (.tup (ks.map kV))) : (tupleKind (mixKind P w)).is h ks a := by
  obtain ⟨_, its, r, o, h1, h2, n, h3⟩ := (show ObjOk P w H h a (.tup (ks.map kV)) from ok a _ e)
  exact ⟨o, its.toArray, n, h1, h2, h3, by simpa using items_are r⟩
theorem dt_rd {kvs : List (List Key × V)} (ok : HOk P w H h) (e : Rd H a (.dT kvs)) : kvs.length ≤ sizeLine ∧ (a == sysModules) = false ∧
    ∃ xs, KT H kvs xs ∧ h.DictOfH (tupleKind (mixKind P w)) a xs := by
  obtain ⟨z, y, xs, r, o, es, ep, h1, h2, h3, h4, h5⟩ := (show ObjOk P w H h a (.dT kvs) from rd_of ok e)
  refine ⟨z, y, xs, r, o, es, ep, h1, h2, h3, h4, fun x hx => ?_, h5⟩
  have all : ∀ {l : List (List Key × V)} {m : List (List Key × Addr × Value)}, KT H l m → ∀ x ∈ m, (tupleKind (mixKind P w)).is h x.1 x.2.1 := by
    intro l m q
    induction q with
    | nil => intro x hx; exact nomatch hx
    | @cons p q ps qs hq t ih =>
      intro x hx
      rcases List.mem_cons.mp hx with e | hx
      · subst e
        exact key_of ok (by rw [← hq.1]; exact hq.2.1)
      · exact ih x hx
  exact all r x hx
theorem dt_of {kvs : List (List Key × V)} (ok : HOk P w H h) (e : H a = some (.dT kvs)) : kvs.length ≤ sizeLine ∧ (a == sysModules) = false ∧
    ∃ xs, KT H kvs xs ∧ h.DictOfH (tupleKind (mixKind P w)) a xs := dt_rd ok (.inl e)
end

/-- what the dict at a holds at the key y -/
def DGet (H : Hp) (a : Addr) (y : V) (r : Option V) : Prop :=
  (∃ kvs k, Rd H a (.dK kvs) ∧ y = kV k ∧ r = valV kvs k) ∨ ∃ kvs k b, Rd H a (.dT kvs) ∧ y = .ref b ∧ H b = some (.tup (k.map kV)) ∧ r = valV kvs k
/-- the heap behind a[y] = v -/
def DPut (H : Hp) (a : Addr) (y v : V) (H' : Hp) : Prop :=
  (∃ kvs k, H a = some (.dK kvs) ∧ y = kV k ∧ kvs.length < sizeLine ∧ H' = upd H a (.dK (putK kvs k v))) ∨
  ∃ kvs k b, H a = some (.dT kvs) ∧ y = .ref b ∧ H b = some (.tup (k.map kV)) ∧ kvs.length < sizeLine ∧ H' = upd H a (.dT (putK kvs k v))
theorem DGet.k {H : Hp} {a : Addr} {kvs : List (Key × V)} {k : Key} (e : H a = some (.dK kvs)) : DGet H a (kV k) (valV kvs k) := .inl ⟨kvs, k, .inl e, rfl, rfl⟩
theorem DGet.t {H : Hp} {a b : Addr} {kvs : List (List Key × V)} {k : List Key} (e : H a = some (.dT kvs)) (eb : H b = some (.tup (k.map kV))) : DGet H a (.ref b) (valV kvs k) := .inr ⟨kvs, k, b, .inl e, rfl, eb, rfl⟩
theorem DPut.k {H : Hp} {a : Addr} {kvs : List (Key × V)} {k : Key} {v : V} (e : H a = some (.dK kvs)) (hl : kvs.length < sizeLine) : DPut H a (kV k) v (upd H a (.dK (putK kvs k v))) := .inl ⟨kvs, k, e, rfl, hl, rfl⟩
theorem DPut.t {H : Hp} {a b : Addr} {kvs : List (List Key × V)} {k : List Key} {v : V} (e : H a = some (.dT kvs)) (eb : H b = some (.tup (k.map kV))) (hl : kvs.length < sizeLine) :
    DPut H a (.ref b) v (upd H a (.dT (putK kvs k v))) := .inr ⟨kvs, k, b, e, rfl, eb, hl, rfl⟩


section
variable {X : Cx} {pins : List (Addr × Obj)} {σ : St} {H : Hp} {s : Shared} {a : Addr} {y v : V} {u r : Value} {o : Option V} {A : Around} {E : Value → Shared → Prop}

theorem Inv.big (I : Inv X pins σ H s) : sysModules < s.heap.objs.size := by
  have h : mainGlobals < s.heap.objs.size := (I.mod.glob.keeps I.bk).lt
  exact Nat.lt_trans (by decide) h

/-- d[y], there -/
theorem d_getItem {Q : Value → Shared → Prop} (hu : A.units + 1 < cLine) (I : Inv X pins σ H s) (g : DGet H a y (some v)) (ry : RelV y u) (h : ∀ w' s', Inv X pins σ H s' → RelV v w' → Q w' s') :
    wpAny (model X.prog X.w) A (getItem (.ref a) u) Q E s := by
  rcases g with ⟨kvs, k, e, ey, l⟩ | ⟨kvs, k, b, e, ey, eb, l⟩
  · subst ey
    obtain ⟨z, hd, vs, rel, dd⟩ := dk_rd I.hok e
    obtain ⟨w', hw, rw'⟩ := RelO.some_of (v := v) (o := valueAt vs k) (by rw [l]; exact rel.val k)
    exact wpAny_getItem_of (kV_is ry) dd.mapOf hw (h w' _ (I.tok _) rw')
  · subst ey
    cases (show u = Value.ref b from ry)
    obtain ⟨z, hd, xs, rel, dd⟩ := dt_rd I.hok e
    obtain ⟨w', hw, rw'⟩ := RelO.some_of (v := v) (o := (atKey xs k).map (·.2)) (by rw [l]; exact rel.val k)
    obtain ⟨p, hp, hp2⟩ := Option.map_eq_some_iff.mp hw
    refine wpAny_getItem_heap (tupleKind_room_in1 hu) (key_of I.hok eb) dd hp ?_
    rw [hp2]
    exact h w' _ (I.tok _) rw'
/-- y in d -/
theorem d_in {Q : Value → Shared → Prop} (hu : A.units + 1 < cLine) (I : Inv X pins σ H s) (g : DGet H a y o) (ry : RelV y u) (h : ∀ s', Inv X pins σ H s' → Q (.bool o.isSome) s') :
    wpAny (model X.prog X.w) A (compareOp .In u (.ref a)) Q E s := by
  rcases g with ⟨kvs, k, e, ey, l⟩ | ⟨kvs, k, b, e, ey, eb, l⟩
  · subst ey
    obtain ⟨z, hd, vs, rel, dd⟩ := dk_rd I.hok e
    refine wpAny_in_of (kV_is ry) hd dd.mapOf ?_
    rw [← (rel.val k).isSome_eq, ← l]
    exact h _ (I.tok _)
  · subst ey
    cases (show u = Value.ref b from ry)
    obtain ⟨z, hd, xs, rel, dd⟩ := dt_rd I.hok e
    refine wpAny_in_heap (tupleKind_room_in1 hu) (key_of I.hok eb) hd dd ?_
    have q := (rel.val k).isSome_eq
    rw [Option.isSome_map] at q
    rw [← q, ← l]
    exact h _ (I.tok _)
theorem d_notIn {Q : Value → Shared → Prop} (hu : A.units + 1 < cLine) (I : Inv X pins σ H s) (g : DGet H a y o) (ry : RelV y u) (h : ∀ s', Inv X pins σ H s' → Q (.bool (!o.isSome)) s') :
    wpAny (model X.prog X.w) A (compareOp .NotIn u (.ref a)) Q E s := by
  rcases g with ⟨kvs, k, e, ey, l⟩ | ⟨kvs, k, b, e, ey, eb, l⟩
  · subst ey
    obtain ⟨z, hd, vs, rel, dd⟩ := dk_rd I.hok e
    refine wpAny_notIn_of (kV_is ry) hd dd.mapOf ?_
    rw [← (rel.val k).isSome_eq, ← l]
    exact h _ (I.tok _)
  · subst ey
    cases (show u = Value.ref b from ry)
    obtain ⟨z, hd, xs, rel, dd⟩ := dt_rd I.hok e
    refine wpAny_notIn_heap (tupleKind_room_in1 hu) (key_of I.hok eb) hd dd ?_
    have q := (rel.val k).isSome_eq
    rw [Option.isSome_map] at q
    rw [← q, ← l]
    exact h _ (I.tok _)
/-- a dict's object is replaced -/
theorem d_write {h' : Heap} {t' : Nat} {ob : HO} (I : Inv X pins σ H s) (mu : Mut (H a)) (hs : Heap.SameBut a s.heap h') (he : ∃ q, h'.get? a = some q) (new : ObjOk X.prog X.w (upd H a ob) h' a ob) :
    Inv X pins σ (upd H a ob) { s with heap := h', toks := t' } :=
  I.write (x := a) (e := a) mu (.inl rfl) (fun b q hb z => (hs.2 b hb).trans z) he new
theorem dk_new {P : Program} {w : World} {H' : Hp} {h' : Heap} {kvs : List (Key × V)} {vs : List (Key × Value)} (z : kvs.length ≤ sizeLine) (hd : (a == sysModules) = false) (rel : KV kvs vs) (dd : h'.DictOf (mixKind P w) a vs) :
    ObjOk P w H' h' a (.dK kvs) := ⟨z, hd, vs, rel, dd⟩
/-- d[y] = v -/
theorem d_setItem {H' : Hp} {Q : Unit → Shared → Prop} (hu : A.units + 1 < cLine) (I : Inv X pins σ H s) (g : DPut H a y v H') (ry : RelV y u) (rv : RelV v r) (h : ∀ s', Inv X pins σ H' s' → Q () s') :
    wpAny (model X.prog X.w) A (setItem (.ref a) u r) Q E s := by
  rcases g with ⟨kvs, k, e, ey, l, eH⟩ | ⟨kvs, k, b, e, ey, eb, l, eH⟩
  · subst ey eH
    obtain ⟨z, hd, vs, rel, dd⟩ := dk_of I.hok e
    have hz : vs.length ≤ sizeLine := by rw [← rel.length]; exact z
    have hl : (putK kvs k v).length ≤ sizeLine := by have := length_putK kvs k v; omega
    refine wpAny_setItem_pairs (hsz := hz) (kV_is ry) dd fun h' dd' hs => h _ ?_
    have he : ∃ q, h'.get? a = some q := let ⟨q, _, _, hq, _⟩ := dd'; ⟨q, hq⟩
    exact d_write I (by rw [e]; exact True.intro) hs he (dk_new hl hd (rel.put k rv) dd')
  · subst ey eH
    cases (show u = Value.ref b from ry)
    obtain ⟨z, hd, xs, rel, dd⟩ := dt_of I.hok e
    have hz : xs.length ≤ sizeLine := by rw [← Paired.length rel]; exact z
    have hl : (putK kvs k v).length ≤ sizeLine := by have := length_putK kvs k v; omega
    refine wpAny_setItem_heap (hsz := hz) (tupleKind_room_in1 hu) (key_of I.hok eb) dd fun h' dd' hs => h _ ?_
    obtain ⟨q, es, ep, hq, h2, h3, h4, _, h5⟩ := dd'
    refine d_write I (by rw [e]; exact True.intro) hs ⟨q, hq⟩ ⟨hl, hd, _, (rel.put k eb rv).keeps fun c ys ec => ?_, q, es, ep, hq, h2, h3, h4, h5⟩
    rw [upd_ne (ne_of ec e (fun z => nomatch z))]
    exact ec
end

section
variable {X : Cx} {pins : List (Addr × Obj)} {σ : St} {H : Hp} {s : Shared} {a : Addr} {kvs : List (Key × V)} {k : Key} {u : Value} {A : Around} {E : Value → Shared → Prop}
/-- del d[k] -/
theorem d_delItem {Q : Unit → Shared → Prop} (I : Inv X pins σ H s) (e : H a = some (.dK kvs)) (ry : RelV (kV k) u) (l : (valV kvs k).isSome = true) (h : ∀ s', Inv X pins σ (upd H a (.dK (dropK kvs k))) s' → Q () s') :
    wpAny (model X.prog X.w) A (delItem (.ref a) u) Q E s := by
  obtain ⟨z, hd, vs, rel, dd⟩ := dk_of I.hok e
  refine wpAny_delItem_slot dd.typeIs (by decide) PySem.F.slot_dict_delitem
    (call_meetsIn PySem.F.slot_dict_delitem dd.typeIs PySem.F.entry_dict_delitem (PySem.F.args_dict_delitem_2 _ _) (meets_dict_delitem_pairs (mixKind X.prog X.w) a (kV_is ry)) ⟨vs, dd, by rw [← rel.length]; exact z, by rw [← (rel.val k).isSome_eq]; exact l, fun h' dd' hs => h _ ?_⟩)
  have he : ∃ q, h'.get? a = some q := let ⟨q, _, _, hq, _⟩ := dd'; ⟨q, hq⟩
  exact d_write I (by rw [e]; exact True.intro) hs he (dk_new (Nat.le_trans (dropK_le kvs k) z) hd (rel.drop k) dd')
/-- d.pop(k[, x]), there -/
theorem d_pop {v : V} {more : List Value} {Q : Value → Shared → Prop} (I : Inv X pins σ H s) (e : H a = some (.dK kvs)) (ry : RelV (kV k) u) (l : valV kvs k = some v) (hm : more = [] ∨ ∃ x, more = [x])
    (h : ∀ w' s', Inv X pins σ (upd H a (.dK (dropK kvs k))) s' → RelV v w' → Q w' s') : wpAny (model X.prog X.w) A (call (.builtin "dict.pop") (.ref a :: u :: more)) Q E s := by
  obtain ⟨z, hd, vs, rel, dd⟩ := dk_of I.hok e
  obtain ⟨w', hw, rw'⟩ := RelO.some_of (v := v) (o := valueAt vs k) (by rw [← l]; exact rel.val k)
  have hp : (keyPart u).isSome = true := by
    cases k with
    | inl i => obtain ⟨t, q⟩ := (show ∃ t, u = Value.int i t from ry); subst q; rfl
    | inr x => obtain ⟨t, q⟩ := (show ∃ t, u = Value.str x t from ry); subst q; rfl
  have ha : argsOk "dict.pop" ⟨.ref a :: u :: more, []⟩ := by
    rcases hm with q | ⟨x, q⟩
    · subst q; exact PySem.F.args_dict_pop_2 _ _
    · subst q; exact PySem.F.args_dict_pop_3 _ _ _
  refine call_meetsIn PySem.F.slot_dict_pop dd.typeIs PySem.F.entry_dict_pop ha (meets_dict_pop_there (mixKind X.prog X.w) a (kV_is ry) more hm hp)
    ⟨vs, w', dd, by rw [← rel.length]; exact z, hw, fun h' dd' hs => h w' _ ?_ rw'⟩
  have he : ∃ q, h'.get? a = some q := let ⟨q, _, _, hq, _⟩ := dd'; ⟨q, hq⟩
  exact d_write I (by rw [e]; exact True.intro) hs he (dk_new (Nat.le_trans (dropK_le kvs k) z) hd (rel.drop k) dd')
/-- d.pop(k, x), not there -/
theorem d_popD {r : Value} {Q : Value → Shared → Prop} (I : Inv X pins σ H s) (e : H a = some (.dK kvs)) (ry : RelV (kV k) u) (l : valV kvs k = none) (h : ∀ s', Inv X pins σ H s' → Q r s') :
    wpAny (model X.prog X.w) A (call (.builtin "dict.pop") [.ref a, u, r]) Q E s := by
  obtain ⟨z, hd, vs, rel, dd⟩ := dk_of I.hok e
  have hn : valueAt vs k = none := RelO.none_of (by rw [← l]; exact rel.val k)
  have hp : (keyPart u).isSome = true := by
    cases k with
    | inl i => obtain ⟨t, q⟩ := (show ∃ t, u = Value.int i t from ry); subst q; rfl
    | inr x => obtain ⟨t, q⟩ := (show ∃ t, u = Value.str x t from ry); subst q; rfl
  exact call_meetsIn PySem.F.slot_dict_pop dd.typeIs PySem.F.entry_dict_pop (PySem.F.args_dict_pop_3 _ _ _) (meets_dict_pop_default (mixKind X.prog X.w) a (kV_is ry) hd hp r) ⟨vs, dd, hn, h _ (I.tok _)⟩
/-- d.clear() -/
theorem d_clear {Q : Value → Shared → Prop} (I : Inv X pins σ H s) (e : H a = some (.dK kvs)) (h : ∀ s', Inv X pins σ (upd H a (.dK [])) s' → Q .none s') : wpAny (model X.prog X.w) A (call (.builtin "dict.clear") [.ref a]) Q E s := by
  obtain ⟨z, hd, vs, rel, dd⟩ := dk_of I.hok e
  refine call_meetsIn PySem.F.slot_dict_clear dd.typeIs PySem.F.entry_dict_clear (PySem.F.args_dict_clear_1 _) (meets_dict_clear (mixKind X.prog X.w) a) ⟨vs, dd, by rw [← rel.length]; exact z, fun h' dd' hs => h _ ?_⟩
  have he : ∃ q, h'.get? a = some q := let ⟨q, _, _, hq, _⟩ := dd'; ⟨q, hq⟩
  exact d_write (t' := s.toks) I (by rw [e]; exact True.intro) hs he (dk_new (Nat.zero_le _) hd .nil dd')
/-- len(d) -/
theorem d_len {Q : Value → Shared → Prop} (I : Inv X pins σ H s) (e : Rd H a (.dK kvs)) (h : ∀ t s', Inv X pins σ H s' → Q (.int kvs.length t) s') : wpAny (model X.prog X.w) A (call (.builtin "len") [.ref a]) Q E s := by
  obtain ⟨z, hd, vs, rel, dd⟩ := dk_rd I.hok e
  refine call_len_dict hd dd (by rw [← rel.length]; rw [sizeLine_eq] at z; omega) ?_
  rw [← rel.length]
  exact h _ _ (I.tok _)
/-- if d -/
theorem d_truth {Q : Bool → Shared → Prop} (I : Inv X pins σ H s) (e : Rd H a (.dK kvs)) (h : ∀ s', Inv X pins σ H s' → Q (!kvs.isEmpty) s') : wpAny (model X.prog X.w) A (truthy (.ref a)) Q E s := by
  obtain ⟨z, hd, vs, rel, dd⟩ := dk_rd I.hok e
  refine wpAny_truthy_dict hd dd (by rw [← rel.length]; rw [sizeLine_eq] at z; omega) ?_
  have q : kvs.isEmpty = vs.isEmpty := by cases rel <;> rfl
  rw [← q]
  exact h _ (I.tok _)
end


/-! ### readings and rules -/
/-- the element of a subscription, not a slice -/
def NoSl (i : Expr) : Prop := ∀ ov iv, subscripted i false ov iv = operate [ov, iv] (getItem ov iv)
theorem subD_of {prog : Program} {w : World} {A : Around} {E : Value → Shared → Prop} {s : Shared} {env : Env} {value slice : Expr} {pos : Pos} {T id : String} {Q : Value → Shared → Prop}
    (hl : typeLookup (.type T) "__getitem__" = pure (some (.builtin id))) (hs : NoSl slice)
    (h : wpAny (model prog w) A (eval value env) (fun o s₁ => wpAny (model prog w) A (eval slice env) (fun i s₂ => s₂.TypeIs o T ∧ wpAny (model prog w) A (getItem o i) Q E s₂) E s₁) E s) :
    wpAny (model prog w) A (eval (.Subscript value slice pos) env) Q E s := by
  refine Subscript_ (wpAny_mono h (fun o s₁ h₁ => wpAny_mono h₁ (fun i s₂ h₂ => ?_) fun _ _ x => x) fun _ _ x => x)
  obtain ⟨hT, h₂⟩ := h₂
  unfold subscriptTail
  refine wpAny_bind ?_
  rw [getitemInPython_of_ne hT.not_modules]
  refine wpAny_bind (wpAny_specialOf hT hl ?_)
  have fin : wpAny (model prog w) A (subscripted slice false o i) (fun r s₃ => wpAny (model prog w) A (letTemporaryGo value o r >>= fun _ => pure r) Q E s₃) E s₂ := by
    rw [hs o i]
    exact wpAny_operating (wpAny_mono h₂ (fun r s₃ h₃ => wpAny_bind (wpAny_letTemporaryGo (wpAny_pure h₃))) fun _ _ x => x)
  first
    | exact wpAny_pure (wpAny_bind fin)
    | exact wpAny_bind (wpAny_pure (wpAny_bind fin))
    | exact wpAny_bind fin

theorem dict_typeIs {X : Cx} {pins : List (Addr × Obj)} {σ : St} {H : Hp} {s : Shared} {a : Addr} {y : V} {o : Option V} (I : Inv X pins σ H s) (g : DGet H a y o) : s.TypeIs (.ref a) "dict" := by
  rcases g with ⟨kvs, k, e, _, _⟩ | ⟨kvs, k, b, e, _, _, _⟩
  · obtain ⟨_, _, vs, _, dd⟩ := dk_rd I.hok e
    exact dd.typeIs
  · obtain ⟨_, _, xs, _, dd⟩ := dt_rd I.hok e
    exact dd.typeIs
theorem dict_noDict {X : Cx} {pins : List (Addr × Obj)} {σ : St} {H : Hp} {s : Shared} {a : Addr} {y : V} {o : Option V} (I : Inv X pins σ H s) (g : DGet H a y o) :
    ∀ b, Value.ref a = .ref b → ∃ ob, s.heap.get? b = some ob ∧ ob.dict = none := fun b q => by
  cases q
  rcases g with ⟨kvs, k, e, _, _⟩ | ⟨kvs, k, b, e, _, _, _⟩
  · obtain ⟨_, _, vs, _, ob, _, _, h1, h2, _⟩ := dk_rd I.hok e
    exact ⟨ob, h1, h2.2.1⟩
  · obtain ⟨_, _, xs, _, ob, _, _, h1, h2, _⟩ := dt_rd I.hok e
    exact ⟨ob, h1, h2.2.1⟩

/-- d[y] -/
def tDGet (td ty : TE) : TE := fun σ H Q => td σ H fun x H1 => ty σ H1 fun y H2 => ∃ a v, x = .ref a ∧ DGet H2 a y (some v) ∧ Q v H2
/-- y in d, y not in d -/
def tDIn (ty td : TE) : TE := fun σ H Q => ty σ H fun y H1 => td σ H1 fun x H2 => ∃ a o, x = .ref a ∧ DGet H2 a y o ∧ Q (.bl o.isSome) H2
def tDNotIn (ty td : TE) : TE := fun σ H Q => ty σ H fun y H1 => td σ H1 fun x H2 => ∃ a o, x = .ref a ∧ DGet H2 a y o ∧ Q (.bl (!o.isSome)) H2
/-- d[y] = v -/
def sDPut (td ty tv : TE) : TS := fun D σ H => tv σ H fun v H1 => td σ H1 fun x H2 => ty σ H2 fun y H3 => ∃ a H4, x = .ref a ∧ DPut H3 a y v H4 ∧ D.nx σ H4
/-- d[y] op= v -/
def sDAug (td ty tv : TE) (rd : V → V → Hp → VK → Prop) : TS := fun D σ H => td σ H fun x H1 => ty σ H1 fun y H2 => ∃ a v, x = .ref a ∧ DGet H2 a y (some v) ∧
  tv σ H2 fun y2 H3 => rd v y2 H3 fun z H4 => ∃ H5, DPut H4 a y z H5 ∧ D.nx σ H5
/-- del d[y] -/
def sDDel (td ty : TE) : TS := fun D σ H => td σ H fun x H1 => ty σ H1 fun y H2 => ∃ a kvs k, x = .ref a ∧ H2 a = some (.dK kvs) ∧ y = kV k ∧ (valV kvs k).isSome = true ∧ D.nx σ (upd H2 a (.dK (dropK kvs k)))

section
variable {X : Cx} {o i e value : Expr} {pos pos' tpos : Pos} {td ty tv : TE}
theorem pe_dget (hu : X.A.units + 1 < cLine) (ho : PE X o td) (hi : PE X i ty) (hs : NoSl i) : PE X (.Subscript o i pos) (tDGet td ty) := by
  intro pins s σ H Q I h
  refine subD_of PySem.F.slot_dict_getitem.lookup hs (thn (ho pins s σ H _ I h) fun u s1 ⟨x, H1, I1, rx, q1⟩ => thn (hi pins s1 σ H1 _ I1 q1) fun iv s2 ⟨y, H2, I2, ry, a, v, ex, g, q2⟩ => ?_)
  subst ex
  obtain rfl : u = Value.ref a := rx
  exact ⟨dict_typeIs I2 g, d_getItem hu I2 g ry fun w' s3 I3 rw' => ⟨v, H2, I3, rw', q2⟩⟩
theorem pc_din (hu : X.A.units + 1 < cLine) (hi : PE X i ty) (ho : PE X o td) : PC X .In i o (tDIn ty td) := by
  intro pins s σ H Q I h
  refine thn (hi pins s σ H _ I h) fun iv s1 ⟨y, H1, I1, ry, q1⟩ => thn (ho pins s1 σ H1 _ I1 q1) fun u s2 ⟨x, H2, I2, rx, a, ov, ex, g, q2⟩ => ?_
  subst ex
  obtain rfl : u = Value.ref a := rx
  exact d_in hu I2 g ry fun s3 I3 => ⟨.bl ov.isSome, H2, I3, rfl, q2⟩
theorem pc_dnotin (hu : X.A.units + 1 < cLine) (hi : PE X i ty) (ho : PE X o td) : PC X .NotIn i o (tDNotIn ty td) := by
  intro pins s σ H Q I h
  refine thn (hi pins s σ H _ I h) fun iv s1 ⟨y, H1, I1, ry, q1⟩ => thn (ho pins s1 σ H1 _ I1 q1) fun u s2 ⟨x, H2, I2, rx, a, ov, ex, g, q2⟩ => ?_
  subst ex
  obtain rfl : u = Value.ref a := rx
  exact d_notIn hu I2 g ry fun s3 I3 => ⟨.bl (!ov.isSome), H2, I3, rfl, q2⟩
theorem ps_dput (hu : X.A.units + 1 < cLine) (ho : PE X o td) (hi : PE X i ty) (hv : PE X value tv) (hs : swapsWith value (some (.Subscript o i pos')) pos.line X.env = pure false) :
    PS X (.Assign [.Subscript o i pos'] value pos) (sDPut td ty tv) := by
  intro pins s σ H D I h
  refine wpAny_Assign_Subscript (thn (hv pins s σ H _ I h) fun r s1 ⟨v, H1, I1, rv, q1⟩ => thn (ho pins s1 σ H1 _ I1 q1) fun u s2 ⟨x, H2, I2, rx, q2⟩ => thn (hi pins s2 σ H2 _ I2 q2) fun iv s3 ⟨y, H3, I3, ry, a, H4, ex, g, q3⟩ => ?_) hs
  subst ex
  obtain rfl : u = Value.ref a := rx
  exact d_setItem hu I3 g ry rv fun s4 I4 => ⟨σ, H4, I4, q3⟩
theorem ps_daug {op : Operator} {rd : V → V → Hp → VK → Prop} (hu : X.A.units + 1 < cLine) (ho : PE X o td) (hi : PE X i ty) (hv : PE X value tv) (hop : InOp X op rd)
    (ha : ∀ ov iv new, augStore i ov iv new = (do holding [new, ov, iv] (setItem ov iv new); release [new, ov, iv] []; pure .next)) : PS X (.AugAssign (.Subscript o i tpos) op value pos) (sDAug td ty tv rd) := by
  intro pins s σ H D I h
  refine wpAny_AugAssign_SubscriptAny (thn (ho pins s σ H _ I h) fun u s1 ⟨x, H1, I1, rx, q1⟩ => thn (hi pins s1 σ H1 _ I1 q1) fun iv s2 ⟨y, H2, I2, ry, a, v, ex, g, q2⟩ => ?_) ha
  subst ex
  obtain rfl : u = Value.ref a := rx
  refine d_getItem hu I2 g ry fun w' s3 I3 rw' => thn (hv pins s3 σ H2 _ I3 q2) fun w2 s4 ⟨y2, H3, I4, ry2, q3⟩ => thn (hop pins s4 σ H3 v y2 w' w2 _ I4 rw' ry2 q3) fun w3 s5 ⟨z, H4, I5, rz, H5, g5, q4⟩ => ?_
  exact d_setItem hu I5 g5 ry rz fun s6 I6 => ⟨σ, H5, I6, q4⟩
theorem ps_ddel (ho : PE X o td) (hi : PE X i ty) : PS X (.Delete [.Subscript o i tpos] pos) (sDDel td ty) := by
  intro pins s σ H D I h
  refine wpAny_Delete (wpAny_deleteEach_cons (wpAny_delete_Subscript (thn (ho pins s σ H _ I h) fun u s1 ⟨x, H1, I1, rx, q1⟩ => thn (hi pins s1 σ H1 _ I1 q1) fun iv s2 ⟨y, H2, I2, ry, a, kvs, k, ex, e, ey, l, q2⟩ => ?_)))
  subst ex ey
  obtain rfl : u = Value.ref a := rx
  exact d_delItem I2 e ry l fun s3 I3 => wpAny_deleteEach_nil ⟨σ, _, I3, q2⟩
end


/-! ### displays -/
theorem dk_empty {P : Program} {w : World} {H : Hp} (h : Heap) (hb : sysModules < h.objs.size) : ObjOk P w H (h.push { cls := .type "dict", data := .dict #[] }) h.objs.size (.dK []) :=
  ⟨Nat.zero_le _, beq_eq_false_iff_ne.mpr (Ne.symm (Nat.ne_of_lt hb)), [], .nil, Heap.DictOf.new h⟩
theorem dt_empty {P : Program} {w : World} {H : Hp} (h : Heap) (hb : sysModules < h.objs.size) : ObjOk P w H (h.push { cls := .type "dict", data := .dict #[] }) h.objs.size (.dT []) :=
  ⟨Nat.zero_le _, beq_eq_false_iff_ne.mpr (Ne.symm (Nat.ne_of_lt hb)), [], .nil, _, #[], 0, Heap.get?_push_size _ rfl, ⟨rfl, rfl, rfl⟩, rfl, rfl, List.nodup_nil⟩
/-- {}, to be a dict of the kind that is wanted -/
def tDNewK : TE := fun _ H Q => ∀ p, H p = none → Q (.ref p) (upd H p (.dK []))
def tDNewT : TE := fun _ H Q => ∀ p, H p = none → Q (.ref p) (upd H p (.dT []))
section
variable {X : Cx} {pos : Pos}
theorem pe_dnewK : PE X (.Dict [] [] pos) tDNewK := fun pins s σ H Q I h =>
  wpAny_Dict_empty ⟨.ref s.heap.objs.size, _, I.laid (a := s.heap.objs.size) (o := .dK []) (t' := s.toks) (fun _ _ q => Heap.get?_push_of_some _ q) (Nat.le_refl _) (dk_empty s.heap I.big), rfl, h _ (I.hok.fresh (Nat.le_refl _))⟩
theorem pe_dnewT : PE X (.Dict [] [] pos) tDNewT := fun pins s σ H Q I h =>
  wpAny_Dict_empty ⟨.ref s.heap.objs.size, _, I.laid (a := s.heap.objs.size) (o := .dT []) (t' := s.toks) (fun _ _ q => Heap.get?_push_of_some _ q) (Nat.le_refl _) (dt_empty s.heap I.big), rfl, h _ (I.hok.fresh (Nat.le_refl _))⟩
end

/-- the pairs of a display, from the left -/
def tPairs : List (TE × TE) → St → Hp → (List (V × V) → Hp → Prop) → Prop
  | [], _, H, Q => Q [] H
  | (tk, tv) :: r, σ, H, Q => tk σ H fun x H1 => tv σ H1 fun y H2 => tPairs r σ H2 fun ps H3 => Q ((x, y) :: ps) H3
abbrev VV : List (V × V) → List (Value × Value) → Prop := Paired fun p q => RelV p.1 q.1 ∧ RelV p.2 q.2
def PPs (X : Cx) (pos : Pos) (keys : List (Option Expr)) (values : List Expr) (trs : List (TE × TE)) : Prop :=
  ∀ (pins : List (Addr × Obj)) (s : Shared) (σ : St) (H : Hp) (Q : List (V × V) → Hp → Prop), Inv X pins σ H s → tPairs trs σ H Q →
    wpAny (model X.prog X.w) X.A (evalPairs (pairTrees keys values X.env pos)) (fun vs s' => ∃ ps H', Inv X pins σ H' s' ∧ VV ps vs ∧ Q ps H') X.xe s
theorem pps_nil {X : Cx} {pos : Pos} : PPs X pos [] [] [] := fun pins s σ H Q I h => pairTrees_nil_walk ⟨[], H, I, .nil, h⟩
theorem pps_cons {X : Cx} {pos : Pos} {k v : Expr} {ks : List (Option Expr)} {vs : List Expr} {tk tv : TE} {trs : List (TE × TE)} (hk : PE X k tk) (hv : PE X v tv) (hr : PPs X pos ks vs trs) :
    PPs X pos (some k :: ks) (v :: vs) ((tk, tv) :: trs) := fun pins s σ H Q I h =>
  pairTrees_cons_walk (thn (hk pins s σ H _ I h) fun u s1 ⟨x, H1, I1, rx, q1⟩ => thn (hv pins s1 σ H1 _ I1 q1) fun w2 s2 ⟨y, H2, I2, ry, q2⟩ =>
    thn (hr pins s2 σ H2 _ I2 q2) fun ws s3 ⟨ps, H3, I3, rel, q3⟩ => ⟨(x, y) :: ps, H3, I3, .cons ⟨rx, ry⟩ rel, q3⟩)

def mergeK (kvs more : List (Key × V)) : List (Key × V) := more.foldl (fun acc kv => putK acc kv.1 kv.2) kvs
theorem KV.merge : ∀ {more : List (Key × V)} {rs : List (Key × Value)} {kvs : List (Key × V)} {vs : List (Key × Value)}, KV more rs → KV kvs vs → KV (mergeK kvs more) (merged vs rs) := by
  intro more rs kvs vs r
  unfold KV at r
  induction r generalizing kvs vs with
  | nil => intro q; exact q
  | @cons p q ps qs h t ih =>
    intro r0
    have e : KV (putK kvs p.1 p.2) (stored vs q.1 q.2) := by
      have := r0.put p.1 h.2
      rw [← h.1]; exact this
    exact ih e
theorem length_mergeK : ∀ (more kvs : List (Key × V)), (mergeK kvs more).length ≤ kvs.length + more.length
  | [], kvs => by show kvs.length ≤ kvs.length + 0; omega
  | p :: r, kvs => by
    have h1 := length_mergeK r (putK kvs p.1 p.2)
    have h2 := length_putK kvs p.1 p.2
    show (mergeK (putK kvs p.1 p.2) r).length ≤ _
    rw [List.length_cons]; omega
theorem carries_of {P : Program} {w : World} : ∀ {kvs : List (Key × V)} {ws : List (Value × Value)}, VV (kvs.map fun kv => (kV kv.1, kv.2)) ws → ∃ rs, Carries (mixKind P w) ws rs ∧ KV kvs rs
  | [], _, r => by rw [List.map_nil] at r; cases r; exact ⟨[], True.intro, .nil⟩
  | p :: kvs, _, r => by
    rw [List.map_cons] at r
    cases r with
    | @cons a b as bs h t =>
      obtain ⟨rs, c, q⟩ := carries_of (P := P) (w := w) t
      obtain ⟨b1, b2⟩ := b
      exact ⟨(p.1, b2) :: rs, ⟨kV_is h.1, rfl, c⟩, .cons ⟨rfl, h.2⟩ q⟩
/-- {k: v, ..} with keys ints and texts; the new dict stands empty while the pairs are made -/
def tDisp (trs : List (TE × TE)) : TE := fun σ H Q => ∀ p, H p = none → tPairs trs σ (upd H p (.dK [])) fun ps H2 => H2 p = some (.dK []) ∧ ∃ kvs : List (Key × V), ps = kvs.map (fun kv => (kV kv.1, kv.2)) ∧ kvs.length ≤ 15 ∧ Q (.ref p) (upd H2 p (.dK (mergeK [] kvs)))
theorem pe_disp {X : Cx} {pos : Pos} {keys : List (Option Expr)} {values : List Expr} {trs : List (TE × TE)} (h : PPs X pos keys values trs) (hall : keys.all (·.isSome) = true) (hl : keys.length = values.length) (h0 : keys ≠ [])
    (h15 : keys.length ≤ 15) : PE X (.Dict keys values pos) (tDisp trs) := by
  intro pins s σ H Q I q
  have hn := I.hok.fresh (Nat.le_refl s.heap.objs.size)
  have I1 := I.laid (a := s.heap.objs.size) (o := .dK []) (h' := s.heap.push { cls := .type "dict", data := .dict #[] }) (t' := s.toks) (fun _ _ q => Heap.get?_push_of_some _ q) (Nat.le_refl _) (dk_empty s.heap I.big)
  refine wpAny_Dict_walk (knd := mixKind X.prog X.w) hall hl h0 h15 (thn (h pins _ σ _ _ I1 (q _ hn)) fun ws s2 ⟨ps, H2, I2, rel, e, kvs, ep, lk, q2⟩ => ?_)
  subst ep
  obtain ⟨rs, c, rk⟩ := carries_of (P := X.prog) (w := X.w) rel
  obtain ⟨z, hd, vs0, r0, dd⟩ := dk_of I2.hok e
  cases r0
  refine ⟨rs, c, dd, fun h' dd' hs => ⟨.ref s.heap.objs.size, _, ?_, rfl, q2⟩⟩
  have hz : (mergeK [] kvs).length ≤ sizeLine := by
    have h1 := length_mergeK kvs []
    rw [List.length_nil] at h1
    rw [sizeLine_eq]; omega
  have he : ∃ q, h'.get? s.heap.objs.size = some q := let ⟨q, _, _, hq, _⟩ := dd'; ⟨q, hq⟩
  exact d_write I2 (by rw [e]; exact True.intro) hs he (dk_new hz hd (rk.merge .nil) dd')


/-! ### methods -/
/-- a method call o.m(e) of a built-in, with one argument: what must be seen of the text -/
structure M1 (X : Cx) (o : Expr) (m : Str) (apos : Pos) (e : Expr) (cpos : Pos) : Prop where
  base : attributeBase o m X.env (eval o X.env) = eval o X.env
  few : ((backTo cpos (starEach [e] X.env)).all (fun x => !x.1) && (backToKw cpos (keywordEach [] X.env)).all (fun x => x.1.isSome)
    && decide (([e] : List Expr).length + ([] : List Keyword).length + (if ([] : List Keyword).isEmpty then 0 else 1) < 30)) = true
  line : (apos.endLine == cpos.line) = true
  trees : backTo cpos (starEach [e] X.env) = [(false, eval e X.env)]
structure M2 (X : Cx) (o : Expr) (m : Str) (apos : Pos) (e f : Expr) (cpos : Pos) : Prop where
  base : attributeBase o m X.env (eval o X.env) = eval o X.env
  few : ((backTo cpos (starEach [e, f] X.env)).all (fun x => !x.1) && (backToKw cpos (keywordEach [] X.env)).all (fun x => x.1.isSome)
    && decide (([e, f] : List Expr).length + ([] : List Keyword).length + (if ([] : List Keyword).isEmpty then 0 else 1) < 30)) = true
  line : (apos.endLine == cpos.line) = true
  trees : backTo cpos (starEach [e, f] X.env) = [(false, eval e X.env), (false, eval f X.env)]

/-- a is a dict, whatever its keys -/
def IsD (H : Hp) (a : Addr) : Prop := (∃ kvs, Rd H a (.dK kvs)) ∨ ∃ kvs, Rd H a (.dT kvs)
theorem isD_at {X : Cx} {pins : List (Addr × Obj)} {σ : St} {H : Hp} {s : Shared} {a : Addr} (I : Inv X pins σ H s) (d : IsD H a) :
    s.TypeIs (.ref a) "dict" ∧ (∀ b, Value.ref a = .ref b → ∃ ob, s.heap.get? b = some ob ∧ ob.dict = none) ∧ (a == sysModules) = false := by
  rcases d with ⟨kvs, e⟩ | ⟨kvs, e⟩
  · obtain ⟨_, hd, vs, _, dd⟩ := dk_rd I.hok e
    refine ⟨dd.typeIs, fun b q => ?_, hd⟩
    cases q
    obtain ⟨ob, _, _, h1, h2, _⟩ := dd
    exact ⟨ob, h1, h2.2.1⟩
  · obtain ⟨_, hd, xs, _, dd⟩ := dt_rd I.hok e
    refine ⟨dd.typeIs, fun b q => ?_, hd⟩
    cases q
    obtain ⟨ob, _, _, h1, h2, _⟩ := dd
    exact ⟨ob, h1, h2.2.1⟩

section
variable {X : Cx} {pins : List (Addr × Obj)} {σ : St} {H : Hp} {s : Shared} {a : Addr} {y d : V} {u r : Value} {o : Option V} {A : Around} {E : Value → Shared → Prop}
/-- d.get(y) -/
theorem d_get1 {Q : Value → Shared → Prop} (hu : A.units + 1 < cLine) (I : Inv X pins σ H s) (g : DGet H a y o) (ry : RelV y u) (h : ∀ w' s', Inv X pins σ H s' → RelV (o.getD .non) w' → Q w' s') :
    wpAny (model X.prog X.w) A (call (.builtin "dict.get") [.ref a, u]) Q E s := by
  rcases g with ⟨kvs, k, e, ey, l⟩ | ⟨kvs, k, b, e, ey, eb, l⟩
  · subst ey
    obtain ⟨z, hd, vs, rel, dd⟩ := dk_rd I.hok e
    refine call_meetsIn PySem.F.slot_dict_get dd.typeIs PySem.F.entry_dict_get (PySem.F.args_dict_get_2 _ _) (meets_dict_get (mixKind X.prog X.w) a (kV_is ry) hd) ⟨_, dd.mapOf, h _ _ (I.tok _) ?_⟩
    rw [l]
    exact (rel.val k).getD rfl
  · subst ey
    cases (show u = Value.ref b from ry)
    obtain ⟨z, hd, xs, rel, dd⟩ := dt_rd I.hok e
    refine call_meetsIn PySem.F.slot_dict_get dd.typeIs PySem.F.entry_dict_get (PySem.F.args_dict_get_2 _ _) (meetsH_dict_get (tupleKind (mixKind X.prog X.w)) a b hd) ⟨tupleKind_room_in1 hu, k, xs, key_of I.hok eb, dd, h _ _ (I.tok _) ?_⟩
    rw [l]
    exact (rel.val k).getD rfl
/-- d.get(y, x) -/
theorem d_get2 {Q : Value → Shared → Prop} (hu : A.units + 1 < cLine) (I : Inv X pins σ H s) (g : DGet H a y o) (ry : RelV y u) (rd : RelV d r) (h : ∀ w' s', Inv X pins σ H s' → RelV (o.getD d) w' → Q w' s') :
    wpAny (model X.prog X.w) A (call (.builtin "dict.get") [.ref a, u, r]) Q E s := by
  rcases g with ⟨kvs, k, e, ey, l⟩ | ⟨kvs, k, b, e, ey, eb, l⟩
  · subst ey
    obtain ⟨z, hd, vs, rel, dd⟩ := dk_rd I.hok e
    refine call_meetsIn PySem.F.slot_dict_get dd.typeIs PySem.F.entry_dict_get (PySem.F.args_dict_get_3 _ _ _) (meets_dict_get_default (mixKind X.prog X.w) a (kV_is ry) hd r) ⟨_, dd.mapOf, h _ _ (I.tok _) ?_⟩
    rw [l]
    exact (rel.val k).getD rd
  · subst ey
    cases (show u = Value.ref b from ry)
    obtain ⟨z, hd, xs, rel, dd⟩ := dt_rd I.hok e
    refine call_meetsIn PySem.F.slot_dict_get dd.typeIs PySem.F.entry_dict_get (PySem.F.args_dict_get_3 _ _ _) (meetsH_dict_get_default (tupleKind (mixKind X.prog X.w)) a b hd r) ⟨tupleKind_room_in1 hu, k, xs, key_of I.hok eb, dd, h _ _ (I.tok _) ?_⟩
    rw [l]
    exact (rel.val k).getD rd
end

def tDGet1 (td ty : TE) : TE := fun σ H Q => td σ H fun x H1 => ∃ a, x = .ref a ∧ IsD H1 a ∧ ty σ H1 fun y H2 => ∃ o, DGet H2 a y o ∧ Q (o.getD .non) H2
def tDGet2 (td ty tx : TE) : TE := fun σ H Q => td σ H fun x H1 => ∃ a, x = .ref a ∧ IsD H1 a ∧ ty σ H1 fun y H2 => tx σ H2 fun z H3 => ∃ o, DGet H3 a y o ∧ Q (o.getD z) H3
/-- d.pop(k): there; d.pop(k, x): there or not -/
def tDPop1 (td ty : TE) : TE := fun σ H Q => td σ H fun x H1 => ∃ a, x = .ref a ∧ IsD H1 a ∧ ty σ H1 fun y H2 => ∃ kvs k v, H2 a = some (.dK kvs) ∧ y = kV k ∧ valV kvs k = some v ∧ Q v (upd H2 a (.dK (dropK kvs k)))
def tDPop2 (td ty tx : TE) : TE := fun σ H Q => td σ H fun x H1 => ∃ a, x = .ref a ∧ IsD H1 a ∧ ty σ H1 fun y H2 => tx σ H2 fun z H3 => ∃ kvs k, H3 a = some (.dK kvs) ∧ y = kV k ∧
  (∀ v, valV kvs k = some v → Q v (upd H3 a (.dK (dropK kvs k)))) ∧ (valV kvs k = none → Q z H3)
section
variable {X : Cx} {o e f : Expr} {apos cpos : Pos} {td ty tx : TE}
theorem pe_dget1 (hu : X.A.units + 1 < cLine) (ho : PE X o td) (he : PE X e ty) (m : M1 X o "get" apos e cpos) : PE X (.Call (.Attribute o "get" apos) [e] [] cpos) (tDGet1 td ty) := by
  intro pins s σ H Q I h
  refine wpAny_Call_method m.base m.few m.line PySem.F.plainAttrs_dict PySem.F.slot_dict_get PySem.F.type_dict_get (thn (ho pins s σ H _ I h) fun u s1 ⟨x, H1, I1, rx, a, ex, d, q1⟩ => ?_)
  subst ex
  obtain rfl : u = Value.ref a := rx
  obtain ⟨t1, t2, _⟩ := isD_at I1 d
  refine ⟨t1, t2, ?_⟩
  rw [m.trees]
  refine Calls.callWith_builtin rfl (Calls.evalArgs_plain (Calls.spliced_cons (thn (he pins s1 σ H1 _ I1 q1) fun iv s2 ⟨y, H2, I2, ry, ov, g, q2⟩ => Calls.spliced_nil ?_)))
  exact d_get1 hu I2 g ry fun w' s3 I3 rw' => ⟨_, H2, I3, rw', q2⟩
theorem pe_dget2 (hu : X.A.units + 1 < cLine) (ho : PE X o td) (he : PE X e ty) (hf : PE X f tx) (m : M2 X o "get" apos e f cpos) : PE X (.Call (.Attribute o "get" apos) [e, f] [] cpos) (tDGet2 td ty tx) := by
  intro pins s σ H Q I h
  refine wpAny_Call_method m.base m.few m.line PySem.F.plainAttrs_dict PySem.F.slot_dict_get PySem.F.type_dict_get (thn (ho pins s σ H _ I h) fun u s1 ⟨x, H1, I1, rx, a, ex, d, q1⟩ => ?_)
  subst ex
  obtain rfl : u = Value.ref a := rx
  obtain ⟨t1, t2, _⟩ := isD_at I1 d
  refine ⟨t1, t2, ?_⟩
  rw [m.trees]
  refine Calls.callWith_builtin rfl (Calls.evalArgs_plain (Calls.spliced_cons (thn (he pins s1 σ H1 _ I1 q1) fun iv s2 ⟨y, H2, I2, ry, q2⟩ =>
    Calls.spliced_cons (thn (hf pins s2 σ H2 _ I2 q2) fun fv s3 ⟨z, H3, I3, rz, ov, g, q3⟩ => Calls.spliced_nil ?_))))
  exact d_get2 hu I3 g ry rz fun w' s4 I4 rw' => ⟨_, H3, I4, rw', q3⟩
theorem pe_dpop1 (ho : PE X o td) (he : PE X e ty) (m : M1 X o "pop" apos e cpos) : PE X (.Call (.Attribute o "pop" apos) [e] [] cpos) (tDPop1 td ty) := by
  intro pins s σ H Q I h
  refine wpAny_Call_method m.base m.few m.line PySem.F.plainAttrs_dict PySem.F.slot_dict_pop PySem.F.type_dict_pop (thn (ho pins s σ H _ I h) fun u s1 ⟨x, H1, I1, rx, a, ex, d, q1⟩ => ?_)
  subst ex
  obtain rfl : u = Value.ref a := rx
  obtain ⟨t1, t2, _⟩ := isD_at I1 d
  refine ⟨t1, t2, ?_⟩
  rw [m.trees]
  refine Calls.callWith_builtin rfl (Calls.evalArgs_plain (Calls.spliced_cons (thn (he pins s1 σ H1 _ I1 q1) fun iv s2 ⟨y, H2, I2, ry, kvs, k, v, ea, ey, l, q2⟩ => Calls.spliced_nil ?_)))
  subst ey
  exact d_pop I2 ea ry l (.inl rfl) fun w' s3 I3 rw' => ⟨v, _, I3, rw', q2⟩
theorem pe_dpop2 (ho : PE X o td) (he : PE X e ty) (hf : PE X f tx) (m : M2 X o "pop" apos e f cpos) : PE X (.Call (.Attribute o "pop" apos) [e, f] [] cpos) (tDPop2 td ty tx) := by
  intro pins s σ H Q I h
  refine wpAny_Call_method m.base m.few m.line PySem.F.plainAttrs_dict PySem.F.slot_dict_pop PySem.F.type_dict_pop (thn (ho pins s σ H _ I h) fun u s1 ⟨x, H1, I1, rx, a, ex, d, q1⟩ => ?_)
  subst ex
  obtain rfl : u = Value.ref a := rx
  obtain ⟨t1, t2, _⟩ := isD_at I1 d
  refine ⟨t1, t2, ?_⟩
  rw [m.trees]
  refine Calls.callWith_builtin rfl (Calls.evalArgs_plain (Calls.spliced_cons (thn (he pins s1 σ H1 _ I1 q1) fun iv s2 ⟨y, H2, I2, ry, q2⟩ =>
    Calls.spliced_cons (thn (hf pins s2 σ H2 _ I2 q2) fun fv s3 ⟨z, H3, I3, rz, kvs, k, ea, ey, q3, q4⟩ => Calls.spliced_nil ?_))))
  subst ey
  cases l : valV kvs k with
  | some v => exact d_pop I3 ea ry l (.inr ⟨fv, rfl⟩) fun w' s4 I4 rw' => ⟨v, _, I4, rw', q3 v l⟩
  | none => exact d_popD I3 ea ry l fun s4 I4 => ⟨z, H3, I4, rz, q4 l⟩
end

/-! ### dict(d): a copy -/
section
variable {X : Cx} {pins : List (Addr × Obj)} {σ : St} {H : Hp} {s : Shared} {a : Addr} {kvs : List (Key × V)} {A : Around} {E : Value → Shared → Prop}
theorem d_copyOf {Q : Value → Shared → Prop} (I : Inv X pins σ H s) (e : Rd H a (.dK kvs)) (h : ∀ p s', H p = none → Inv X pins σ (upd H p (.dK kvs)) s' → Q (.ref p) s') : wpAny (model X.prog X.w) A (call (.type "dict") [.ref a]) Q E s := by
  obtain ⟨z, hd, vs, rel, dd⟩ := dk_rd I.hok e
  refine kt_call_dict hd dd (by rw [← rel.length]; exact z) fun h' dd' hs => ?_
  refine h _ _ (I.hok.fresh (Nat.le_refl _)) (I.laid (a := s.heap.objs.size) (o := .dK kvs) (t' := s.toks) (fun b q hq => ?_) (Nat.le_refl _) (dk_new z (beq_eq_false_iff_ne.mpr (Ne.symm (Nat.ne_of_lt I.big))) rel dd'))
  exact (hs.2 b (Nat.ne_of_lt (Heap.lt_size hq))).trans (Heap.get?_push_of_some _ hq)
end


section
variable {X : Cx} {pins : List (Addr × Obj)} {σ : St} {H : Hp} {s : Shared} {a : Addr} {y : V} {u : Value} {A : Around} {E : Value → Shared → Prop}
/-- d[y], not there: a KeyError -/
theorem d_missing {Q : Value → Shared → Prop} (hu : A.units + 1 < cLine) (hh : A.handled = none) (I : Inv X pins σ H s) (g : DGet H a y none) (ry : RelV y u)
    (h : ∀ h' e t', Heap.NewExc s.heap h' e "KeyError" → E (.ref e) { s with heap := h', toks := t' }) : wpAny (model X.prog X.w) A (getItem (.ref a) u) Q E s := by
  rcases g with ⟨kvs, k, e, ey, l⟩ | ⟨kvs, k, b, e, ey, eb, l⟩
  · subst ey
    obtain ⟨z, hd, vs, rel, dd⟩ := dk_rd I.hok e
    have hn : valueAt vs k = none := RelO.none_of (by rw [l]; exact rel.val k)
    exact wpAny_getItem_missing_of (kV_is ry) hd hh dd.mapOf hn fun h' ex ne => h h' ex _ ne
  · subst ey
    cases (show u = Value.ref b from ry)
    obtain ⟨z, hd, xs, rel, dd⟩ := dt_rd I.hok e
    have hn : (atKey xs k).map (·.2) = none := RelO.none_of (by rw [l]; exact rel.val k)
    exact wpAny_getItem_missing_heap (tupleKind_room_in1 hu) (key_of I.hok eb) hd hh dd (Option.map_eq_none_iff.mp hn) fun h' ex ne => h h' ex _ ne
end
end L2

namespace L2
open PySem PySem.Spec PyProof.Rows

theorem list_keys_none : typeLookup (.type "list") "keys" = pure none := am_miss_of_fast (by first | decide +kernel | rfl)
theorem ud_entry : entryFor table "dict.update.loop" = some Builtin.«dict.update.loop» := entryFor_of_tree (by kernel_rfl)
theorem ud_plain : plainId "dict.update.loop" = true := by decide +kernel

section
variable {prog : Program} {w : World} {A : Around} {E : Value → Shared → Prop}
/-- a list has no attribute 'keys': an AttributeError is made, and forgotten -/
theorem miss_list {s : Shared} {a : Addr} {o : Obj} {xs : Array Value} {k : Nat} {Q : Option Value → Shared → Prop} (hx : s.heap.get? a = some o) (hc : o.cls = .type "list") (hdat : o.data = .seq xs k) (hd : o.dict = none) (hA : A.handled = none)
    (h : ∀ h' tk, (∀ b ob, s.heap.get? b = some ob → h'.get? b = some ob) → Q none { s with heap := h', toks := tk }) : wpAny (model prog w) A (getAttr? (.ref a) "keys") Q E s := by
  obtain ⟨c, dct, dat, sl⟩ := o
  simp only at hc hdat hd
  subst hc hdat hd
  obtain ⟨hp, g, d, tk, os⟩ := s
  have hT : ∀ tk', (⟨hp, g, d, tk', os⟩ : Shared).TypeIs (.ref a) "list" := fun _ => ⟨_, hx, rfl⟩
  have hmiss := list_keys_none
  have hname : (["__module__", "__name__", "__qualname__", "__doc__", "__annotations__"] : List Str).contains "keys" = false := by decide +kernel
  have hsz : ("keys" : Str).length + 100 ≤ sizeLine := by first | size_fits | decide +kernel
  have f1 := sub_AttributeError
  have f3 := PySem.F.slot_list_getattribute.lookup
  have f4 := PySem.F.slot_list_getattribute.bind (.ref a)
  have f5 := am_list_getattr_none
  unfold getAttr? getAttrBy? getAttrBy
  repeat (any_goals (first | assumption | exact hT _ | ((with_reducible show wpAny _ _ (call (Value.builtin "list.__getattribute__") _ _) _ _ _); refine call_meets PySem.F.slot_list_getattribute (hT _) am_entry_list_getattribute (PySem.F.args_list_getattribute_2 _ _) (meets_getattribute_miss_list a xs k sl "keys" _ hmiss hname hsz) ⟨hx, hA, fun h' tk' e hx' => ?_⟩) | wp_step))
  obtain ⟨t', u', he⟩ := hx'.there
  show wpAny _ _ (getattributeRaised _ _ _ _ _ _ _) _ _ _
  unfold getattributeRaised
  repeat (any_goals (first | assumption | wp_step))
  all_goals first | exact h _ _ hx'.keeps | (dsimp only; repeat (any_goals (first | assumption | exact h _ _ hx'.keeps | wp_step)))

/-- the walk over the pairs -/
theorem upd_loop {R : Result → Shared → Prop} {S I l : Addr} {items : Array Value} {res : Value} (hh : A.handled = none) (hlI : l ≠ I) (hSI : S ≠ I) (hSl : S ≠ l) :
    ∀ (rest : List (Key × Value)) (i : Nat) (acc : List (Key × Value)) (ix : Int) (t : Tok) (s : Shared), items.size = i + rest.length → acc.length + rest.length ≤ sizeLine →
      (∀ (j : Nat) (q : Key × Value), rest[j]? = some q → ∃ (b : Addr) (u : Value), items[i + j]? = some (.ref b) ∧ b ≠ S ∧ b ≠ I ∧ IsTup s.heap b #[u, q.2] ∧ keyIs q.1 u = true) →
      s.heap.IsListIter I l i → s.heap.IsList l items → s.heap.DictOf (mixKind prog w) S acc →
      (∀ h' tk, h'.DictOf (mixKind prog w) S (merged acc rest) → (∀ b o, b ≠ S → b ≠ I → s.heap.get? b = some o → h'.get? b = some o) → R (.ok (.ret res)) { s with heap := h', toks := tk }) →
      codeAny (model prog w) A (.builtin "dict.update.loop" ⟨[.ref S, .ref I, .int ix t, res], []⟩) R s
  | [], i, acc, ix, t, s, hsz, hln, ht, hit, hl, hm, hR => by
    refine codeAny_builtin ud_entry ?_
    rw [Around.under_plainId ud_plain _]
    show wpAny _ A.in1 (pyNext (.ref I) >>= _) _ _ s
    refine wpAny_bind (wpAny_pyNext_list_end (A := A.in1) hh hit hl (by first | exact Array.getElem?_eq_none (Nat.le_of_eq hsz) | (simp at hsz; simp; omega)) fun h' he => ?_)
    show wpAny _ A.in1 (Builtin.Dict.addKeywords S [] >>= _) _ _ _
    refine wpAny_bind (wpAny_pure (wpAny_pure ?_))
    exact hR h' s.toks (hm.extBut he hSI) fun b o _ hb e => he b o hb e
  | q :: rest, i, acc, ix, t, s, hsz, hln, ht, hit, hl, hm, hR => by
    obtain ⟨b, u, hb, hbS, hbI, htup, hk⟩ := ht 0 q rfl
    rw [List.length_cons] at hsz hln
    refine codeAny_builtin ud_entry ?_
    rw [Around.under_plainId ud_plain _]
    show wpAny _ A.in1 (pyNext (.ref I) >>= _) _ _ s
    refine wpAny_bind (wpAny_pyNext_list_item (x := .ref b) hit hl (by simpa using hb) fun h1 hit1 hs1 => ?_)
    have ht1 : IsTup h1 b #[u, q.2] := htup.extBut hs1.extBut hbI
    have hl1 : h1.IsList l items := hl.extBut hs1.extBut hlI
    have hm1 : h1.DictOf (mixKind prog w) S acc := hm.extBut hs1.extBut hSI
    obtain ⟨o, ho, hc, n, hd⟩ := id ht1
    show wpAny _ A.in1 (holding [Value.ref b] _ >>= _) _ _ _
    refine wpAny_bind (wpAny_holding ?_)
    refine wpAny_bind (wpAny_tryCatch ?_)
    unfold Builtin.Dict.pairItems
    refine wpAny_bind (wpAny_typeOf (T := "tuple") ⟨o, ho, hc⟩ ?_)
    rw [if_pos (by first | decide | rfl | simp)]
    refine wpAny_bind (wpAny_seqItems ho hd (wpAny_pure ?_))
    show wpAny _ A.in1 (holding [u, q.2] (dictSet S u q.2)) _ _ _
    refine wpAny_holding (wpAny_dictSet_pairs (knd := mixKind prog w) (k := q.1) hk hm1 (fun h2 hm2 hs2 => ?_) (by omega))
    refine wpAny_pure ⟨plainId_quiet ud_plain _, upd_loop (items := items) hh hlI hSI hSl rest (i + 1) (stored acc q.1 q.2) (ix + 1) 0 _ (show items.size = i + 1 + rest.length by omega) ?_ (fun j q' e => ?_) ?_ ?_ hm2 fun h' tk hd' k => ?_⟩
    · have z := stored_length_le acc q.1 q.2
      omega
    · obtain ⟨b', u', hb', hbS', hbI', htup', hk'⟩ := ht (j + 1) q' (by simpa using e)
      refine ⟨b', u', ?_, hbS', hbI', (htup'.extBut hs1.extBut hbI').extBut hs2.extBut hbS', hk'⟩
      rw [show i + 1 + j = i + (j + 1) by omega]
      exact hb'
    · exact hit1.at fun o' e => hs2.extBut I o' (Ne.symm hSI) e
    · exact hl1.extBut hs2.extBut (Ne.symm hSl)
    · exact hR h' tk hd' fun c oc h3 h4 e => k c oc h3 h4 (hs2.extBut c oc h3 (hs1.extBut c oc h4 e))

/-- dict(l) of a list of pairs -/
theorem call_dict_pairs {s : Shared} {l : Addr} {ol : Obj} {items : Array Value} {n : Nat} {prs : List (Key × Value)} {Q : Value → Shared → Prop} (hh : A.handled = none) (hl : s.heap.get? l = some ol) (hc : ol.cls = .type "list") (hd : ol.dict = none)
    (hdat : ol.data = .seq items n) (hsz : items.size = prs.length) (hln : prs.length ≤ sizeLine)
    (ht : ∀ (j : Nat) (q : Key × Value), prs[j]? = some q → ∃ (b : Addr) (u : Value), items[j]? = some (.ref b) ∧ IsTup s.heap b #[u, q.2] ∧ keyIs q.1 u = true)
    (h : ∀ h' tk, h'.DictOf (mixKind prog w) s.heap.objs.size (merged [] prs) → (∀ b o, s.heap.get? b = some o → h'.get? b = some o) → Q (.ref s.heap.objs.size) { s with heap := h', toks := tk }) :
    wpAny (model prog w) A (call (.type "dict") [.ref l]) Q E s := by
  refine callType_codes (Q₁ := fun obj s₁ => obj = .ref s.heap.objs.size ∧ s₁ = { s with heap := s.heap.push { cls := .type "dict", data := .dict #[] } }) PySem.F.kt_called_dict (PySem.F.kt_typeCall_dict_1 _) PySem.F.entry_dict_init (kt_code_dict_new _ ⟨rfl, rfl⟩) ?_
  rintro obj s₁ ⟨rfl, rfl⟩
  have hnew : (s.heap.push { cls := .type "dict", data := .dict #[] }).DictOf (mixKind prog w) s.heap.objs.size [] := Heap.DictOf.new s.heap
  have k0 : ∀ b o, s.heap.get? b = some o → (s.heap.push { cls := .type "dict", data := .dict #[] }).get? b = some o := fun b o e => Heap.get?_push_of_some _ e
  refine ⟨hnew.typeIs, PySem.F.args_dict_init_2 _ _, ?_⟩
  unfold Builtin.«dict.__init__»
  refine wpAny_bind ?_
  unfold Builtin.Dict.selfAndRest
  refine wpAny_bind (wpAny_notOrdered_dict hnew.typeIs ?_)
  show wpAny _ _ (pure (s.heap.objs.size, [Value.ref l])) _ _ _
  refine wpAny_pure ?_
  show wpAny _ _ (Builtin.Dict.updateFrom "dict.__init__" s.heap.objs.size (.ref l) [] .none) _ _ _
  unfold Builtin.Dict.updateFrom
  refine wpAny_bind (wpAny_typeOf (T := "list") ⟨ol, k0 _ _ hl, hc⟩ ?_)
  rw [if_pos (by first | decide | rfl | simp)]
  refine wpAny_bind (miss_list (k0 _ _ hl) hc hdat hd hh fun h1 tk1 hk1 => ?_)
  rw [if_pos (show (none : Option Value).isNone = true from rfl)]
  refine wpAny_bind (wpAny_rule ?_)
  have hl1 : h1.IsList l items := ⟨ol, hk1 _ _ (k0 _ _ hl), hc, n, hdat⟩
  have hS1 : s.heap.objs.size < h1.objs.size := by
    have e : (s.heap.push { cls := .type "dict", data := .dict #[] }).get? s.heap.objs.size = some { cls := .type "dict", data := .dict #[] } := Heap.get?_push_size _ rfl
    exact Heap.lt_size (hk1 _ _ e)
  refine wpAny_bind (wpAny_pyIter_list hl1 ?_)
  have k2 : ∀ b o, h1.get? b = some o → (h1.push { cls := .type "list_iterator", data := .fields #[.ref l, .int 0 0] }).get? b = some o := fun b o e => Heap.get?_push_of_some _ e
  have hlt : l < s.heap.objs.size := Heap.lt_size hl
  have key := upd_loop (prog := prog) (w := w) (A := A.in1) (R := wants (fun r s₂ => r = .none ∧ Q (.ref s.heap.objs.size) s₂) E) (S := s.heap.objs.size) (I := h1.objs.size) (l := l) (items := items) (res := Value.none) hh
    (Nat.ne_of_lt (Nat.lt_trans hlt hS1)) (Nat.ne_of_lt hS1) (Nat.ne_of_gt hlt) prs 0 [] 0 0
    { s with heap := h1.push { cls := .type "list_iterator", data := .fields #[.ref l, .int 0 0] }, toks := tk1 } (by rw [hsz, Nat.zero_add]) (by rw [List.length_nil, Nat.zero_add]; exact hln)
    (fun j q e => by
      obtain ⟨b, u, e1, e2, e3⟩ := ht j q e
      have hb : b < s.heap.objs.size := e2.lt
      exact ⟨b, u, by rw [Nat.zero_add]; exact e1, Nat.ne_of_lt hb, Nat.ne_of_lt (Nat.lt_trans hb hS1), e2.keeps fun c o z => k2 _ _ (hk1 _ _ (k0 _ _ z)), e3⟩)
    ⟨_, Heap.get?_push_size _ rfl, rfl, rfl⟩ (hl1.at fun o e => k2 _ _ e) ((hnew.at fun o e => hk1 _ _ e).at fun o e => k2 _ _ e)
    (fun h' tk hd' k => ⟨rfl, h h' tk hd' fun b o e => k b o (Nat.ne_of_lt (Heap.lt_size e)) (Nat.ne_of_lt (Nat.lt_trans (Heap.lt_size e) hS1)) (k2 _ _ (hk1 _ _ (k0 _ _ e)))⟩)
  first
    | exact wpAny_pure ⟨plainId_quiet ud_plain _, key⟩
    | exact wpAny_bind (wpAny_pure (wpAny_pure ⟨plainId_quiet ud_plain _, key⟩))
end

section
variable {X : Cx}
theorem pairs_of {pins : List (Addr × Obj)} {σ : St} {H : Hp} {s : Shared} (I : Inv X pins σ H s) : ∀ {ps : List Addr} {kvs : List (Key × V)}, Paired (fun p kv => SqT X.K H p [kV kv.1, kv.2]) ps kvs →
    ∃ prs : List (Key × Value), KV kvs prs ∧ prs.length = ps.length ∧ ∀ (j : Nat) (q : Key × Value), prs[j]? = some q → ∃ (b : Addr) (u : Value), ps[j]? = some b ∧ IsTup s.heap b #[u, q.2] ∧ keyIs q.1 u = true
  | _, _, .nil => ⟨[], .nil, rfl, fun j q e => by simp at e⟩
  | _, _, .cons (a := p) (b := kv) h t => by
    obtain ⟨prs, r, hl, hp⟩ := pairs_of I t
    obtain ⟨its, rv, ht, _⟩ := I.tuple h
    obtain ⟨u, y, ei, ru, ry⟩ := vals2 rv
    subst ei
    refine ⟨(kv.1, y) :: prs, .cons ⟨rfl, ry⟩ r, by rw [List.length_cons, List.length_cons, hl], fun j q e => ?_⟩
    cases j with
    | zero =>
      have e' : (kv.1, y) = q := Option.some.inj e
      subst e'
      exact ⟨p, u, rfl, ht, kV_is (P := X.prog) (w := X.w) ru⟩
    | succ j =>
      obtain ⟨b, u', e1, e2, e3⟩ := hp j q (by simpa using e)
      exact ⟨b, u', by simpa using e1, e2, e3⟩
theorem refs_at : ∀ {ps : List Addr} {us : List Value}, Vals (ps.map V.ref) us → us = ps.map Value.ref
  | [], us, r => by
    rw [List.map_nil] at r
    cases r
    rfl
  | p :: ps, us, r => by
    rw [List.map_cons] at r
    cases r with
    | cons h t =>
      cases h
      rw [List.map_cons, ← refs_at t]
/-- dict(xs) of a list of pairs (key, value): later pairs win, the place is the first one's -/
theorem call_dictP (hcalm : X.calm = true) : CallR X (.type "dict") (fun xs H Q => ∃ (a : Addr) (ps : List Addr) (kvs : List (Key × V)), xs = [.ref a] ∧ SqL X.K H a (ps.map V.ref) ∧ Paired (fun p kv => SqT X.K H p [kV kv.1, kv.2]) ps kvs ∧
    ∀ p, H p = none → Q (.ref p) (upd H p (.dK (mergeK [] kvs)))) := by
  intro pins s σ H xs us Q I r q
  obtain ⟨a, ps, kvs, ex, hq, hp, q⟩ := q
  subst ex
  obtain ⟨u, eu, rx⟩ := vals1 r
  subst eu
  cases rx
  obtain ⟨its, rv, pl, hz⟩ := I.list hq
  have ei := refs_at rv
  subst ei
  rw [List.length_map] at hz
  obtain ⟨prs, rel, hl, hpr⟩ := pairs_of I hp
  obtain ⟨o, n, ho, hc, hd, hdat⟩ := pl
  refine call_dict_pairs (prs := prs) (I.ok.hd hcalm) ho hc hd hdat (by simp [hl]) (by rw [hl]; exact hz) (fun j q' e => ?_) fun h' tk hd' k => ?_
  · obtain ⟨b, u, e1, e2, e3⟩ := hpr j q' e
    exact ⟨b, u, by simp [e1], e2, e3⟩
  · have hm : (s.heap.objs.size == sysModules) = false := beq_eq_false_iff_ne.mpr (Nat.ne_of_gt I.big)
    have hlen : (mergeK [] kvs).length ≤ sizeLine := by
      refine Nat.le_trans (length_mergeK kvs []) ?_
      rw [List.length_nil, Nat.zero_add, rel.length, hl]
      exact hz
    exact ⟨.ref s.heap.objs.size, upd H s.heap.objs.size (.dK (mergeK [] kvs)), I.laid (t' := tk) k (Nat.le_refl _) (show ObjOk X.prog X.w _ _ _ (.dK (mergeK [] kvs)) from ⟨hlen, hm, merged [] prs, KV.merge rel .nil, hd'⟩), rfl, q _ (I.hok.fresh (Nat.le_refl _))⟩
end
end L2

namespace L2
open PySem PySem.Spec PyProof.Rows

theorem boot_reversed5 : bootBuiltins "reversed" = some (.type "reversed") := by decide +kernel

section
variable {X : Cx} {pins : List (Addr × Obj)} {σ : St} {H : Hp} {s : Shared} {h' : Heap}
/-- several records of ours have turned -/
theorem Inv.turnedL {t' : Nat} {ch : List Addr} (I : Inv X pins σ H s) (k : ∀ b o, b ∉ ch → s.heap.get? b = some o → h'.get? b = some o) (hf : ∀ b ∈ ch, FpOk X pins H b) : Inv X pins σ H { s with heap := h', toks := t' } := by
  have nit : ∀ b u, H b = some u → b ∉ ch := fun b u e z => by
    have q := (hf b z).1
    rw [q] at e; cases e
  refine I.step (g' := s.gens) (d' := s.drawn) (ch := ch) (fun b hb => ⟨(hf b hb).2.2.2.1, (hf b hb).2.1, (hf b hb).2.2.2.2.1, (hf b hb).2.2.2.2.2⟩) (fun b o _ _ hc e _ => k b o hc e) (fun b o _ _ hc e _ => ⟨o.slots, k b o hc e⟩)
    (fun _ _ _ _ n => n) (fun b o hc e => ⟨o, k b o hc e⟩) (fun _ _ e => e) (fun _ _ _ e => e) (fun b ps e => ⟨#[], by rw [e]; simp⟩) (fun m hm => ?_) (fun b u e => ?_) I.bare
  · obtain ⟨o, es, ep, ho, r⟩ := hm
    exact ⟨o, es, ep, k _ o (fun z => (hf _ z).2.1 rfl) ho, r⟩
  · refine (I.hok b u e).stay (fun c v hc q => k c v ?_ q) (fun _ q => q) fun _ _ q => q
    rcases hc with z | z
    · rw [z]; exact nit b u e
    · exact nit c _ z
/-- .. and one new object is laid -/
theorem Inv.turnedNew {t' : Nat} {ch : List Addr} {T : Addr} {ob : HO} (I : Inv X pins σ H s) (k : ∀ b o, b ∉ ch → s.heap.get? b = some o → h'.get? b = some o) (hf : ∀ b ∈ ch, FpOk X pins H b) (hT : s.heap.objs.size ≤ T)
    (new : ObjOk X.prog X.w (upd H T ob) h' T ob) : Inv X pins σ (upd H T ob) { s with heap := h', toks := t' } := by
  have hn : H T = none := I.hok.fresh hT
  have nit : ∀ b u, H b = some u → b ∉ ch := fun b u e z => by
    have q := (hf b z).1
    rw [q] at e; cases e
  refine I.step (g' := s.gens) (d' := s.drawn) (ch := ch) (fun b hb => ⟨(hf b hb).2.2.2.1, (hf b hb).2.1, (hf b hb).2.2.2.2.1, (hf b hb).2.2.2.2.2⟩) (fun b o _ _ hc e _ => k b o hc e) (fun b o _ _ hc e _ => ⟨o.slots, k b o hc e⟩)
    (fun b o _ e n => ?_) (fun b o hc e => ⟨o, k b o hc e⟩) (fun b xs e => ?_) (fun b o u e => ?_) (fun b ps e => ⟨#[], ?_⟩) (fun m hm => ?_) (fun b u e => ?_) I.bare
  · rw [upd_ne (Nat.ne_of_lt (Nat.lt_of_lt_of_le (Heap.lt_size e) hT))]; exact n
  · rw [upd_ne (ne_of_none e hn)]; exact e
  · rw [upd_ne (ne_of_none e hn)]; exact e
  · rw [upd_ne (ne_of_none e hn), e]; simp
  · obtain ⟨o, es, ep, ho, r⟩ := hm
    exact ⟨o, es, ep, k _ o (fun z => (hf _ z).2.1 rfl) ho, r⟩
  · by_cases hb : b = T
    · subst hb
      rw [upd_same] at e
      cases e
      exact new
    · rw [upd_ne hb] at e
      refine (I.hok b u e).stay (fun c v hc q => k c v ?_ q) (fun c q => by rw [upd_ne (ne_of_none q hn)]; exact q) fun c xs q => by rw [upd_ne (ne_of_none q hn)]; exact q
      rcases hc with z | z
      · rw [z]; exact nit b u e
      · exact nit c _ z

/-! ### locking a thing while a statement runs -/
theorem Inv.lock {d : Addr} {u : HO} (I : Inv X pins σ H s) (h : H d = some u) (mu : Mut (some u)) : ∃ od, Inv X pins σ (upd H d (.frz od u)) s := by
  have x := I.hok d u h
  have ex : ∃ od, s.heap.get? d = some od := by
    cases u with
    | lst xs => obtain ⟨_, _, _, _, e⟩ := x; exact ⟨_, e⟩
    | dK kvs => obtain ⟨_, _, _, _, o, _, _, e, _⟩ := x; exact ⟨o, e⟩
    | dT kvs => obtain ⟨_, _, _, _, o, _, _, e, _⟩ := x; exact ⟨o, e⟩
    | set S n => obtain ⟨o, _, _, _, e, _⟩ := x; exact ⟨o, e⟩
    | ins C dx fs => obtain ⟨_, _, _, e, _⟩ := x; exact ⟨_, e⟩
    | ext φ => obtain ⟨_, ⟨_, e⟩, _⟩ := x; exact ⟨_, e⟩
    | _ => exact False.elim mu
  obtain ⟨od, e⟩ := ex
  have new : ObjOk X.prog X.w (upd H d (.frz od u)) s.heap d (.frz od u) := by
    refine ⟨e, x.stay (fun b v _ q => q) (fun b q => ?_) fun b xs q => ?_⟩
    · rw [upd_ne (fun z => by rw [z, h] at q; cases q; exact mu)]; exact q
    · rw [upd_ne (fun z => by rw [z, h] at q; cases q; exact mu)]; exact q
  exact ⟨od, I.write (x := d) (e := d) (t' := s.toks) (h' := s.heap) (by rw [h]; exact mu) (.inl rfl) (fun b v _ q => q) ⟨od, e⟩ new⟩
theorem Inv.nofrz {d : Addr} {u : HO} (I : Inv X pins σ H s) (h : H d = some u) (mu : Mut (some u)) : ∀ o' u', X.H_0 d ≠ some (.frz o' u') := fun o' u' e => by
  have q := I.base.frzs d o' u' e
  rw [h] at q
  cases q
  exact mu
theorem Inv.unlock {d : Addr} {od : Obj} {u : HO} (I : Inv X pins σ H s) (h : H d = some (.frz od u)) (hn : ∀ o' u', X.H_0 d ≠ some (.frz o' u')) : Inv X pins σ (upd H d u) s := by
  have neH : ∀ b o, H b = some o → (∀ o' u', o ≠ .frz o' u') → b ≠ d := fun b o e hne z => by
    rw [z, h] at e
    cases e
    exact hne _ _ rfl
  have neN : ∀ b, H b = none → b ≠ d := fun b e z => by rw [z, h] at e; cases e
  refine ⟨I.ok, I.os, I.bare, ⟨I.base.keep, I.base.slot, fun b o e n hx => ?_, I.base.there, fun b xs e => ?_, fun b o x e => ?_, fun b ps e => ?_⟩, I.loc, I.cell, ?_, fun x c e => ?_, fun p hp => ?_, fun b o e => ?_, I.len⟩
  · rw [upd_ne (neN b (I.base.free b o e n hx))]; exact I.base.free b o e n hx
  · have q := I.base.tups b xs e
    rw [upd_ne (neH b _ q (fun _ _ z => nomatch z))]; exact q
  · have q := I.base.frzs b o x e
    rw [upd_ne (fun z => by rw [z] at e; exact hn _ _ e)]; exact q
  · obtain ⟨m, q⟩ := I.base.tbls b ps e
    exact ⟨m, by rw [upd_ne (neH b _ q (fun _ _ z => nomatch z))]; exact q⟩
  · rw [upd_ne (neN _ I.free)]; exact I.free
  · rw [upd_ne (neN c (I.freeC x c e))]; exact I.freeC x c e
  · obtain ⟨e, n, r⟩ := I.pin p hp
    exact ⟨e, by rw [upd_ne (neN _ n)]; exact n, r⟩
  · by_cases hb : b = d
    · rw [hb, upd_same] at e
      cases e
      rw [hb]
      obtain ⟨_, x⟩ := I.hok d _ h
      exact x.stay (fun c v _ q => q) (fun c q => by rw [upd_ne (neH c _ q (fun _ _ z => nomatch z))]; exact q) fun c xs q => by rw [upd_ne (neH c _ q (fun _ _ z => nomatch z))]; exact q
    · rw [upd_ne hb] at e
      exact (I.hok b o e).stay (fun c v _ q => q) (fun c q => by rw [upd_ne (neH c _ q (fun _ _ z => nomatch z))]; exact q) fun c xs q => by rw [upd_ne (neH c _ q (fun _ _ z => nomatch z))]; exact q
end
/-- the statement runs while the thing at d is locked (read, not written); d and what stands there are the reading's choice -/
def tLock (t : TS) : TS := fun D σ H => ∃ d u, H d = some u ∧ Mut (some u) ∧ ∀ od, t ⟨fun σ' H' => H' d = some (.frz od u) ∧ D.nx σ' (upd H' d u), fun v H' => H' d = some (.frz od u) ∧ D.rt v (upd H' d u), fun σ' H' => H' d = some (.frz od u) ∧ D.bk σ' (upd H' d u), fun σ' H' => H' d = some (.frz od u) ∧ D.ct σ' (upd H' d u)⟩ σ (upd H d (.frz od u))
def tLockE (t : TE) : TE := fun σ H Q => ∃ d u, H d = some u ∧ Mut (some u) ∧ ∀ od, t σ (upd H d (.frz od u)) fun v H' => H' d = some (.frz od u) ∧ Q v (upd H' d u)
section
variable {X : Cx}
theorem ps_lock {st : Stmt} {t : TS} (h : PS X st t) : PS X st (tLock t) := by
  intro pins s σ H D I hw
  obtain ⟨d, u, hd, mu, hw⟩ := hw
  obtain ⟨od, I1⟩ := I.lock hd mu
  refine thn (h pins s σ _ _ I1 (hw od)) fun f s1 q => ?_
  cases f with
  | next => obtain ⟨σ', H', I2, e, q⟩ := q; exact ⟨σ', _, I2.unlock e (I.nofrz hd mu), q⟩
  | brk => obtain ⟨σ', H', I2, e, q⟩ := q; exact ⟨σ', _, I2.unlock e (I.nofrz hd mu), q⟩
  | cont => obtain ⟨σ', H', I2, e, q⟩ := q; exact ⟨σ', _, I2.unlock e (I.nofrz hd mu), q⟩
  | ret v => obtain ⟨x, σ', H', I2, r, e, q⟩ := q; exact ⟨x, σ', _, I2.unlock e (I.nofrz hd mu), r, q⟩
theorem pe_lock {e : Expr} {t : TE} (h : PE X e t) : PE X e (tLockE t) := by
  intro pins s σ H Q I hw
  obtain ⟨d, u, hd, mu, hw⟩ := hw
  obtain ⟨od, I1⟩ := I.lock hd mu
  refine thn (h pins s σ _ _ I1 (hw od)) fun v s1 ⟨x, H1, I2, r, e2, q⟩ => ?_
  exact ⟨x, _, I2.unlock e2 (I.nofrz hd mu), r, q⟩

/-! ### one iterator just laid -/
theorem pi_one {tg : Expr} {pins : List (Addr × Obj)} {σ : St} {H : Hp} {s : Shared} {R : It → Hp → Prop} {J : It} {tn : Nat → Heap → Prop} {tk : Nat} (I : Inv X pins σ H s) (o : Obj)
    (T : Turn X.prog X.w X.K tg J [s.heap.objs.size] s.heap.objs.size tn) (st : tn 0 (s.heap.push o)) (q : R J H) : PIE X pins σ tg R (.ref s.heap.objs.size) { s with heap := s.heap.push o, toks := tk } := by
  refine ⟨s.heap.objs.size, [s.heap.objs.size], tn, J, H, rfl, I.kept fun b ob e => Heap.get?_push_of_some _ e, T, st, fun b hb => ?_, q⟩
  have e : b = s.heap.objs.size := by simpa using hb
  subst e
  exact I.fpOk (Nat.le_refl _) (I.hok.fresh (Nat.le_refl _))
end

/-! ### range with a step -/
/-- lo, lo + c, .. (n of them) -/
def Itc (lo c : Int) (n : Nat) : It := ⟨fun i _ => i < n, fun i H x H' => H' = H ∧ x = .int (lo + (i : Nat) * c), fun i _ => n ≤ i⟩
theorem turn_rangeC {P : Program} {w : World} {K : PySem.W.Frag} {tg : Expr} (it : Addr) (lo c : Int) (n : Nat) : Turn P w K tg (Itc lo c n) [it] it (fun i h => IsRangeIter h it (lo + (i : Nat) * c) ((n : Int) - (i : Nat)) c) where
  mem := by simp
  obj := fun i h st b hb => by
    have e : b = it := by simpa using hb
    subst e
    exact ⟨_, st, fun v z => nomatch z⟩
  keep := fun i h h' st k => k it (by simp) _ st
  item := by
    intro X hP hw hK hc i pins s σ H E I hf st hg
    subst hP hw hK
    obtain ⟨f0, f1, f2, f3, f4, f5⟩ := hf it (by simp)
    have W := Walks.range (prog := X.prog) (w := X.w) (I.ok.hd hc) it lo c n
    refine W.item i s _ _ hg st fun v h' tk hv st' kk => ?_
    obtain ⟨t, rfl⟩ := hv
    have I1 : Inv X pins σ H { s with heap := h', toks := tk } := I.turned (fun b o hb e => kk b o (by simpa using hb) e) f0 f1 f3 f4 f5
    exact ⟨_, rfl, go_of (s := { s with heap := h', toks := tk }) (n := "range_iterator") st' rfl rfl (by decide) ⟨.int (lo + (i : Nat) * c), H, I1, ⟨t, rfl⟩, ⟨rfl, rfl⟩, st', fun b hb => (hf b hb).1⟩⟩
  done := by
    intro X hP hw hK hc i pins s σ H E I hf st hg
    subst hP hw hK
    obtain ⟨f0, f1, f2, f3, f4, f5⟩ := hf it (by simp)
    exact wpAny_pyNext_range_end (I.ok.hd hc) st (by have : n ≤ i := hg; omega) fun h' eb => ⟨rfl, I.turned (t' := s.toks) (fun b o hb e => eb b o hb e) f0 f1 f3 f4 f5⟩
  self := fun A i s Q E st h => wpAny_pyIter_rangeiter st h
/-- range(i, j, c): small bounds, n items -/
def RgC (i j c : Int) (n : Nat) : Prop := c ≠ 0 ∧ c.natAbs < 1073741824 ∧ Builtin.Range.small i j c = true ∧ Builtin.Range.rangeSize i j c = n
theorem RgC.neg {i j : Int} (ha : -(2 ^ 62) ≤ i) (ha' : i < 2 ^ 62) (hb : -(2 ^ 62) ≤ j) (hb' : j < 2 ^ 62) : RgC i j (-1) (i - j).toNat :=
  ⟨by decide, by decide, PySem.W.small_down ha ha' hb hb', PySem.W.rangeSize_downNat i j⟩
def iRng3 (ta : TA) : TI := fun σ H R => ta σ H fun vs H1 => ∃ (i j c : Int) (n : Nat), vs = [.int i, .int j, .int c] ∧ RgC i j c n ∧ R (Itc i c n) H1
section
variable {X : Cx} {tg : Expr}
theorem pi_range3 {a b c : Expr} {ta : TA} {p pos : Pos} (hg : Gl X "range") (hm : X.mg "range" = none) (ha : PA X [a, b, c] ta)
    (hs : starEach [a, b, c] X.env = (false, eval a X.env) :: starEach [b, c] X.env := by rfl) (hpl : (backTo pos (starEach [b, c] X.env)).any (·.1) = false := by rfl) :
    PI X tg (.Call (.Name "range" p) [a, b, c] [] pos) (iRng3 ta) := by
  intro pins s σ H R I h
  refine Call_ (ld_blt I hg hm boot_range (PyProof.Rows.callWith_type1 (thn (ha pos pins s σ H _ I h) fun us s1 ⟨vs, H1, I1, r1, q1⟩ => ?_) hs hpl))
  obtain ⟨i, j, k, n, e, ⟨c0, c1, c2, c3⟩, q⟩ := q1
  subst e
  cases r1 with
  | cons r rr =>
    cases rr with
    | cons r' rr =>
      cases rr with
      | cons r'' rr =>
        cases rr
        obtain ⟨t, rfl⟩ := r
        obtain ⟨t', rfl⟩ := r'
        obtain ⟨t'', rfl⟩ := r''
        refine call_range_3 c0 ?_ (.inl (PyProof.noPylong_small c1))
        refine wpAny_pyIter_range (IsRange.new ..) c2 ?_
        have I2 : Inv X pins σ H1 { s1 with heap := s1.heap.push { cls := .type "range", data := .fields #[.int i t, .int j t', .int k t''] } } := I1.kept (t' := s1.toks) fun b o e => Heap.get?_push_of_some _ e
        refine pi_one (tk := s1.toks) I2 _ (turn_rangeC _ i k n) ?_ q
        have e1 : i + ((0 : Nat) : Int) * k = i := by simp
        have e2 : (n : Int) - ((0 : Nat) : Int) = Builtin.Range.rangeSize i j k := by rw [c3]; simp
        show IsRangeIter _ _ (i + ((0 : Nat) : Int) * k) ((n : Int) - ((0 : Nat) : Int)) k
        rw [e1, e2]
        exact Heap.get?_push_size _ rfl
end
/-- the turns of a step range, for the for loop -/
theorem for_rangeC {lo c : Int} {n : Nat} {g : TG} {tb : TS} {D : Ends} {σ : St} {H : Hp} (Pv : Nat → St → Hp → Prop) (h0 : Pv 0 σ H)
    (hs : ∀ i σ H, i < n → Pv i σ H → g (.int (lo + (i : Nat) * c)) σ H fun σ2 H2 => tb { D with nx := Pv (i + 1), ct := Pv (i + 1), bk := D.nx } σ2 H2) (hd : ∀ σ H, Pv n σ H → D.nx σ H) :
    ∃ W : Nat → Nat → St → Hp → Prop, (∃ m, W 0 m σ H) ∧ ∀ i m σ H, W i m σ H →
      ((Itc lo c n).stop i H ∧ D.nx σ H) ∨ ((Itc lo c n).go i H ∧ ∃ N : St → Hp → Prop, (∀ σ' H', N σ' H' → ∃ m', m' < m ∧ W (i + 1) m' σ' H') ∧ ∀ x H', (Itc lo c n).yld i H x H' → g x σ H' fun σ2 H2 => tb { D with nx := N, ct := N, bk := D.nx } σ2 H2) := by
  refine ⟨fun i m σ H => m = n - i ∧ i ≤ n ∧ Pv i σ H, ⟨n, by simp, Nat.zero_le _, h0⟩, ?_⟩
  rintro i m σ H ⟨rfl, hi, p⟩
  by_cases hlt : i < n
  · refine .inr ⟨hlt, Pv (i + 1), fun σ' H' p' => ⟨n - (i + 1), by omega, rfl, hlt, p'⟩, fun x H' y => ?_⟩
    obtain ⟨e, y⟩ := y
    subst e y
    exact hs i σ _ hlt p
  · have e : i = n := by omega
    subst e
    exact .inl ⟨Nat.le_refl _, hd σ H p⟩

/-! ### reversed(list) -/
/-- the list at a (n items at the start, which the loop leaves there), from its end -/
def Itv (K : PySem.W.Frag) (a : Addr) (n : Nat) : It :=
  ⟨fun i H => i < n ∧ ∃ (xs : List V) (x : V), SqL K H a xs ∧ xs[n - 1 - i]? = some x, fun i H x H' => H' = H ∧ ∀ xs, SqL K H a xs → xs[n - 1 - i]? = some x, fun i _ => n ≤ i⟩
theorem turn_rev {P : Program} {w : World} {K : PySem.W.Frag} {tg : Expr} (a it : Addr) (n : Nat) : Turn P w K tg (Itv K a n) [it] it (fun i h => i ≤ n ∧ h.IsRevIter it a ((n : Int) - 1 - (i : Nat))) where
  mem := by simp
  obj := fun i h st b hb => by
    have e : b = it := by simpa using hb
    subst e
    obtain ⟨_, o, e, c, d⟩ := st
    exact ⟨o, e, fun v z => by rw [d] at z; cases z⟩
  keep := fun i h h' st k => ⟨st.1, st.2.at fun o e => k it (by simp) o e⟩
  item := by
    intro X hP hw hK hc i pins s σ H E I hf st hg
    subst hP hw hK
    obtain ⟨hin, xs, x, hq, hx⟩ := hg
    obtain ⟨its, rv, p, hz⟩ := I.list hq
    obtain ⟨u, hu, ru⟩ := rv.get hx
    obtain ⟨f0, f1, f2, f3, f4, f5⟩ := hf it (by simp)
    obtain ⟨_, hit⟩ := st
    have e1 : (n : Int) - 1 - ((i : Nat) : Int) = ((n - 1 - i : Nat) : Int) := by omega
    rw [e1] at hit
    refine wpAny_pyNext_rev_item hit p.isList (x := u) (by simpa using hu) fun h' st' sb => ?_
    have e2 : ((n - 1 - i : Nat) : Int) - 1 = (n : Int) - 1 - ((i + 1 : Nat) : Int) := by omega
    rw [e2] at st'
    have I1 : Inv X pins σ H { s with heap := h' } := I.turned (t' := s.toks) (fun b o hb e => (sb.2 b hb).trans e) f0 f1 f3 f4 f5
    obtain ⟨o, e, c, d⟩ := id st'
    exact ⟨u, rfl, go_of (s := { s with heap := h' }) e c d (by decide) ⟨x, H, I1, ru, ⟨rfl, fun ys hy => by rw [I.list_inj hy hq]; exact hx⟩, ⟨hin, st'⟩, fun b hb => (hf b hb).1⟩⟩
  done := by
    intro X hP hw hK hc i pins s σ H E I hf st hg
    subst hP hw hK
    obtain ⟨f0, f1, f2, f3, f4, f5⟩ := hf it (by simp)
    obtain ⟨hin, hit⟩ := st
    have hge : n ≤ i := hg
    have e1 : (n : Int) - 1 - ((i : Nat) : Int) = -1 := by omega
    rw [e1] at hit
    exact wpAny_pyNext_rev_end (I.ok.hd hc) hit fun h' eb => ⟨rfl, I.turned (t' := s.toks) (fun b o hb e => eb b o hb e) f0 f1 f3 f4 f5⟩
  self := fun A i s Q E st h => wpAny_pyIter_revIter st.2 h
def iRev (K : PySem.W.Frag) (ta : TA) : TI := fun σ H R => ta σ H fun vs H1 => ∃ (a : Addr) (xs : List V), vs = [.ref a] ∧ SqL K H1 a xs ∧ R (Itv K a xs.length) H1
section
variable {X : Cx} {tg : Expr}
theorem pi_reversed {e : Expr} {ta : TA} {p pos : Pos} (hg : Gl X "reversed") (hm : X.mg "reversed" = none) (ha : PA X [e] ta) (hs : starEach [e] X.env = [(false, eval e X.env)] := by rfl) : PI X tg (.Call (.Name "reversed" p) [e] [] pos) (iRev X.K ta) := by
  intro pins s σ H R I h
  refine Call_ (ld_blt I hg hm boot_reversed5 (PyProof.Rows.callWith_type1 (thn (ha pos pins s σ H _ I h) fun us s1 ⟨vs, H1, I1, r1, q1⟩ => ?_) hs rfl))
  obtain ⟨a, xs, e, hq, q⟩ := q1
  subst e
  cases r1 with
  | cons r rr =>
    cases rr
    cases r
    obtain ⟨its, rv, p', hz⟩ := I1.list hq
    have hl := rv.length
    have e1 : ((its.toArray.size : Nat) : Int) - 1 = (xs.length : Int) - 1 - ((0 : Nat) : Int) := by simp only [List.size_toArray]; omega
    refine call_reversed_list p'.isList (wpAny_pyIter_revIter (l := a) (i := ((its.toArray.size : Nat) : Int) - 1) ⟨_, Heap.get?_push_size _ rfl, rfl, rfl⟩ ?_)
    refine pi_one (tk := s1.toks) I1 _ (turn_rev a _ xs.length) ⟨Nat.zero_le _, ?_⟩ q
    rw [← e1]
    exact ⟨_, Heap.get?_push_size _ rfl, rfl, rfl⟩
end

/-! ### a str -/
def Its (x : Str) : It := ⟨fun i _ => i < x.cps.size, fun i H v H' => H' = H ∧ ∃ c, x.cps[i]? = some c ∧ v = .str ⟨#[c]⟩, fun i _ => x.cps.size ≤ i⟩
theorem turn_str {P : Program} {w : World} {K : PySem.W.Frag} {tg : Expr} (it : Addr) (x : Str) (t : Tok) (ty : String) (hty : ty = "str_ascii_iterator" ∨ ty = "str_iterator") :
    Turn P w K tg (Its x) [it] it (fun i h => h.IsStrIter it ty x t i) where
  mem := by simp
  obj := fun i h st b hb => by
    have e : b = it := by simpa using hb
    subst e
    obtain ⟨o, e, c, d⟩ := st
    exact ⟨o, e, fun v z => by rw [d] at z; cases z⟩
  keep := fun i h h' st k => let ⟨o, ho, r⟩ := st; ⟨o, k it (by simp) o ho, r⟩
  item := by
    intro X hP hw hK hc i pins s σ H E I hf st hg
    subst hP hw hK
    obtain ⟨f0, f1, f2, f3, f4, f5⟩ := hf it (by simp)
    have W : Walks X.prog X.w X.A it [it] [it] x.cps.size (SignAt x) (fun i h => h.IsStrIter it ty x t i) := by
      rcases hty with e | e
      · rw [e]; exact Walks.strAscii (I.ok.hd hc) it x t
      · rw [e]; exact Walks.strWide (I.ok.hd hc) it x t
    have hno : ["enumerate", "zip", "dict_itemiterator", "dict_reverseitemiterator", "odict_iterator", "itertools.zip_longest", "itertools.pairwise"].contains ty = false := by
      rcases hty with e | e
      · rw [e]; decide
      · rw [e]; decide
    refine W.item i s _ _ hg st fun v h' tk hv st' kk => ?_
    obtain ⟨c, u, hcx, rfl⟩ := hv
    have I1 : Inv X pins σ H { s with heap := h', toks := tk } := I.turned (fun b o hb e => kk b o (by simpa using hb) e) f0 f1 f3 f4 f5
    obtain ⟨oi, e, cc, dd⟩ := id st'
    exact ⟨_, rfl, go_of (s := { s with heap := h', toks := tk }) e cc dd hno ⟨.str ⟨#[c]⟩, H, I1, ⟨u, rfl⟩, ⟨rfl, c, hcx, rfl⟩, st', fun b hb => (hf b hb).1⟩⟩
  done := by
    intro X hP hw hK hc i pins s σ H E I hf st hg
    subst hP hw hK
    obtain ⟨f0, f1, f2, f3, f4, f5⟩ := hf it (by simp)
    have hx : x.cps[i]? = none := Array.getElem?_eq_none hg
    rcases hty with e | e
    · rw [e] at st
      exact wpAny_pyNext_ascii_end (I.ok.hd hc) st hx fun h' eb => ⟨rfl, I.turned (t' := s.toks) (fun b o hb e => eb b o hb e) f0 f1 f3 f4 f5⟩
    · rw [e] at st
      exact wpAny_pyNext_wide_end (I.ok.hd hc) st hx fun h' eb => ⟨rfl, I.turned (t' := s.toks) (fun b o hb e => eb b o hb e) f0 f1 f3 f4 f5⟩
  self := fun A i s Q E st h => by
    rcases hty with e | e
    · rw [e] at st; exact wpAny_pyIter_striter_ascii st h
    · rw [e] at st; exact wpAny_pyIter_striter_wide st h
def iStr (te : TE) : TI := fun σ H R => te σ H fun v H1 => ∃ x, v = .str x ∧ R (Its x) H1
theorem pi_str {X : Cx} {tg e : Expr} {te : TE} (he : PE X e te) : PI X tg e (iStr te) := by
  intro pins s σ H R I h
  refine thn (he pins s σ H _ I h) fun v s1 ⟨y, H1, I1, r1, x, ex, q⟩ => ?_
  subst ex
  obtain ⟨t, rfl⟩ := r1
  cases ha : x.cps.all (· < 128)
  · exact wpAny_pyIter_wide ha (pi_one (tk := s1.toks) I1 _ (turn_str _ x t "str_iterator" (.inr rfl)) ⟨_, Heap.get?_push_size _ rfl, rfl, rfl⟩ q)
  · exact wpAny_pyIter_ascii ha (pi_one (tk := s1.toks) I1 _ (turn_str _ x t "str_ascii_iterator" (.inl rfl)) ⟨_, Heap.get?_push_size _ rfl, rfl, rfl⟩ q)

/-! ### a dict's keys: any dict's entries -/
section
variable {prog : Program} {w : World} {A : Around} {E : Value → Shared → Prop} {s : Shared}
theorem iter_keys {d : Addr} {o : Obj} {es : Array DictEntry} {ep : Nat} {Q : Value → Shared → Prop} (hd : (d == sysModules) = false) (ho : s.heap.get? d = some o) (hc : o.ExactDict) (hdat : o.data = .dict es ep)
    (hQ : Q (.ref s.heap.objs.size) { s with heap := s.heap.push { cls := .type "dict_keyiterator", data := .fields #[.ref d, .int 0 0, .int es.size 0, .int ep 0] } }) :
    wpAny (model prog w) A (pyIter (.ref d)) Q E s := by
  have hT : s.TypeIs (.ref d) "dict" := ⟨o, ho, hc.1⟩
  refine wpAny_pyIter_slot hT F.slot_dict_iter (wpAny_call_entry F.slot_dict_iter hT F.entry_dict_iter ?_ (F.args_dict_iter_1 _))
  unfold Builtin.«dict.__iter__»
  refine wpAny_bind ?_
  unfold Builtin.Dict.dictSlotNone
  refine wpAny_bind (wpAny_notOrdered_dict hT ?_)
  show wpAny _ _ (pure (Value.ref d)) _ _ s
  refine wpAny_pure ?_
  show wpAny _ _ (Builtin.Dict.showsAll d >>= _) _ _ s
  unfold Builtin.Dict.showsAll
  rw [if_neg (by rw [hd]; exact Bool.false_ne_true)]
  refine wpAny_bind (wpAny_pure ?_)
  refine wpAny_bind (wpAny_dictEntries ho hdat ?_)
  refine wpAny_bind (wpAny_dictEpoch ho hdat ?_)
  refine wpAny_bind (wpAny_newObj_type (wpAny_pure ⟨_, rfl, "dict_keyiterator", _, ⟨_, Heap.get?_push_size _ rfl, rfl⟩, F.slot_dict_keyiterator_next.lookup, ?_⟩))
  simpa [rawInt] using hQ
theorem next_key_item {it d : Addr} {i n ep : Nat} {od : Obj} {es : Array DictEntry} {en : DictEntry} {Q : Option Value → Shared → Prop} (hit : s.heap.IsKeyIter it d i n ep) (hod : s.heap.get? d = some od) (hdd : od.data = .dict es ep)
    (hsz : es.size = n) (hx : es[i]? = some en) (hQ : ∀ h', h'.IsKeyIter it d (i + 1) n ep → Heap.SameBut it s.heap h' → Q (some en.key) { s with heap := h' }) : wpAny (model prog w) A (pyNext (.ref it)) Q E s := by
  obtain ⟨o, ho, hc, hd⟩ := id hit
  unfold pyNext
  refine wpAny_bind (wpAny_attempt (wpAny_callSpecial?_slot (name := Str.ofString "__next__") hit.typeIs F.slot_dict_keyiterator_next
    (wpAny_call_entry F.slot_dict_keyiterator_next hit.typeIs F.entry_dict_keyiterator_next ?_ (F.args_dict_keyiterator_next_1 _))))
  refine wpAny_bind (wpAny_pure ?_)
  refine wpAny_bind ?_
  refine wpAny_bind ?_
  first | refine wpAny_bind (wpAny_typeNameOfWhole_keyiter hit.typeIs (wpAny_pure ?_)) | refine wpAny_bind (wpAny_typeNameOf_keyiter hit.typeIs (wpAny_pure ?_))
  refine wpAny_bind (wpAny_fieldsOf ho hd ?_)
  have hown : Builtin.Dict_items.ownsTuple "dict_keyiterator" = false := by decide
  simp only [hown, Bool.false_eq_true, if_false]
  show wpAny _ _ (if (Value.ref d == Value.none) = true then _ else _) _ _ s
  rw [if_neg (show ¬ ((Value.ref d == Value.none) = true) from Bool.false_ne_true)]
  refine wpAny_bind (wpAny_pure ?_)
  refine wpAny_bind (wpAny_dictEntries hod hdd ?_)
  rw [if_neg (by rw [hsz]; simp)]
  refine wpAny_bind (wpAny_pure ?_)
  refine wpAny_bind (wpAny_dictEpoch hod hdd ?_)
  rw [if_neg (by simp)]
  refine wpAny_pure ?_
  obtain ⟨hlt', hen⟩ := Array.getElem?_eq_some_iff.mp hx
  simp only [show ¬ ((i : Int) < 0) from by omega, if_false, Int.toNat_natCast, Array.getElem?_eq_getElem hlt']
  refine wpAny_bind ?_
  first | refine wpAny_bind (wpAny_typeNameOfWhole_keyiter hit.typeIs (wpAny_pure ?_)) | refine wpAny_bind (wpAny_typeNameOf_keyiter hit.typeIs (wpAny_pure ?_))
  refine wpAny_bind (wpAny_isOneOf_keyiter hit.typeIs ?_)
  show wpAny _ _ (setField (.ref it) 1 (rawInt ((i : Int) + 1)) >>= _) _ _ s
  refine wpAny_bind (wpAny_setField ho hd (by simp) ?_)
  have hit' : (s.heap.update it (Obj.mapFields (·.setIfInBounds 1 (rawInt ((i : Int) + 1))))).IsKeyIter it d (i + 1) n ep :=
    ⟨_, Heap.get?_update_self _ ho (Obj.isFreed_of_fields (Obj.data_mapFields hd _)), (Obj.cls_mapFields ..).trans hc, by rw [Obj.data_mapFields hd]; simp [rawInt]⟩
  refine wpAny_bind (wpAny_holding ?_)
  refine wpAny_bind (wpAny_isOneOf_keyiter (s := { s with heap := s.heap.update it (Obj.mapFields (·.setIfInBounds 1 (rawInt ((i : Int) + 1)))) }) hit'.typeIs ?_)
  show wpAny _ _ (pure es[i].key) _ _ _
  rw [hen]
  exact wpAny_pure (wpAny_pure ⟨_, rfl, wpAny_pure (hQ _ hit' (Heap.SameBut.update ..))⟩)
theorem next_key_end {it d : Addr} {i n ep : Nat} {od : Obj} {es : Array DictEntry} {Q : Option Value → Shared → Prop} (hh : A.handled = none) (hit : s.heap.IsKeyIter it d i n ep) (hod : s.heap.get? d = some od) (hdd : od.data = .dict es ep)
    (hsz : es.size = n) (hge : n ≤ i) (hQ : ∀ h', Heap.ExtBut it s.heap h' → Q none { s with heap := h' }) : wpAny (model prog w) A (pyNext (.ref it)) Q E s := by
  obtain ⟨o, ho, hc, hd⟩ := id hit
  unfold pyNext
  refine wpAny_bind (wpAny_attempt (wpAny_callSpecial?_slot (name := Str.ofString "__next__") hit.typeIs F.slot_dict_keyiterator_next
    (wpAny_call_entry F.slot_dict_keyiterator_next hit.typeIs F.entry_dict_keyiterator_next ?_ (F.args_dict_keyiterator_next_1 _))))
  refine wpAny_bind (wpAny_pure ?_)
  refine wpAny_bind ?_
  refine wpAny_bind ?_
  first | refine wpAny_bind (wpAny_typeNameOfWhole_keyiter hit.typeIs (wpAny_pure ?_)) | refine wpAny_bind (wpAny_typeNameOf_keyiter hit.typeIs (wpAny_pure ?_))
  refine wpAny_bind (wpAny_fieldsOf ho hd ?_)
  have hown : Builtin.Dict_items.ownsTuple "dict_keyiterator" = false := by decide
  simp only [hown, Bool.false_eq_true, if_false]
  show wpAny _ _ (if (Value.ref d == Value.none) = true then _ else _) _ _ s
  rw [if_neg (show ¬ ((Value.ref d == Value.none) = true) from Bool.false_ne_true)]
  refine wpAny_bind (wpAny_pure ?_)
  refine wpAny_bind (wpAny_dictEntries hod hdd ?_)
  rw [if_neg (by rw [hsz]; simp)]
  refine wpAny_bind (wpAny_pure ?_)
  refine wpAny_bind (wpAny_dictEpoch hod hdd ?_)
  rw [if_neg (by simp)]
  refine wpAny_pure ?_
  have hge' : es.size ≤ i := by rw [hsz]; exact hge
  simp only [show ¬ ((i : Int) < 0) from by omega, if_false, Int.toNat_natCast, Array.getElem?_eq_none hge']
  refine wpAny_bind ?_
  first | refine wpAny_bind (wpAny_typeNameOfWhole_keyiter hit.typeIs (wpAny_pure ?_)) | refine wpAny_bind (wpAny_typeNameOf_keyiter hit.typeIs (wpAny_pure ?_))
  show wpAny _ _ (setField (.ref it) 0 .none >>= _) _ _ s
  refine wpAny_bind (wpAny_setField ho hd (by simp) ?_)
  show wpAny _ _ (newExc (.type "StopIteration") [] >>= _) _ _ _
  refine wpAny_bind ?_
  simp only [newExc, newTuple]
  refine wpAny_bind (wpAny_newObj_type ?_ (by size_fits))
  refine wpAny_bind (m := firstArgMember _ _) (wpAny_of_eq (a := Value.none) (by first | rfl | (simp only [firstArgMember]; rfl)) ?_)
  refine wpAny_newObj_type ?_ (by size_fits)
  simp only [raiseNew]
  refine wpAny_bind (wpAny_handled ?_)
  rw [show A.in1.handled = none from hh]
  refine wpAny_bind (wpAny_pure (wpAny_throw ?_))
  refine wpAny_bind (wpAny_isInstance (T := "StopIteration") (b := true) ⟨_, Heap.get?_push_size _ rfl, rfl⟩ isSubtype_stop ?_)
  exact wpAny_pure (hQ _ (((Heap.SameBut.update ..).extBut.push _).push _))
end

/-! ### a locked dict -/
theorem kv_get {κ : Type} {kvs : List (κ × V)} {vs : List (κ × Value)} (h : KV kvs vs) : ∀ {i : Nat} {k : κ} {v : V}, kvs[i]? = some (k, v) → ∃ u, vs[i]? = some (k, u) ∧ RelV v u := by
  unfold KV at h
  induction h with
  | nil => intro i k v e; simp at e
  | @cons a b l₁ l₂ r t ih =>
    intro i k v e
    cases i with
    | zero =>
      simp only [List.getElem?_cons_zero, Option.some.injEq] at e
      subst e
      refine ⟨b.2, ?_, r.2⟩
      simp only [List.getElem?_cons_zero]
      exact congrArg some (Prod.ext r.1.symm rfl)
    | succ j =>
      simp only [List.getElem?_cons_succ] at e ⊢
      exact ih e
theorem paired_get {α β : Type} {G : α → β → Prop} {l₁ : List α} {l₂ : List β} (h : Paired G l₁ l₂) : ∀ {i : Nat} {a : α}, l₁[i]? = some a → ∃ b, l₂[i]? = some b ∧ G a b := by
  induction h with
  | nil => intro i a e; simp at e
  | @cons a b l₁ l₂ r t ih =>
    intro i a' e
    cases i with
    | zero =>
      simp only [List.getElem?_cons_zero, Option.some.injEq] at e
      subst e
      exact ⟨b, rfl, r⟩
    | succ j =>
      simp only [List.getElem?_cons_succ] at e ⊢
      exact ih e
theorem relV_key {k : Key} {u : Value} (h : keyIs k u = true) : RelV (kV k) u := by
  rcases keyIs_shape h with ⟨i, t, rfl, rfl⟩ | ⟨x, t, rfl, rfl⟩
  · exact ⟨t, rfl⟩
  · exact ⟨t, rfl⟩
section
variable {X : Cx} {pins : List (Addr × Obj)} {σ : St} {H : Hp} {s : Shared} {d : Addr} {o : Obj}
theorem Inv.frzK {kvs : List (Key × V)} (I : Inv X pins σ H s) (h : H d = some (.frz o (.dK kvs))) :
    (d == sysModules) = false ∧ s.heap.get? d = some o ∧ o.ExactDict ∧ ∃ (es : Array DictEntry) (ep : Nat) (vs : List (Key × Value)), o.data = .dict es ep ∧ es.size = kvs.length ∧ KV kvs vs ∧ s.heap.DictAt (mixKind X.prog X.w) d vs ep := by
  obtain ⟨hd, z, hs, vs, kv, o', es, ep, ho, hx, hdt, r⟩ := I.hok d _ h
  rw [hd] at ho
  cases ho
  refine ⟨hs, hd, hx, es, ep, vs, hdt, ?_, kv, o, es, hd, hx, hdt, r⟩
  have l1 := r.2.1.length
  have l2 : kvs.length = vs.length := Paired.length kv
  rw [Array.length_toList] at l1
  omega
/-- the same for tuple keys -/
theorem Inv.frzT {kvs : List (List Key × V)} (I : Inv X pins σ H s) (h : H d = some (.frz o (.dT kvs))) :
    (d == sysModules) = false ∧ s.heap.get? d = some o ∧ o.ExactDict ∧ ∃ (es : Array DictEntry) (ep : Nat), o.data = .dict es ep ∧ es.size = kvs.length ∧
      ∀ (i : Nat) (k : List Key) (v : V), kvs[i]? = some (k, v) → ∃ (en : DictEntry) (q : Addr), es[i]? = some en ∧ en.key = .ref q ∧ H q = some (.tup (k.map kV)) := by
  obtain ⟨hd, z, hs, xs, pr, o', es, ep, ho, hx, hdt, he, _⟩ := I.hok d _ h
  rw [hd] at ho
  cases ho
  refine ⟨hs, hd, hx, es, ep, hdt, ?_, fun i k v e => ?_⟩
  · have l1 : es.size = xs.length := size_of_entries he
    have l2 : kvs.length = xs.length := Paired.length pr
    omega
  · obtain ⟨b, hb, e1, e2, _⟩ := paired_get pr e
    have q := entry_at he i
    rw [hb] at q
    exact ⟨_, b.2.1, q, rfl, e2⟩
end

/-- the keys of the locked dict at d, in their order -/
def Itk (d : Addr) (o : Obj) (kvs : List (Key × V)) : It :=
  ⟨fun i H => H d = some (.frz o (.dK kvs)) ∧ i < kvs.length, fun i H x H' => H' = H ∧ ∃ k v, kvs[i]? = some (k, v) ∧ x = kV k, fun i H => H d = some (.frz o (.dK kvs)) ∧ kvs.length ≤ i⟩
/-- .. of tuple keys: the key's own tuple -/
def Itkt (d : Addr) (o : Obj) (kvs : List (List Key × V)) : It :=
  ⟨fun i H => H d = some (.frz o (.dT kvs)) ∧ i < kvs.length, fun i H x H' => H' = H ∧ ∃ (k : List Key) (v : V) (q : Addr), kvs[i]? = some (k, v) ∧ x = .ref q ∧ H q = some (.tup (k.map kV)), fun i H => H d = some (.frz o (.dT kvs)) ∧ kvs.length ≤ i⟩
/-- the values -/
def Itd (d : Addr) (o : Obj) (kvs : List (Key × V)) : It :=
  ⟨fun i H => H d = some (.frz o (.dK kvs)) ∧ i < kvs.length, fun i H x H' => H' = H ∧ ∃ k, kvs[i]? = some (k, x), fun i H => H d = some (.frz o (.dK kvs)) ∧ kvs.length ≤ i⟩
/-- the pairs, each a new tuple -/
def Iti (d : Addr) (o : Obj) (kvs : List (Key × V)) : It :=
  ⟨fun i H => H d = some (.frz o (.dK kvs)) ∧ i < kvs.length, fun i H x H' => ∃ T k v, kvs[i]? = some (k, v) ∧ x = .ref T ∧ H T = none ∧ H' = upd H T (.tup [kV k, v]), fun i H => H d = some (.frz o (.dK kvs)) ∧ kvs.length ≤ i⟩
theorem dict_ep {o : Obj} {es es' : Array DictEntry} {ep ep' : Nat} (h : o.data = .dict es ep) (h' : o.data = .dict es' ep') : es' = es ∧ ep' = ep := by
  rw [h] at h'
  cases h'
  exact ⟨rfl, rfl⟩
section
variable {P : Program} {w : World} {K : PySem.W.Frag} {tg : Expr} {d : Addr} {o : Obj} {es : Array DictEntry} {ep : Nat}
theorem turn_keys {kvs : List (Key × V)} (it : Addr) (hod : o.data = .dict es ep) : Turn P w K tg (Itk d o kvs) [it] it (fun i h => h.IsKeyIter it d i kvs.length ep) where
  mem := by simp
  obj := fun i h st b hb => by
    have e : b = it := by simpa using hb
    subst e
    obtain ⟨oi, e, c, dd⟩ := st
    exact ⟨oi, e, fun v z => by rw [dd] at z; cases z⟩
  keep := fun i h h' st k => st.at fun oi e => k it (by simp) oi e
  item := by
    intro X hP hw hK hc i pins s σ H E I hf st hg
    subst hP hw hK
    obtain ⟨hd, hi⟩ := hg
    obtain ⟨f0, f1, f2, f3, f4, f5⟩ := hf it (by simp)
    obtain ⟨hs, hgd, hx, es', ep', vs, hdt, hsz, kv, hm⟩ := I.frzK hd
    obtain ⟨rfl, rfl⟩ := dict_ep hod hdt
    obtain ⟨⟨k, v⟩, hkv⟩ : ∃ p, kvs[i]? = some p := ⟨kvs[i], List.getElem?_eq_getElem hi⟩
    obtain ⟨u, hu, ru⟩ := kv_get kv hkv
    have hl : kvs.length = vs.length := Paired.length kv
    rw [hl] at st
    refine wpAny_pyNext_dict_item st hm hu fun key h' hkey st' sb => ?_
    have I1 : Inv X pins σ H { s with heap := h' } := I.turned (t' := s.toks) (fun b ob hb e => (sb.2 b hb).trans e) f0 f1 f3 f4 f5
    obtain ⟨oi, e, c, dd⟩ := id st'
    refine ⟨key, rfl, go_of (s := { s with heap := h' }) e c dd (by decide) ⟨kV k, H, I1, relV_key (show keyIs k key = true from hkey), ⟨rfl, k, v, hkv, rfl⟩, ?_, fun b hb => (hf b hb).1⟩⟩
    show h'.IsKeyIter it d (i + 1) kvs.length _
    rw [hl]
    exact st'
  done := by
    intro X hP hw hK hc i pins s σ H E I hf st hg
    subst hP hw hK
    obtain ⟨hd, hi⟩ := hg
    obtain ⟨f0, f1, f2, f3, f4, f5⟩ := hf it (by simp)
    obtain ⟨hs, hgd, hx, es', ep', vs, hdt, hsz, kv, hm⟩ := I.frzK hd
    obtain ⟨rfl, rfl⟩ := dict_ep hod hdt
    exact next_key_end (I.ok.hd hc) st hgd hdt hsz hi fun h' eb => ⟨rfl, I.turned (t' := s.toks) (fun b ob hb e => eb b ob hb e) f0 f1 f3 f4 f5⟩
  self := fun A i s Q E st h => wpAny_pyIter_keyiter st h
theorem turn_keysT {kvs : List (List Key × V)} (it : Addr) (hod : o.data = .dict es ep) : Turn P w K tg (Itkt d o kvs) [it] it (fun i h => h.IsKeyIter it d i kvs.length ep) where
  mem := by simp
  obj := fun i h st b hb => by
    have e : b = it := by simpa using hb
    subst e
    obtain ⟨oi, e, c, dd⟩ := st
    exact ⟨oi, e, fun v z => by rw [dd] at z; cases z⟩
  keep := fun i h h' st k => st.at fun oi e => k it (by simp) oi e
  item := by
    intro X hP hw hK hc i pins s σ H E I hf st hg
    subst hP hw hK
    obtain ⟨hd, hi⟩ := hg
    obtain ⟨f0, f1, f2, f3, f4, f5⟩ := hf it (by simp)
    obtain ⟨hs, hgd, hx, es', ep', hdt, hsz, ent⟩ := I.frzT hd
    obtain ⟨rfl, rfl⟩ := dict_ep hod hdt
    obtain ⟨⟨k, v⟩, hkv⟩ : ∃ p, kvs[i]? = some p := ⟨kvs[i], List.getElem?_eq_getElem hi⟩
    obtain ⟨en, q, hen, hkey, hq⟩ := ent i k v hkv
    refine next_key_item st hgd hdt hsz hen fun h' st' sb => ?_
    have I1 : Inv X pins σ H { s with heap := h' } := I.turned (t' := s.toks) (fun b ob hb e => (sb.2 b hb).trans e) f0 f1 f3 f4 f5
    obtain ⟨oi, e, c, dd⟩ := id st'
    exact ⟨en.key, rfl, go_of (s := { s with heap := h' }) e c dd (by decide) ⟨.ref q, H, I1, hkey, ⟨rfl, k, v, q, hkv, rfl, hq⟩, st', fun b hb => (hf b hb).1⟩⟩
  done := by
    intro X hP hw hK hc i pins s σ H E I hf st hg
    subst hP hw hK
    obtain ⟨hd, hi⟩ := hg
    obtain ⟨f0, f1, f2, f3, f4, f5⟩ := hf it (by simp)
    obtain ⟨hs, hgd, hx, es', ep', hdt, hsz, ent⟩ := I.frzT hd
    obtain ⟨rfl, rfl⟩ := dict_ep hod hdt
    exact next_key_end (I.ok.hd hc) st hgd hdt hsz hi fun h' eb => ⟨rfl, I.turned (t' := s.toks) (fun b ob hb e => eb b ob hb e) f0 f1 f3 f4 f5⟩
  self := fun A i s Q E st h => by
    refine wpAny_pyIter_slot st.typeIs F.slot_dict_keyiterator_iter (wpAny_call_entry F.slot_dict_keyiterator_iter st.typeIs F.entry_dict_keyiterator_iter ?_ (F.args_dict_keyiterator_iter_1 _))
    show wpAny _ _ (ret (.ref it)) _ _ s
    exact wpAny_pure ⟨_, rfl, "dict_keyiterator", _, st.typeIs, F.slot_dict_keyiterator_next.lookup, h⟩
theorem turn_vals {kvs : List (Key × V)} (it : Addr) (hod : o.data = .dict es ep) : Turn P w K tg (Itd d o kvs) [it] it (fun i h => h.IsValIter it d i kvs.length ep) where
  mem := by simp
  obj := fun i h st b hb => by
    have e : b = it := by simpa using hb
    subst e
    obtain ⟨oi, e, c, dd⟩ := st
    exact ⟨oi, e, fun v z => by rw [dd] at z; cases z⟩
  keep := fun i h h' st k => st.at fun oi e => k it (by simp) oi e
  item := by
    intro X hP hw hK hc i pins s σ H E I hf st hg
    subst hP hw hK
    obtain ⟨hd, hi⟩ := hg
    obtain ⟨f0, f1, f2, f3, f4, f5⟩ := hf it (by simp)
    obtain ⟨hs, hgd, hx, es', ep', vs, hdt, hsz, kv, hm⟩ := I.frzK hd
    obtain ⟨rfl, rfl⟩ := dict_ep hod hdt
    obtain ⟨⟨k, v⟩, hkv⟩ : ∃ p, kvs[i]? = some p := ⟨kvs[i], List.getElem?_eq_getElem hi⟩
    obtain ⟨u, hu, ru⟩ := kv_get kv hkv
    have hl : kvs.length = vs.length := Paired.length kv
    rw [hl] at st
    refine wpAny_pyNext_values_item st hm hu fun h' st' sb => ?_
    have I1 : Inv X pins σ H { s with heap := h' } := I.turned (t' := s.toks) (fun b ob hb e => (sb.2 b hb).trans e) f0 f1 f3 f4 f5
    obtain ⟨oi, e, c, dd⟩ := id st'
    refine ⟨u, rfl, go_of (s := { s with heap := h' }) e c dd (by decide) ⟨v, H, I1, ru, ⟨rfl, k, hkv⟩, ?_, fun b hb => (hf b hb).1⟩⟩
    show h'.IsValIter it d (i + 1) kvs.length _
    rw [hl]
    exact st'
  done := by
    intro X hP hw hK hc i pins s σ H E I hf st hg
    subst hP hw hK
    obtain ⟨hd, hi⟩ := hg
    obtain ⟨f0, f1, f2, f3, f4, f5⟩ := hf it (by simp)
    obtain ⟨hs, hgd, hx, es', ep', vs, hdt, hsz, kv, hm⟩ := I.frzK hd
    obtain ⟨rfl, rfl⟩ := dict_ep hod hdt
    have hl : kvs.length = vs.length := Paired.length kv
    rw [hl] at st
    exact wpAny_pyNext_values_end (I.ok.hd hc) st hm (List.getElem?_eq_none (by omega)) fun h' eb => ⟨rfl, I.turned (t' := s.toks) (fun b ob hb e => eb b ob hb e) f0 f1 f3 f4 f5⟩
  self := fun A i s Q E st h => wpAny_pyIter_valiter st h
theorem turn_items {kvs : List (Key × V)} {elts : List Expr} {kk : Nat} {tpos : Pos} (it : Addr) (hod : o.data = .dict es ep) :
    Turn P w K (.Tuple elts kk tpos) (Iti d o kvs) [it] it (fun i h => ∃ ok ov, IsItemIter h it d i kvs.length ep ok ov) where
  mem := by simp
  obj := fun i h st b hb => by
    have e : b = it := by simpa using hb
    subst e
    obtain ⟨ok, ov, e⟩ := st
    exact ⟨_, e, fun v z => nomatch z⟩
  keep := fun i h h' st k => let ⟨ok, ov, e⟩ := st; ⟨ok, ov, k it (by simp) _ e⟩
  item := by
    intro X hP hw hK hc i pins s σ H E I hf st hg
    subst hP hw hK
    obtain ⟨hd, hi⟩ := hg
    obtain ⟨hs, hgd, hx, es', ep', vs, hdt, hsz, kv, hm⟩ := I.frzK hd
    obtain ⟨rfl, rfl⟩ := dict_ep hod hdt
    obtain ⟨⟨k, v⟩, hkv⟩ : ∃ p, kvs[i]? = some p := ⟨kvs[i], List.getElem?_eq_getElem hi⟩
    obtain ⟨u, hu, ru⟩ := kv_get kv hkv
    have hl : kvs.length = vs.length := Paired.length kv
    obtain ⟨ok, ov, he⟩ := st
    rw [hl] at he
    have hlt : it < s.heap.objs.size := Heap.lt_size he
    refine wpAny_pyNext_items_item he hm hu fun key h' hkey ho hT hz hk => ?_
    refine ⟨_, rfl, wpAny_letOwnedTupleGo_items (s := { s with heap := h' }) ho fun h'' he' sb => ?_⟩
    have hT2 : h''.get? s.heap.objs.size = some { cls := .type "tuple", data := .seq #[key, u] } := (sb.2 _ (Nat.ne_of_gt hlt)).trans hT
    have new : ObjOk X.prog X.w (upd H s.heap.objs.size (.tup [kV k, v])) h'' s.heap.objs.size (.tup [kV k, v]) :=
      ⟨by show 2 ≤ sizeLine; decide, [key, u], .cons (relV_key (show keyIs k key = true from hkey)) (.cons ru .nil), ⟨_, hT2, rfl, _, rfl⟩⟩
    have I1 : Inv X pins σ (upd H s.heap.objs.size (.tup [kV k, v])) { s with heap := h'' } :=
      I.turnedNew (t' := s.toks) (ch := [it]) (fun b ob hb e => (sb.2 b (by simpa using hb)).trans (hk b ob (by simpa using hb) e)) hf (Nat.le_refl _) new
    refine ⟨.ref s.heap.objs.size, _, I1, rfl, ⟨_, k, v, hkv, rfl, I.hok.fresh (Nat.le_refl _), rfl⟩, ⟨key, u, ?_⟩, fun b hb => ?_⟩
    · rw [hl]; exact he'
    · have e : b = it := by simpa using hb
      rw [e, upd_ne (Nat.ne_of_lt hlt)]
      exact (hf it (by simp)).1
  done := by
    intro X hP hw hK hc i pins s σ H E I hf st hg
    subst hP hw hK
    obtain ⟨hd, hi⟩ := hg
    obtain ⟨f0, f1, f2, f3, f4, f5⟩ := hf it (by simp)
    obtain ⟨hs, hgd, hx, es', ep', vs, hdt, hsz, kv, hm⟩ := I.frzK hd
    obtain ⟨rfl, rfl⟩ := dict_ep hod hdt
    have hl : kvs.length = vs.length := Paired.length kv
    obtain ⟨ok, ov, he⟩ := st
    rw [hl] at he
    exact wpAny_pyNext_items_end (I.ok.hd hc) he hm (List.getElem?_eq_none (by omega)) fun h' eb => ⟨rfl, I.turned (t' := s.toks) (fun b ob hb e => eb b ob hb e) f0 f1 f3 f4 f5⟩
  self := fun A i s Q E st h => let ⟨_, _, e⟩ := st; PySem.W.kcp_self e h
end

/-! ### for k in d, d.keys(), d.values(), d.items() -/
/-- the dict is locked (tLock, or by the caller) -/
def iKeys (td : TE) : TI := fun σ H R => td σ H fun x H1 => ∃ d o, x = .ref d ∧ ((∃ kvs, H1 d = some (.frz o (.dK kvs)) ∧ R (Itk d o kvs) H1) ∨ ∃ kvs, H1 d = some (.frz o (.dT kvs)) ∧ R (Itkt d o kvs) H1)
def iVals (td : TE) : TI := fun σ H R => td σ H fun x H1 => ∃ d o kvs, x = .ref d ∧ H1 d = some (.frz o (.dK kvs)) ∧ R (Itd d o kvs) H1
def iItems (td : TE) : TI := fun σ H R => td σ H fun x H1 => ∃ d o kvs, x = .ref d ∧ H1 d = some (.frz o (.dK kvs)) ∧ R (Iti d o kvs) H1
def iKeysM (td : TE) : TI := fun σ H R => td σ H fun x H1 => ∃ d o kvs, x = .ref d ∧ H1 d = some (.frz o (.dK kvs)) ∧ R (Itk d o kvs) H1
section
variable {X : Cx} {tg e : Expr} {td : TE} {apos cpos : Pos}
theorem pi_keys (he : PE X e td) : PI X tg e (iKeys td) := by
  intro pins s σ H R I h
  refine thn (he pins s σ H _ I h) fun u s1 ⟨x, H1, I1, rx, d, o, ex, q⟩ => ?_
  subst ex
  obtain rfl : u = Value.ref d := rx
  rcases q with ⟨kvs, hd, q⟩ | ⟨kvs, hd, q⟩
  · obtain ⟨hs, hgd, hx, es, ep, vs, hdt, hsz, kv, hm⟩ := I1.frzK hd
    refine iter_keys hs hgd hx hdt (pi_one (tk := s1.toks) I1 _ (turn_keys _ hdt) ⟨_, Heap.get?_push_size _ rfl, rfl, ?_⟩ q)
    rw [hsz] <;> rfl
  · obtain ⟨hs, hgd, hx, es, ep, hdt, hsz, ent⟩ := I1.frzT hd
    refine iter_keys hs hgd hx hdt (pi_one (tk := s1.toks) I1 _ (turn_keysT _ hdt) ⟨_, Heap.get?_push_size _ rfl, rfl, ?_⟩ q)
    rw [hsz] <;> rfl
theorem pi_values (he : PE X e td) (hbase : attributeBase e "values" X.env (eval e X.env) = eval e X.env := by rfl) (hline : (apos.endLine == cpos.line) = true := by rfl) : PI X tg (.Call (.Attribute e "values" apos) [] [] cpos) (iVals td) := by
  intro pins s σ H R I h
  refine wpAny_Call_method (T := "dict") (id := "dict.values") hbase rfl hline F.plainAttrs_dict F.slot_dict_values F.type_dict_values (thn (he pins s σ H _ I h) fun u s1 ⟨x, H1, I1, rx, d, o, kvs, ex, hd, q⟩ => ?_)
  subst ex
  obtain rfl : u = Value.ref d := rx
  obtain ⟨hs, hgd, hx, es, ep, vs, hdt, hsz, kv, hm⟩ := I1.frzK hd
  have hl : kvs.length = vs.length := Paired.length kv
  refine ⟨hm.dictOf.typeIs, hm.dictOf.mapOf.noDict, ?_⟩
  have I2 : Inv X pins σ H1 { s1 with heap := s1.heap.push { cls := .type "dict_values", data := .fields #[.ref d] } } := I1.kept (t' := s1.toks) fun b ob q => Heap.get?_push_of_some _ q
  have fin : wpAny (model X.prog X.w) X.A (pyIter (.ref s1.heap.objs.size)) (PIE X pins σ tg R) X.xe { s1 with heap := s1.heap.push { cls := .type "dict_values", data := .fields #[.ref d] } } := by
    refine wpAny_pyIter_values (d := d) (knd := mixKind X.prog X.w) ⟨_, Heap.get?_push_size _ rfl, rfl, rfl⟩ (hm.push _) (pi_one (tk := s1.toks) I2 _ (turn_vals _ hdt) ⟨_, Heap.get?_push_size _ rfl, rfl, ?_⟩ q)
    rw [hl] <;> rfl
  show wpAny _ _ (callWith cpos (.builtin "dict.values") [.ref d] [] []) _ X.xe s1
  exact method_meetsIn F.slot_dict_values F.entry_dict_values rfl (PySem.evalArgs_none ⟨rfl, hm.dictOf.typeIs, F.args_dict_values_1 _, _, meets_dict_values (mixKind X.prog X.w) d hs, ⟨vs, hm.dictOf⟩, fin⟩)
theorem pi_items {elts : List Expr} {kk : Nat} {tpos : Pos} (he : PE X e td) (hbase : attributeBase e "items" X.env (eval e X.env) = eval e X.env := by rfl) (hline : (apos.endLine == cpos.line) = true := by rfl) :
    PI X (.Tuple elts kk tpos) (.Call (.Attribute e "items" apos) [] [] cpos) (iItems td) := by
  intro pins s σ H R I h
  refine wpAny_Call_method (T := "dict") (id := "dict.items") hbase rfl hline F.plainAttrs_dict F.slot_dict_items F.type_dict_items (thn (he pins s σ H _ I h) fun u s1 ⟨x, H1, I1, rx, d, o, kvs, ex, hd, q⟩ => ?_)
  subst ex
  obtain rfl : u = Value.ref d := rx
  obtain ⟨hs, hgd, hx, es, ep, vs, hdt, hsz, kv, hm⟩ := I1.frzK hd
  have hl : kvs.length = vs.length := Paired.length kv
  refine ⟨hm.dictOf.typeIs, hm.dictOf.mapOf.noDict, ?_⟩
  have I2 : Inv X pins σ H1 { s1 with heap := s1.heap.push { cls := .type "dict_items", data := .fields #[.ref d] } } := I1.kept (t' := s1.toks) fun b ob q => Heap.get?_push_of_some _ q
  have fin : wpAny (model X.prog X.w) X.A (pyIter (.ref s1.heap.objs.size)) (PIE X pins σ (.Tuple elts kk tpos) R) X.xe { s1 with heap := s1.heap.push { cls := .type "dict_items", data := .fields #[.ref d] } } := by
    refine wpAny_pyIter_items (d := d) (knd := mixKind X.prog X.w) ⟨_, Heap.get?_push_size _ rfl, rfl, rfl⟩ (hm.push _) (pi_one (tk := s1.toks) I2 _ (turn_items _ hdt) ⟨.none, .none, ?_⟩ q)
    rw [hl]
    exact Heap.get?_push_size _ rfl
  show wpAny _ _ (callWith cpos (.builtin "dict.items") [.ref d] [] []) _ X.xe s1
  exact method_meetsIn F.slot_dict_items F.entry_dict_items rfl (PySem.evalArgs_none ⟨rfl, hm.dictOf.typeIs, F.args_dict_items_1 _, _, meets_dict_items (mixKind X.prog X.w) d hs, ⟨vs, hm.dictOf⟩, fin⟩)
theorem pi_keysM (he : PE X e td) (hbase : attributeBase e "keys" X.env (eval e X.env) = eval e X.env := by rfl) (hline : (apos.endLine == cpos.line) = true := by rfl) : PI X tg (.Call (.Attribute e "keys" apos) [] [] cpos) (iKeysM td) := by
  intro pins s σ H R I h
  refine wpAny_Call_method (T := "dict") (id := "dict.keys") hbase rfl hline F.plainAttrs_dict F.slot_dict_keys F.type_dict_keys (thn (he pins s σ H _ I h) fun u s1 ⟨x, H1, I1, rx, d, o, kvs, ex, hd, q⟩ => ?_)
  subst ex
  obtain rfl : u = Value.ref d := rx
  obtain ⟨hs, hgd, hx, es, ep, vs, hdt, hsz, kv, hm⟩ := I1.frzK hd
  have hl : kvs.length = vs.length := Paired.length kv
  refine ⟨hm.dictOf.typeIs, hm.dictOf.mapOf.noDict, ?_⟩
  have I2 : Inv X pins σ H1 { s1 with heap := s1.heap.push { cls := .type "dict_keys", data := .fields #[.ref d] } } := I1.kept (t' := s1.toks) fun b ob q => Heap.get?_push_of_some _ q
  have fin : wpAny (model X.prog X.w) X.A (pyIter (.ref s1.heap.objs.size)) (PIE X pins σ tg R) X.xe { s1 with heap := s1.heap.push { cls := .type "dict_keys", data := .fields #[.ref d] } } := by
    refine PySem.W.kdl_pyIter_keys (d := d) (knd := mixKind X.prog X.w) ⟨_, Heap.get?_push_size _ rfl, rfl, rfl⟩ (hm.push _) (pi_one (tk := s1.toks) I2 _ (turn_keys _ hdt) ⟨_, Heap.get?_push_size _ rfl, rfl, ?_⟩ q)
    rw [hl] <;> rfl
  show wpAny _ _ (callWith cpos (.builtin "dict.keys") [.ref d] [] []) _ X.xe s1
  exact method_meetsIn F.slot_dict_keys F.entry_dict_keys rfl (PySem.evalArgs_none ⟨rfl, hm.dictOf.typeIs, F.args_dict_keys_1 _, _, PySem.W.kdl_meets_keys (mixKind X.prog X.w) d hs, ⟨vs, hm.dictOf⟩, fin⟩)
end

/-! ### enumerate(list) -/
/-- the list at a as it stands at each turn, each item in a new pair -/
def Ite (K : PySem.W.Frag) (a : Addr) : It :=
  ⟨fun i H => ∃ (xs : List V) (x : V), SqL K H a xs ∧ xs[i]? = some x, fun i H v H' => ∃ T x, v = .ref T ∧ H T = none ∧ H' = upd H T (.tup [.int (i : Nat), x]) ∧ ∀ xs, SqL K H a xs → xs[i]? = some x, fun i H => ∃ xs : List V, SqL K H a xs ∧ xs.length ≤ i⟩
theorem turn_enum {P : Program} {w : World} {K : PySem.W.Frag} {elts : List Expr} {kk : Nat} {tpos : Pos} (a e it : Addr) :
    Turn P w K (.Tuple elts kk tpos) (Ite K a) [e, it] e (fun i h => (∃ old, IsEnum h e it ((i : Nat) : Int) old) ∧ h.IsListIter it a i ∧ e ≠ it) where
  mem := by simp
  obj := fun i h st b hb => by
    obtain ⟨⟨old, he⟩, ⟨o, ho, hc, hd⟩, _⟩ := st
    have e' : b = e ∨ b = it := by simpa using hb
    rcases e' with z | z
    · rw [z]; exact ⟨_, he, fun v q => nomatch q⟩
    · rw [z]; exact ⟨o, ho, fun v q => by rw [hd] at q; cases q⟩
  keep := fun i h h' st k => let ⟨⟨old, he⟩, hi, hne⟩ := st; ⟨⟨old, k e (by simp) _ he⟩, hi.at fun o q => k it (by simp) o q, hne⟩
  item := by
    intro X hP hw hK hc i pins s σ H E I hf st hg
    subst hP hw hK
    obtain ⟨⟨old, he⟩, hit, hne⟩ := st
    obtain ⟨xs, x, hq, hx⟩ := hg
    obtain ⟨its, rv, p, hz⟩ := I.list hq
    obtain ⟨u, hu, ru⟩ := rv.get hx
    have hel : e < s.heap.objs.size := Heap.lt_size he
    have hil : it < s.heap.objs.size := by obtain ⟨_, q, _⟩ := hit; exact Heap.lt_size q
    refine wpAny_pyNext_enum_item he hit p.isList (x := u) (by simpa using hu) hne fun h' ho hit' hT hsz hk => ?_
    refine ⟨_, rfl, wpAny_letOwnedTupleGo_enum (s := { s with heap := h', toks := s.toks + 1 }) ho fun h'' he' sb => ?_⟩
    have hT2 : h''.get? s.heap.objs.size = some { cls := .type "tuple", data := .seq #[.int i s.toks, u] } := (sb.2 _ (Nat.ne_of_gt hel)).trans hT
    have new : ObjOk X.prog X.w (upd H s.heap.objs.size (.tup [.int (i : Nat), x])) h'' s.heap.objs.size (.tup [.int (i : Nat), x]) :=
      ⟨by show 2 ≤ sizeLine; decide, [.int i s.toks, u], .cons ⟨_, rfl⟩ (.cons ru .nil), ⟨_, hT2, rfl, _, rfl⟩⟩
    have I1 : Inv X pins σ (upd H s.heap.objs.size (.tup [.int (i : Nat), x])) { s with heap := h'', toks := s.toks + 1 } :=
      I.turnedNew (ch := [e, it]) (fun b ob hb q => (sb.2 b (fun z => hb (by simp [z]))).trans (hk b ob (fun z => hb (by simp [z])) (fun z => hb (by simp [z])) q)) hf (Nat.le_refl _) new
    refine ⟨.ref s.heap.objs.size, _, I1, rfl, ⟨_, x, rfl, I.hok.fresh (Nat.le_refl _), rfl, fun ys hy => by rw [I.list_inj hy hq]; exact hx⟩, ⟨⟨u, ?_⟩, hit'.at fun o q => (sb.2 it (Ne.symm hne)).trans q, hne⟩, fun b hb => ?_⟩
    · have e1 : ((i + 1 : Nat) : Int) = (i : Int) + 1 := by omega
      rw [e1]; exact he'
    · have hb' : b < s.heap.objs.size := by
        have e' : b = e ∨ b = it := by simpa using hb
        rcases e' with z | z
        · rw [z]; exact hel
        · rw [z]; exact hil
      rw [upd_ne (Nat.ne_of_lt hb')]
      exact (hf b hb).1
  done := by
    intro X hP hw hK hc i pins s σ H E I hf st hg
    subst hP hw hK
    obtain ⟨⟨old, he⟩, hit, hne⟩ := st
    obtain ⟨xs, hq, hx⟩ := hg
    obtain ⟨its, rv, p, hz⟩ := I.list hq
    obtain ⟨f0, f1, f2, f3, f4, f5⟩ := hf it (by simp)
    have hl := rv.length
    exact wpAny_pyNext_enum_end (I.ok.hd hc) he hit p.isList (by simp; omega) fun h' eb => ⟨rfl, I.turned (t' := s.toks) (fun b o hb q => eb b o hb q) f0 f1 f3 f4 f5⟩
  self := fun A i s Q E st h => let ⟨⟨_, he⟩, _⟩ := st; wpAny_pyIter_enum he h
def iEnum (K : PySem.W.Frag) (ta : TA) : TI := fun σ H R => ta σ H fun vs H1 => ∃ a xs, vs = [.ref a] ∧ SqL K H1 a xs ∧ R (Ite K a) H1
theorem pi_enum {X : Cx} {e : Expr} {ta : TA} {p pos tpos : Pos} {elts : List Expr} {kk : Nat} (hg : Gl X "enumerate") (hm : X.mg "enumerate" = none) (ha : PA X [e] ta) (hs : starEach [e] X.env = [(false, eval e X.env)] := by rfl) :
    PI X (.Tuple elts kk tpos) (.Call (.Name "enumerate" p) [e] [] pos) (iEnum X.K ta) := by
  intro pins s σ H R I h
  refine Call_ (ld_blt I hg hm boot_enumerate (PyProof.Rows.callWith_type1 (thn (ha pos pins s σ H _ I h) fun us s1 ⟨vs, H1, I1, r1, q1⟩ => ?_) hs rfl))
  obtain ⟨a, xs, ex, hq, q⟩ := q1
  subst ex
  cases r1 with
  | cons r rr =>
    cases rr
    cases r
    obtain ⟨its, rv, p', hz⟩ := I1.list hq
    refine call_enumerate_list p'.isList fun h' he hit hsz hk => wpAny_pyIter_enum he ?_
    have I2 : Inv X pins σ H1 { s1 with heap := h' } := I1.kept (t' := s1.toks) hk
    refine ⟨s1.heap.objs.size + 1, [s1.heap.objs.size + 1, s1.heap.objs.size], _, _, H1, rfl, I2, turn_enum a (s1.heap.objs.size + 1) s1.heap.objs.size, ⟨⟨.none, he⟩, hit, Nat.succ_ne_self _⟩, fun b hb => ?_, q⟩
    have e' : b = s1.heap.objs.size + 1 ∨ b = s1.heap.objs.size := by simpa using hb
    have hle : s1.heap.objs.size ≤ b := by
      rcases e' with z | z
      · rw [z]; exact Nat.le_add_right _ _
      · rw [z]; exact Nat.le_refl _
    exact I1.fpOk hle (I1.hok.fresh hle)
/-! ### zip(list, list) -/
theorem boot_zip5 : bootBuiltins "zip" = some (.type "zip") := by decide +kernel
/-- the lists at a and b as they stand at each turn, the items in new pairs -/
def Itz (K : PySem.W.Frag) (a b : Addr) : It :=
  ⟨fun i H => ∃ (xs ys : List V) (x y : V), SqL K H a xs ∧ SqL K H b ys ∧ xs[i]? = some x ∧ ys[i]? = some y,
    fun i H v H' => ∃ T x y, v = .ref T ∧ H T = none ∧ H' = upd H T (.tup [x, y]) ∧ (∀ xs, SqL K H a xs → xs[i]? = some x) ∧ ∀ ys, SqL K H b ys → ys[i]? = some y,
    fun i H => ∃ xs ys : List V, SqL K H a xs ∧ SqL K H b ys ∧ (xs.length ≤ i ∨ ys.length ≤ i)⟩
theorem turn_zip {P : Program} {w : World} {K : PySem.W.Frag} {elts : List Expr} {kk : Nat} {tpos : Pos} {a b z TI TO i1 i2 : Addr} (D : ZipApart z TI TO i1 i2 a b) :
    Turn P w K (.Tuple elts kk tpos) (Itz K a b) [z, TI, TO, i1, i2] z (fun i h => IsZip h z TI TO .none ∧ IsPair h TI (.ref i1) (.ref i2) ∧ (∃ x y, IsPair h TO x y) ∧ h.IsListIter i1 a i ∧ h.IsListIter i2 b i) where
  mem := by simp
  obj := fun i h st c hc => by
    obtain ⟨hz, hTI, ⟨x, y, hTO⟩, ⟨o1, e1, _, d1⟩, ⟨o2, e2, _, d2⟩⟩ := st
    have e' : c = z ∨ c = TI ∨ c = TO ∨ c = i1 ∨ c = i2 := by simpa using hc
    rcases e' with q | q | q | q | q
    · rw [q]; exact ⟨_, hz, fun v q => nomatch q⟩
    · rw [q]; exact ⟨_, hTI, fun v q => nomatch q⟩
    · rw [q]; exact ⟨_, hTO, fun v q => nomatch q⟩
    · rw [q]; exact ⟨o1, e1, fun v q => by rw [d1] at q; cases q⟩
    · rw [q]; exact ⟨o2, e2, fun v q => by rw [d2] at q; cases q⟩
  keep := fun i h h' st k => by
    obtain ⟨hz, hTI, ⟨x, y, hTO⟩, h1, h2⟩ := st
    exact ⟨k z (by simp) _ hz, k TI (by simp) _ hTI, ⟨x, y, k TO (by simp) _ hTO⟩, h1.at fun o q => k i1 (by simp) o q, h2.at fun o q => k i2 (by simp) o q⟩
  item := by
    intro X hP hw hK hc i pins s σ H E I hf st hg
    subst hP hw hK
    obtain ⟨hz, hTI, ⟨x0, y0, hTO⟩, h1, h2⟩ := st
    obtain ⟨xs, ys, x, y, hqx, hqy, hx, hy⟩ := hg
    obtain ⟨its, rv, p, _⟩ := I.list hqx
    obtain ⟨its2, rv2, p2, _⟩ := I.list hqy
    obtain ⟨u, hu, ru⟩ := rv.get hx
    obtain ⟨u2, hu2, ru2⟩ := rv2.get hy
    have hzl : z < s.heap.objs.size := Heap.lt_size hz
    refine wpAny_pyNext_zip_item D hz hTI hTO h1 h2 p.isList p2.isList (x := u) (y := u2) (by simpa using hu) (by simpa using hu2) fun h' z' TO' h1' h2' hT hsz hk => ?_
    refine ⟨_, rfl, wpAny_letOwnedTupleGo_zip (s := { s with heap := h' }) z' fun h'' z'' sb => ?_⟩
    have hT2 : h''.get? s.heap.objs.size = some { cls := .type "tuple", data := .seq #[u, u2] } := (sb.2 _ (Nat.ne_of_gt hzl)).trans hT
    have new : ObjOk X.prog X.w (upd H s.heap.objs.size (.tup [x, y])) h'' s.heap.objs.size (.tup [x, y]) :=
      ⟨by show 2 ≤ sizeLine; decide, [u, u2], .cons ru (.cons ru2 .nil), ⟨_, hT2, rfl, _, rfl⟩⟩
    have I1 : Inv X pins σ (upd H s.heap.objs.size (.tup [x, y])) { s with heap := h'' } :=
      I.turnedNew (t' := s.toks) (ch := [z, TI, TO, i1, i2]) (fun c o hb q => (sb.2 c (fun q' => hb (by simp [q']))).trans (hk c o (fun q' => hb (by simp [q'])) (fun q' => hb (by simp [q'])) (fun q' => hb (by simp [q'])) (fun q' => hb (by simp [q'])) q)) hf (Nat.le_refl _) new
    refine ⟨.ref s.heap.objs.size, _, I1, rfl, ⟨_, x, y, rfl, I.hok.fresh (Nat.le_refl _), rfl, fun l hl => by rw [I.list_inj hl hqx]; exact hx, fun l hl => by rw [I.list_inj hl hqy]; exact hy⟩, ⟨z'', ?_, ⟨u, u2, ?_⟩, ?_, ?_⟩, fun c hcm => ?_⟩
    · exact (sb.2 _ D.TIz).trans (hk _ _ D.TIz D.TITO D.TIi1 D.TIi2 hTI)
    · exact (sb.2 _ D.TOz).trans TO'
    · exact h1'.at fun o q => (sb.2 _ D.i1z).trans q
    · exact h2'.at fun o q => (sb.2 _ D.i2z).trans q
    · have hlt : c < s.heap.objs.size := by
        have e' : c = z ∨ c = TI ∨ c = TO ∨ c = i1 ∨ c = i2 := by simpa using hcm
        rcases e' with q | q | q | q | q
        · rw [q]; exact hzl
        · rw [q]; exact Heap.lt_size hTI
        · rw [q]; exact Heap.lt_size hTO
        · rw [q]; obtain ⟨_, e1, _⟩ := h1; exact Heap.lt_size e1
        · rw [q]; obtain ⟨_, e2, _⟩ := h2; exact Heap.lt_size e2
      rw [upd_ne (Nat.ne_of_lt hlt)]
      exact (hf c hcm).1
  done := by
    intro X hP hw hK hc i pins s σ H E I hf st hg
    subst hP hw hK
    obtain ⟨hz, hTI, ⟨x0, y0, hTO⟩, h1, h2⟩ := st
    obtain ⟨xs, ys, hqx, hqy, hend⟩ := hg
    obtain ⟨its, rv, p, _⟩ := I.list hqx
    obtain ⟨its2, rv2, p2, _⟩ := I.list hqy
    have l1 := rv.length
    have l2 := rv2.length
    have he : its.toArray[i]? = none ∨ its2.toArray[i]? = none := by
      rcases hend with q | q
      · exact .inl (by simp; omega)
      · exact .inr (by simp; omega)
    exact wpAny_pyNext_zip_end (I.ok.hd hc) D hz hTI hTO h1 h2 p.isList p2.isList he fun h' hk => ⟨rfl, I.turnedL (t' := s.toks) (ch := [z, TI, TO, i1, i2]) (fun c o hb q =>
      hk c o (fun q' => hb (by simp [q'])) (fun q' => hb (by simp [q'])) (fun q' => hb (by simp [q'])) (fun q' => hb (by simp [q'])) q) hf⟩
  self := fun A i s Q E st h => wpAny_pyIter_zip st.1 h
def iZip (K : PySem.W.Frag) (ta : TA) : TI := fun σ H R => ta σ H fun vs H1 => ∃ a b xs ys, vs = [.ref a, .ref b] ∧ SqL K H1 a xs ∧ SqL K H1 b ys ∧ R (Itz K a b) H1
theorem pi_zip {X : Cx} {e e2 : Expr} {ta : TA} {p pos tpos : Pos} {elts : List Expr} {kk : Nat} (hg : Gl X "zip") (hm : X.mg "zip" = none) (ha : PA X [e, e2] ta)
    (hs : starEach [e, e2] X.env = (false, eval e X.env) :: starEach [e2] X.env := by rfl) (hpl : (backTo pos (starEach [e2] X.env)).any (·.1) = false := by rfl) :
    PI X (.Tuple elts kk tpos) (.Call (.Name "zip" p) [e, e2] [] pos) (iZip X.K ta) := by
  intro pins s σ H R I h
  refine Call_ (ld_blt I hg hm boot_zip5 (PyProof.Rows.callWith_type1 (thn (ha pos pins s σ H _ I h) fun us s1 ⟨vs, H1, I1, r1, q1⟩ => ?_) hs hpl))
  obtain ⟨a, b, xs, ys, ex, hqx, hqy, q⟩ := q1
  subst ex
  cases r1 with
  | cons r rr =>
    cases rr with
    | cons r' rr =>
      cases rr
      cases r
      cases r'
      obtain ⟨its, rv, p1, _⟩ := I1.list hqx
      obtain ⟨its2, rv2, p2, _⟩ := I1.list hqy
      have la : a < s1.heap.objs.size := p1.lt
      have lb : b < s1.heap.objs.size := p2.lt
      refine call_zip_2 p1.isList p2.isList fun h' hz hTI hTO h1 h2 hsz hk => wpAny_pyIter_zip hz ?_
      have I2 : Inv X pins σ H1 { s1 with heap := h' } := I1.kept (t' := s1.toks) hk
      refine ⟨s1.heap.objs.size + 4, [s1.heap.objs.size + 4, s1.heap.objs.size + 2, s1.heap.objs.size + 3, s1.heap.objs.size, s1.heap.objs.size + 1], _, _, H1, rfl, I2, turn_zip (PySem.W.ktu_apart s1.heap.objs.size a b la lb), ⟨hz, hTI, ⟨_, _, hTO⟩, h1, h2⟩, fun c hcm => ?_, q⟩
      have e' : c = s1.heap.objs.size + 4 ∨ c = s1.heap.objs.size + 2 ∨ c = s1.heap.objs.size + 3 ∨ c = s1.heap.objs.size ∨ c = s1.heap.objs.size + 1 := by simpa using hcm
      have hle : s1.heap.objs.size ≤ c := by
        rcases e' with z | z | z | z | z
        · rw [z]; exact Nat.le_add_right _ _
        · rw [z]; exact Nat.le_add_right _ _
        · rw [z]; exact Nat.le_add_right _ _
        · rw [z]; exact Nat.le_refl _
        · rw [z]; exact Nat.le_add_right _ _
      exact I1.fpOk hle (I1.hok.fresh hle)
end L2

section 
namespace Bits
open PySem PyProof.Rows

theorem nat_and_mul_pow (k : Nat) : ∀ a b : Nat, a < 2 ^ k → a &&& (b * 2 ^ k) = 0 := by
  induction k with
  | zero =>
    intro a b h
    have h0 : a = 0 := by
      rw [Nat.pow_zero] at h
      omega
    subst h0
    simp
  | succ k ih =>
    intro a b h
    have hm : (b * 2 ^ (k + 1)) = (b * 2 ^ k) * 2 := by rw [Nat.pow_succ, Nat.mul_assoc]
    have hlt : a / 2 < 2 ^ k := by
      rw [Nat.pow_succ] at h
      generalize 2 ^ k = m at h ⊢
      omega
    have i := ih (a / 2) b hlt
    rw [hm]
    generalize b * 2 ^ k = B at i ⊢
    have e : (a &&& (B * 2)) / 2 = a / 2 &&& (B * 2) / 2 := Nat.and_div_two
    have e2 : (B * 2) / 2 = B := by omega
    have o := @Nat.and_mod_two_eq_one a (B * 2)
    rw [e2, i] at e
    omega

theorem natCast_mul_pow (m k : Nat) : (m : Int) * 2 ^ k = ((m * 2 ^ k : Nat) : Int) := by
  rw [two_pow_cast]
  first
    | exact (Int.natCast_mul _ _).symm
    | simp

/-- low bits a, high part b: (b << k) | a -/
theorem bitOr_join {a b : Int} {k : Nat} (h0 : 0 ≤ a) (h1 : a < 2 ^ k) (hb : 0 ≤ b) : Builtin.bitOr a (b * 2 ^ k) = a + b * 2 ^ k := by
  obtain ⟨n, rfl⟩ := Int.eq_ofNat_of_zero_le h0
  obtain ⟨m, rfl⟩ := Int.eq_ofNat_of_zero_le hb
  have hn : n < 2 ^ k := by
    rw [two_pow_cast] at h1
    omega
  have e : Builtin.bitAnd (n : Int) ((m * 2 ^ k : Nat) : Int) = 0 := by
    rw [bitAnd_pp (by omega) (by omega), Int.toNat_natCast, Int.toNat_natCast, nat_and_mul_pow k n m hn] <;> rfl
  rw [natCast_mul_pow, bitOr_and, e]
  omega
theorem bitOr_join' {a b : Int} {k : Nat} (h0 : 0 ≤ a) (h1 : a < 2 ^ k) (hb : 0 ≤ b) : Builtin.bitOr (b * 2 ^ k) a = a + b * 2 ^ k := by
  rw [bitOr_comm]
  exact bitOr_join h0 h1 hb

/-- x & ((1 << k) - 1) -/
theorem bitAnd_mask {x : Int} (k : Nat) (hx : 0 ≤ x) : Builtin.bitAnd x (2 ^ k - 1) = x % 2 ^ k := by
  obtain ⟨n, rfl⟩ := Int.eq_ofNat_of_zero_le hx
  have hp : 0 < 2 ^ k := Nat.two_pow_pos k
  rw [two_pow_cast]
  have e : ((2 ^ k : Nat) : Int) - 1 = ((2 ^ k - 1 : Nat) : Int) := by
    generalize (2 : Nat) ^ k = m at hp
    omega
  rw [e, bitAnd_pp (by omega) (by omega), Int.toNat_natCast, Int.toNat_natCast, Nat.and_two_pow_sub_one_eq_mod]
  first
    | rfl
    | exact Int.natCast_emod _ _
    | simp

/-- (x >> i) & 1 -/
theorem bit_at {x : Int} (i : Nat) : Builtin.bitAnd (x.fdiv (2 ^ i)) 1 = x / 2 ^ i % 2 := by
  have hp : (0 : Int) ≤ 2 ^ i := by
    rw [two_pow_cast]
    exact Int.natCast_nonneg _
  rw [Int.fdiv_eq_ediv_of_nonneg _ hp, bitAnd_m1]

theorem nat_xor_add_and (m : Nat) : ∀ n : Nat, (m ^^^ n) + 2 * (m &&& n) = m + n := by
  induction m using Nat.strongRecOn with
  | _ m ih =>
    intro n
    by_cases h0 : m = 0
    · subst h0
      simp
    · have ih' := ih (m / 2) (by omega) (n / 2)
      rw [← Nat.xor_div_two, ← Nat.and_div_two] at ih'
      have o1 := @Nat.xor_mod_two_eq_one m n
      have a1 := @Nat.and_mod_two_eq_one m n
      omega

theorem bitXor_pp {x y : Int} (hx : 0 ≤ x) (hy : 0 ≤ y) : Builtin.bitXor x y = ((x.toNat ^^^ y.toNat : Nat) : Int) := by
  have e := nat_xor_add_and x.toNat y.toNat
  rw [bitXor_and, bitAnd_pp hx hy]
  omega
theorem bitOr_pp {x y : Int} (hx : 0 ≤ x) (hy : 0 ≤ y) : Builtin.bitOr x y = ((x.toNat ||| y.toNat : Nat) : Int) := by
  have e := nat_or_add_and x.toNat y.toNat
  rw [bitOr_and, bitAnd_pp hx hy]
  omega
theorem bitXor_nonneg {x y : Int} (hx : 0 ≤ x) (hy : 0 ≤ y) : 0 ≤ Builtin.bitXor x y := by
  rw [bitXor_pp hx hy]
  omega
theorem bitOr_nonneg {x y : Int} (hx : 0 ≤ x) (hy : 0 ≤ y) : 0 ≤ Builtin.bitOr x y := by
  rw [bitOr_pp hx hy]
  omega

end Bits
end 

section 
namespace TL
open PySem PySem.Builtin PySem.Builtin.Str PySem.StrLaws

abbrev tl (x : Str) : List Nat := x.cps.toList
theorem len_tl (x : Str) : x.length = (tl x).length := by simp [tl, Str.length]
theorem ext_tl {x y : Str} (h : tl x = tl y) : x = y := Str.ext' (Array.toList_inj.mp h)
theorem tl_append (x y : Str) : tl (x ++ y) = tl x ++ tl y := by
  show (x ++ y).cps.toList = _
  rw [Str.cps_append, Array.toList_append]
theorem tl_mk (l : List Nat) : tl ⟨l.toArray⟩ = l := rfl
theorem mk_tl (x : Str) : (⟨(tl x).toArray⟩ : Str) = x := ext_tl rfl
theorem map_tl_inj : ∀ {l m : List Str}, l.map tl = m.map tl → l = m
  | [], [], _ => rfl
  | [], _ :: _, h => by simp at h
  | _ :: _, [], h => by simp at h
  | x :: l, y :: m, h => by
    rw [List.map_cons, List.map_cons] at h
    injection h with h1 h2
    rw [ext_tl h1, map_tl_inj h2]
theorem tl_ofString (s : String) : tl (Str.ofString s) = s.toList.map Char.toNat := PyProof.Rows.signs_ofString s

/-! ### the list functions -/
/-- S stands at the head of l -/
def pre (S l : List Nat) : Bool := l.take S.length == S
/-- l cut at each S from the left; k signs are still to be passed over -/
def spl (S : List Nat) : Nat → List Nat → List Nat → List (List Nat)
  | _, acc, [] => [acc]
  | 0, acc, c :: r => if pre S (c :: r) = true then acc :: spl S (S.length - 1) [] r else spl S 0 (acc ++ [c]) r
  | k + 1, acc, _ :: r => spl S k acc r
/-- what stands before the first S, and behind it -/
def par (S : List Nat) : List Nat → List Nat → Option (List Nat × List Nat)
  | _, [] => none
  | acc, c :: r => if pre S (c :: r) = true then some (acc, (c :: r).drop S.length) else par S (acc ++ [c]) r

theorem spl_nil (S : List Nat) (k : Nat) (acc : List Nat) : spl S k acc [] = [acc] := by cases k <;> rfl
theorem spl_hit {S acc r : List Nat} {c : Nat} (h : pre S (c :: r) = true) : spl S 0 acc (c :: r) = acc :: spl S (S.length - 1) [] r := by
  show (if pre S (c :: r) = true then acc :: spl S (S.length - 1) [] r else spl S 0 (acc ++ [c]) r) = _
  rw [if_pos h]
theorem spl_miss {S acc r : List Nat} {c : Nat} (h : pre S (c :: r) = false) : spl S 0 acc (c :: r) = spl S 0 (acc ++ [c]) r := by
  show (if pre S (c :: r) = true then acc :: spl S (S.length - 1) [] r else spl S 0 (acc ++ [c]) r) = _
  rw [if_neg (by rw [h]; exact Bool.false_ne_true)]
theorem spl_pass (S : List Nat) : ∀ (k : Nat) (acc l : List Nat), spl S k acc l = spl S 0 acc (l.drop k)
  | 0, _, _ => by rw [List.drop_zero]
  | k + 1, acc, [] => by rw [List.drop_nil, spl_nil, spl_nil]
  | k + 1, acc, c :: r => by
    show spl S k acc r = spl S 0 acc (r.drop k)
    exact spl_pass S k acc r
theorem par_hit {S acc r : List Nat} {c : Nat} (h : pre S (c :: r) = true) : par S acc (c :: r) = some (acc, (c :: r).drop S.length) := by
  show (if pre S (c :: r) = true then some (acc, (c :: r).drop S.length) else par S (acc ++ [c]) r) = _
  rw [if_pos h]
theorem par_miss {S acc r : List Nat} {c : Nat} (h : pre S (c :: r) = false) : par S acc (c :: r) = par S (acc ++ [c]) r := by
  show (if pre S (c :: r) = true then some (acc, (c :: r).drop S.length) else par S (acc ++ [c]) r) = _
  rw [if_neg (by rw [h]; exact Bool.false_ne_true)]

theorem pre_nil {S : List Nat} (hS : S ≠ []) : pre S [] = false := by
  cases S with
  | nil => exact absurd rfl hS
  | cons s S => rfl
theorem pre_of_head {s c : Nat} (S r : List Nat) (h : c ≠ s) : pre (s :: S) (c :: r) = false := by
  cases hp : pre (s :: S) (c :: r) with
  | false => rfl
  | true =>
    have e : (c :: r).take (s :: S).length = s :: S := eq_of_beq hp
    rw [List.length_cons, List.take_succ_cons] at e
    injection e with e1 e2
    exact absurd e1 h
theorem pre_self (S r : List Nat) : pre S (S ++ r) = true := by
  show ((S ++ r).take S.length == S) = true
  have e : (S ++ r).take S.length = S := List.take_left
  rw [e] <;> exact beq_self_eq_true S

theorem getElem_drop_cons {L : List Nat} {a : Nat} (h : a < L.length) : ∃ c, L.drop a = c :: L.drop (a + 1) := ⟨L[a], List.drop_eq_getElem_cons h⟩
theorem spl_run (S L : List Nat) : ∀ (m a : Nat) (acc : List Nat), a + m ≤ L.length → (∀ k, a ≤ k → k < a + m → pre S (L.drop k) = false) →
    spl S 0 acc (L.drop a) = spl S 0 (acc ++ (L.drop a).take m) (L.drop (a + m))
  | 0, a, acc, _, _ => by rw [List.take_zero, List.append_nil, Nat.add_zero]
  | m + 1, a, acc, h, hn => by
    have hlt : a < L.length := by omega
    obtain ⟨c, e⟩ := getElem_drop_cons hlt
    have h0 := hn a (Nat.le_refl _) (by omega)
    have ih := spl_run S L m (a + 1) (acc ++ [c]) (by omega) (fun k h1 h2 => hn k (by omega) (by omega))
    have e2 : a + 1 + m = a + (m + 1) := by omega
    rw [e2] at ih
    rw [e] at h0
    rw [e, spl_miss h0, ih, List.take_succ_cons, List.append_assoc] <;> rfl
theorem par_run (S L : List Nat) : ∀ (m a : Nat) (acc : List Nat), a + m ≤ L.length → (∀ k, a ≤ k → k < a + m → pre S (L.drop k) = false) →
    par S acc (L.drop a) = par S (acc ++ (L.drop a).take m) (L.drop (a + m))
  | 0, a, acc, _, _ => by rw [List.take_zero, List.append_nil, Nat.add_zero]
  | m + 1, a, acc, h, hn => by
    have hlt : a < L.length := by omega
    obtain ⟨c, e⟩ := getElem_drop_cons hlt
    have h0 := hn a (Nat.le_refl _) (by omega)
    have ih := par_run S L m (a + 1) (acc ++ [c]) (by omega) (fun k h1 h2 => hn k (by omega) (by omega))
    have e2 : a + 1 + m = a + (m + 1) := by omega
    rw [e2] at ih
    rw [e] at h0
    rw [e, par_miss h0, ih, List.take_succ_cons, List.append_assoc] <;> rfl
theorem drop_two (L : List Nat) (a b : Nat) : (L.drop a).drop b = L.drop (a + b) := by
  first
    | rw [List.drop_drop]
    | rw [List.drop_drop, Nat.add_comm]
theorem spl_at {S L : List Nat} (hS : S ≠ []) {c : Nat} {acc : List Nat} (h : pre S (L.drop c) = true) : spl S 0 acc (L.drop c) = acc :: spl S 0 [] (L.drop (c + S.length)) := by
  rw [← drop_two]
  cases e : L.drop c with
  | nil => rw [e, pre_nil hS] at h; cases h
  | cons d r =>
    rw [e] at h
    rw [spl_hit h, spl_pass]
    cases S with
    | nil => exact absurd rfl hS
    | cons s S => rfl
theorem par_at {S L : List Nat} (hS : S ≠ []) {c : Nat} {acc : List Nat} (h : pre S (L.drop c) = true) : par S acc (L.drop c) = some (acc, L.drop (c + S.length)) := by
  rw [← drop_two]
  cases e : L.drop c with
  | nil => rw [e, pre_nil hS] at h; cases h
  | cons d r =>
    rw [e] at h
    rw [par_hit h]

/-! ### the model's split and partition are these -/
theorem at_iff {x y : Str} (hy : tl y ≠ []) (i : Nat) : At x y x.length i ↔ pre (tl y) ((tl x).drop i) = true := by
  have hx := len_tl x
  have hl := len_tl y
  constructor
  · intro h
    have h2 := h.2
    rw [subAt_eq, hl] at h2
    exact h2
  · intro h
    have e : ((tl x).drop i).take (tl y).length = tl y := eq_of_beq h
    have e1 := congrArg List.length e
    rw [List.length_take, List.length_drop] at e1
    have e2 : 0 < (tl y).length := List.length_pos_iff.mpr hy
    refine ⟨by omega, ?_⟩
    rw [subAt_eq, hl]
    exact h
theorem no_at {x y : Str} (hy : tl y ≠ []) {i : Nat} (h : ¬ At x y x.length i) : pre (tl y) ((tl x).drop i) = false := by
  cases hp : pre (tl y) ((tl x).drop i) with
  | false => rfl
  | true => exact absurd ((at_iff hy i).mpr hp) h
theorem len1 {y : Str} (hy : tl y ≠ []) : 1 ≤ y.length := by
  have e2 : 0 < (tl y).length := List.length_pos_iff.mpr hy
  rw [len_tl y]
  exact e2
theorem tl_strSub (x : Str) (i j : Nat) : tl (strSub x i j) = ((tl x).drop i).take (j - i) := strSub_toList x i j
theorem tl_strSub_end (x : Str) (i : Nat) : tl (strSub x i x.length) = (tl x).drop i := by
  rw [tl_strSub, len_tl x]
  exact List.take_of_length_le (by rw [List.length_drop] <;> omega)

theorem parts_spl {x y : Str} (hy : tl y ≠ []) : ∀ (cuts : List Nat) (a f : Nat), a ≤ (tl x).length → ChainG x y x.length a cuts f → (∀ k, f ≤ k → ¬ At x y x.length k) →
    (partsFrom x y.length a cuts).map tl = spl (tl y) 0 [] ((tl x).drop a)
  | [], a, f, ha, h, hn => by
    have e : f = a := h
    subst e
    show [tl (strSub x f x.length)] = _
    have run := spl_run (tl y) (tl x) ((tl x).length - f) f [] (by omega) (fun k h1 _ => no_at hy (hn k h1))
    have e2 : f + ((tl x).length - f) = (tl x).length := by omega
    rw [e2, List.drop_length, spl_nil, List.nil_append, List.take_of_length_le (by rw [List.length_drop] <;> omega)] at run
    rw [run, tl_strSub_end]
  | c :: r, a, f, ha, h, hn => by
    obtain ⟨h1, h2, h3, h4⟩ := h
    have hc : c + y.length ≤ x.length := h2.1
    have hx := len_tl x
    have hl := len_tl y
    have ih := parts_spl hy r (c + y.length) f (by omega) h4 hn
    show tl (strSub x a c) :: (partsFrom x y.length (c + y.length) r).map tl = _
    have run := spl_run (tl y) (tl x) (c - a) a [] (by omega) (fun k k1 k2 => no_at hy (h3 k k1 (by omega)))
    have e2 : a + (c - a) = c := by omega
    rw [e2, List.nil_append, spl_at hy ((at_iff hy c).mp h2)] at run
    rw [run, ih, tl_strSub, hl]

/-- hk: by kind_ok where the separator is plain -/
theorem split_spl (x y : Str) (hy : tl y ≠ []) (hk : ¬ Builtin.Str.strKind x < Builtin.Str.strKind y) : (Txt.split x y).map tl = spl (tl y) 0 [] (tl x) := by
  obtain ⟨f, g, hn⟩ := occ_tight x y (len1 hy)
  have key := parts_spl hy _ 0 f (Nat.zero_le _) g hn
  rw [List.drop_zero] at key
  have none_case : occurrences x y 0 x.length (x.length + 1) = [] → [x].map tl = spl (tl y) 0 [] (tl x) := fun ho => by
    rw [ho] at key
    rw [← key]
    show [tl x] = [tl (strSub x 0 x.length)]
    rw [sub_whole]
  unfold Txt.split
  by_cases h1 : (decide (x.length < y.length) || decide (Builtin.Str.strKind x < Builtin.Str.strKind y)) = true
  · rw [if_pos h1]
    have hlt : x.length < y.length := by
      simp only [Bool.or_eq_true, decide_eq_true_eq] at h1
      rcases h1 with h | h
      · exact h
      · exact absurd h hk
    refine none_case ?_
    cases ho : occurrences x y 0 x.length (x.length + 1) with
    | nil => rfl
    | cons c r =>
      rw [ho] at g
      have hc : c + y.length ≤ x.length := g.2.1.1
      omega
  · rw [if_neg h1]
    by_cases h2 : (occurrences x y 0 x.length (x.length + 1)).isEmpty = true
    · rw [if_pos h2]
      exact none_case (List.isEmpty_iff.mp h2)
    · rw [if_neg h2, partsBetween_eq]
      exact key
theorem kind_ok {x y : Str} (h : y.cps.all (· < 256) = true) : ¬ Builtin.Str.strKind x < Builtin.Str.strKind y := by
  have e : Builtin.Str.strKind y = 1 := by unfold PySem.Builtin.Str.strKind; rw [if_pos h]
  rw [e]
  unfold PySem.Builtin.Str.strKind
  split
  · omega
  · split <;> omega

theorem partition_par (x y : Str) (hy : tl y ≠ []) :
    Txt.partition x y = (match par (tl y) [] (tl x) with | some (a, b) => (⟨a.toArray⟩, y, ⟨b.toArray⟩) | none => (x, Str.empty, Str.empty)) := by
  have hx := len_tl x
  have hl := len_tl y
  rcases PyProof.Rows.partition_whole x y with ⟨e, hn⟩ | ⟨i, e, hi, hn⟩
  · have run := par_run (tl y) (tl x) (tl x).length 0 [] (by omega) (fun k _ _ => no_at hy (hn k))
    rw [List.drop_zero, Nat.zero_add, List.drop_length] at run
    rw [e, run] <;> rfl
  · have hb : i + y.length ≤ x.length := hi.1
    have run := par_run (tl y) (tl x) i 0 [] (by omega) (fun k _ k2 => no_at hy (hn k (by omega)))
    rw [List.drop_zero, Nat.zero_add, List.nil_append, par_at hy ((at_iff hy i).mp hi)] at run
    rw [e, run]
    have e1 : strSub x 0 i = ⟨((tl x).take i).toArray⟩ := ext_tl (by rw [tl_strSub, List.drop_zero, Nat.sub_zero])
    have e2 : strSub x (i + y.length) x.length = ⟨((tl x).drop (i + (tl y).length)).toArray⟩ := ext_tl (by rw [tl_strSub_end, hl])
    rw [e1, e2] <;> rfl

/-! ### computing spl and par -/
/-- a part that the separator does not begin in, then the separator -/
theorem spl_part {S p rest acc : List Nat} (hS : S ≠ []) (h : ∀ i, i < p.length → pre S ((p ++ (S ++ rest)).drop i) = false) :
    spl S 0 acc (p ++ (S ++ rest)) = (acc ++ p) :: spl S 0 [] rest := by
  have run := spl_run S (p ++ (S ++ rest)) p.length 0 acc (by rw [List.length_append]; omega) (fun k _ k2 => h k (by omega))
  have ed : (p ++ (S ++ rest)).drop p.length = S ++ rest := List.drop_left
  rw [List.drop_zero, Nat.zero_add, List.take_left] at run
  rw [run, spl_at hS (by rw [ed]; exact pre_self S rest), ← drop_two, ed, List.drop_left]
theorem spl_last {S p acc : List Nat} (h : ∀ i, i < p.length → pre S (p.drop i) = false) : spl S 0 acc p = [acc ++ p] := by
  have run := spl_run S p p.length 0 acc (by omega) (fun k _ k2 => h k (by omega))
  rw [List.drop_zero, Nat.zero_add, List.drop_length, spl_nil, List.take_length] at run
  exact run
theorem par_part {S p rest acc : List Nat} (hS : S ≠ []) (h : ∀ i, i < p.length → pre S ((p ++ (S ++ rest)).drop i) = false) :
    par S acc (p ++ (S ++ rest)) = some (acc ++ p, rest) := by
  have run := par_run S (p ++ (S ++ rest)) p.length 0 acc (by rw [List.length_append]; omega) (fun k _ k2 => h k (by omega))
  have ed : (p ++ (S ++ rest)).drop p.length = S ++ rest := List.drop_left
  rw [List.drop_zero, Nat.zero_add, List.take_left] at run
  rw [run, par_at hS (by rw [ed]; exact pre_self S rest), ← drop_two, ed, List.drop_left]
theorem par_none {S p acc : List Nat} (h : ∀ i, i < p.length → pre S (p.drop i) = false) : par S acc p = none := by
  have run := par_run S p p.length 0 acc (by omega) (fun k _ k2 => h k (by omega))
  rw [List.drop_zero, Nat.zero_add, List.drop_length] at run
  exact run
/-- the separator's first sign is not in the part -/
theorem free_of {s : Nat} {S p q : List Nat} (h : s ∉ p) : ∀ i, i < p.length → pre (s :: S) ((p ++ q).drop i) = false := fun i hi => by
  have hlt : i < (p ++ q).length := by rw [List.length_append]; omega
  have e : (p ++ q).drop i = (p ++ q)[i] :: (p ++ q).drop (i + 1) := List.drop_eq_getElem_cons hlt
  rw [e]
  refine pre_of_head _ _ fun z => h ?_
  have e1 : (p ++ q)[i] = p[i] := List.getElem_append_left hi
  rw [← z, e1]
  exact List.getElem_mem hi
theorem spl_part1 {s : Nat} {S p rest acc : List Nat} (h : s ∉ p) : spl (s :: S) 0 acc (p ++ (s :: S ++ rest)) = (acc ++ p) :: spl (s :: S) 0 [] rest :=
  spl_part (by simp) (free_of h)
theorem spl_last1 {s : Nat} {S p acc : List Nat} (h : s ∉ p) : spl (s :: S) 0 acc p = [acc ++ p] := spl_last fun i hi => by
  have z := free_of (S := S) (q := []) h i hi
  rw [List.append_nil] at z
  exact z
theorem par_part1 {s : Nat} {S p rest acc : List Nat} (h : s ∉ p) : par (s :: S) acc (p ++ (s :: S ++ rest)) = some (acc ++ p, rest) := par_part (by simp) (free_of h)
theorem par_none1 {s : Nat} {S p acc : List Nat} (h : s ∉ p) : par (s :: S) acc p = none := par_none fun i hi => by
  have z := free_of (S := S) (q := []) h i hi
  rw [List.append_nil] at z
  exact z

/-- joined lists -/
def joinL (S : List Nat) : List (List Nat) → List Nat
  | [] => []
  | [p] => p
  | p :: q :: r => p ++ (S ++ joinL S (q :: r))
theorem tl_join (y : Str) : ∀ parts : List Str, tl (Str.join y parts) = joinL (tl y) (parts.map tl)
  | [] => rfl
  | [_] => rfl
  | x :: z :: r => by
    show tl (x ++ y ++ Str.join y (z :: r)) = tl x ++ (tl y ++ joinL (tl y) ((z :: r).map tl))
    rw [tl_append, tl_append, tl_join y (z :: r), List.append_assoc]
theorem spl_join {s : Nat} {S : List Nat} : ∀ {parts : List (List Nat)}, parts ≠ [] → (∀ p ∈ parts, s ∉ p) → spl (s :: S) 0 [] (joinL (s :: S) parts) = parts
  | [], h, _ => absurd rfl h
  | [p], _, hp => by
    show spl (s :: S) 0 [] p = [p]
    rw [spl_last1 (hp p (List.mem_singleton.mpr rfl)), List.nil_append]
  | p :: q :: r, _, hp => by
    show spl (s :: S) 0 [] (p ++ (s :: S ++ joinL (s :: S) (q :: r))) = p :: q :: r
    rw [spl_part1 (hp p (List.mem_cons_self ..)), List.nil_append, spl_join (by simp) fun z hz => hp z (List.mem_cons_of_mem _ hz)]
theorem join_eq (y : Str) (parts : List Str) : Txt.join y parts = Str.join y parts := glued_eq_join y parts
/-- THE READ-BACK: a joined text, split -/
theorem split_join {y : Str} {s : Nat} {S : List Nat} (ey : tl y = s :: S) (hk : y.cps.all (· < 256) = true) {parts : List Str} (hne : parts ≠ []) (hp : ∀ p ∈ parts, s ∉ tl p) :
    Txt.split (Txt.join y parts) y = parts := by
  refine map_tl_inj ?_
  rw [split_spl _ y (by rw [ey]; simp) (kind_ok hk), join_eq, tl_join, ey]
  refine spl_join (fun e => hne (List.map_eq_nil_iff.mp e)) fun p h => ?_
  obtain ⟨z, hz, rfl⟩ := List.mem_map.mp h
  exact hp z hz
/-- a text cut at its first separator -/
theorem partition_app {y : Str} {s : Nat} {S : List Nat} (ey : tl y = s :: S) {a b : Str} (h : s ∉ tl a) : Txt.partition (a ++ y ++ b) y = (a, y, b) := by
  rw [partition_par _ y (by rw [ey]; simp), tl_append, tl_append, List.append_assoc, ey, par_part1 h]
  show ((⟨([] ++ tl a).toArray⟩ : Str), y, (⟨(tl b).toArray⟩ : Str)) = _
  rw [List.nil_append, mk_tl, mk_tl]
theorem partition_none {y : Str} {s : Nat} {S : List Nat} (ey : tl y = s :: S) {a : Str} (h : s ∉ tl a) : Txt.partition a y = (a, Str.empty, Str.empty) := by
  rw [partition_par _ y (by rw [ey]; simp), ey, par_none1 h]

/-! ### digits -/
/-- the signs of a number -/
def numL (n : Nat) : List Nat := (Nat.toDigits 10 n).map Char.toNat
theorem tl_num (n : Nat) : tl (Str.ofString (toString ((n : Nat) : Int))) = numL n := PySem.W.KIN.signs_num n
theorem digitChar_nat : ∀ d : Nat, d < 10 → (Nat.digitChar d).toNat = 48 + d := by decide
theorem numL_lt {n : Nat} (h : n < 10) : numL n = [48 + n] := by
  unfold numL
  rw [Nat.toDigits_of_lt_base h]
  show [(Nat.digitChar n).toNat] = _
  rw [digitChar_nat n h]
theorem numL_step {n : Nat} (h : 10 ≤ n) : numL n = numL (n / 10) ++ [48 + n % 10] := by
  have hm : n % 10 < 10 := Nat.mod_lt n (by decide)
  have t : Nat.toDigits 10 (n / 10) ++ Nat.toDigits 10 (n % 10) = Nat.toDigits 10 (10 * (n / 10) + n % 10) := Nat.toDigits_append_toDigits (by decide) (by omega) hm
  rw [Nat.div_add_mod] at t
  show (Nat.toDigits 10 n).map Char.toNat = _
  rw [← t, List.map_append, Nat.toDigits_of_lt_base hm]
  show (Nat.toDigits 10 (n / 10)).map Char.toNat ++ [(Nat.digitChar (n % 10)).toNat] = _
  rw [digitChar_nat _ hm] <;> rfl
theorem numL_digits (n : Nat) : NumText.AllDigits (numL n) := by
  induction n using Nat.strongRecOn with
  | _ n ih =>
    by_cases h : n < 10
    · rw [numL_lt h]
      intro c hc
      rw [List.mem_singleton.mp hc]
      omega
    · rw [numL_step (by omega)]
      intro c hc
      rcases List.mem_append.mp hc with hc | hc
      · exact ih (n / 10) (by omega) c hc
      · have hm : n % 10 < 10 := Nat.mod_lt n (by decide)
        rw [List.mem_singleton.mp hc]
        omega
theorem numL_ne (n : Nat) : numL n ≠ [] := by
  by_cases h : n < 10
  · rw [numL_lt h]
    simp
  · rw [numL_step (by omega)]
    simp
theorem numL_free {n s : Nat} (h : s < 48 ∨ 57 < s) : s ∉ numL n := fun hm => by
  have r := numL_digits n s hm
  omega
theorem numL_val (n : Nat) : NumText.digitsVal (numL n) = n := PySem.W.KIN.val_back n
theorem numL_inj {m n : Nat} (h : numL m = numL n) : m = n := by
  have e := congrArg NumText.digitsVal h
  rw [numL_val, numL_val] at e
  exact e
theorem numL_len {n k : Nat} (hk : 0 < k) (h : n < 10 ^ k) : (numL n).length ≤ k := by
  have z := PyProof.Rows.toString_length_le (v := (n : Int)) (by omega) hk (by
    have e : ((10 : Int) ^ k) = ((10 ^ k : Nat) : Int) := by
      first
        | exact (Int.natCast_pow 10 k).symm
        | simp
    rw [e]
    first | exact Int.ofNat_lt.mpr h | omega)
  rw [len_tl, tl_num] at z
  exact z
/-- int(str(n)) -/
theorem int_num {n : Nat} (h : (numL n).length ≤ 4300) : intText? (Str.ofString (toString ((n : Nat) : Int))) = some (n : Int) := by
  have e := intText_digits (x := Str.ofString (toString ((n : Nat) : Int))) (by rw [show (Str.ofString (toString ((n : Nat) : Int))).cps.toList = numL n from tl_num n]; exact numL_digits n)
    (by rw [show (Str.ofString (toString ((n : Nat) : Int))).cps.toList = numL n from tl_num n]; exact numL_ne n) (by rw [len_tl, tl_num]; exact h)
  rw [show (Str.ofString (toString ((n : Nat) : Int))).cps.toList = numL n from tl_num n, numL_val] at e
  exact e
/-- a program's own loop over digits: total = total * 10 + (ord(sign) - ord("0")) -/
theorem fold_digits : ∀ (l : List Nat) (a : Nat), NumText.AllDigits l → l.foldl (fun (t : Int) (c : Nat) => t * 10 + ((c : Int) - 48)) (a : Int) = ((l.foldl (fun acc c => acc * 10 + (c - 48)) a : Nat) : Int)
  | [], _, _ => rfl
  | c :: r, a, h => by
    have hc := h.head
    rw [List.foldl_cons, List.foldl_cons, ← fold_digits r _ h.tail]
    have e : (a : Int) * 10 + ((c : Int) - 48) = ((a * 10 + (c - 48) : Nat) : Int) := by omega
    rw [e]
theorem fold_num (n : Nat) : (numL n).foldl (fun (t : Int) (c : Nat) => t * 10 + ((c : Int) - 48)) 0 = (n : Int) := by
  have e := fold_digits (numL n) 0 (numL_digits n)
  have v := numL_val n
  unfold NumText.digitsVal at v
  rw [v] at e
  exact e

/-! ### words: x.split() -/
def wstep (st : List (List Nat) × List Nat) (c : Nat) : List (List Nat) × List Nat :=
  if Unicode.isSpace c = true then (if st.2 = [] then st else (st.1 ++ [st.2], [])) else (st.1, st.2 ++ [c])
def wfin (st : List (List Nat) × List Nat) : List (List Nat) := if st.2 = [] then st.1 else st.1 ++ [st.2]
theorem len0_tl (x : Str) : x.length = 0 ↔ tl x = [] := by
  rw [len_tl]
  exact List.length_eq_zero_iff
theorem step_tl (ws : List Str) (u : Str) (c : Nat) : ((KWd.step (ws, u) c).1.map tl, tl (KWd.step (ws, u) c).2) = wstep (ws.map tl, tl u) c := by
  by_cases hc : Unicode.isSpace c = true
  · by_cases hu : u.length = 0
    · have a : KWd.step (ws, u) c = (ws, u) := (if_pos hc).trans (if_pos hu)
      have b : wstep (ws.map tl, tl u) c = (ws.map tl, tl u) := (if_pos hc).trans (if_pos ((len0_tl u).mp hu))
      rw [a, b] <;> rfl
    · have a : KWd.step (ws, u) c = (ws ++ [u], Str.empty) := (if_pos hc).trans (if_neg hu)
      have b : wstep (ws.map tl, tl u) c = (ws.map tl ++ [tl u], []) := (if_pos hc).trans (if_neg fun z => hu ((len0_tl u).mpr z))
      rw [a, b]
      show ((ws ++ [u]).map tl, ([] : List Nat)) = _
      rw [List.map_append] <;> rfl
  · have a : KWd.step (ws, u) c = (ws, u ++ ⟨#[c]⟩) := if_neg hc
    have b : wstep (ws.map tl, tl u) c = (ws.map tl, tl u ++ [c]) := if_neg hc
    rw [a, b]
    show (ws.map tl, tl (u ++ ⟨#[c]⟩)) = _
    rw [tl_append] <;> rfl
theorem scan_tl : ∀ (l : List Nat) (st : KWd.St), ((l.foldl KWd.step st).1.map tl, tl (l.foldl KWd.step st).2) = l.foldl wstep (st.1.map tl, tl st.2)
  | [], _ => rfl
  | c :: r, (ws, u) => by
    show ((r.foldl KWd.step (KWd.step (ws, u) c)).1.map tl, tl (r.foldl KWd.step (KWd.step (ws, u) c)).2) = r.foldl wstep (wstep (ws.map tl, tl u) c)
    exact (scan_tl r (KWd.step (ws, u) c)).trans (congrArg (fun z => r.foldl wstep z) (step_tl ws u c))
theorem fin_tl : ∀ q : KWd.St, (KWd.fin q).map tl = wfin (q.1.map tl, tl q.2)
  | (ws, u) => by
    show (if u.length = 0 then ws else ws ++ [u]).map tl = (if tl u = [] then ws.map tl else ws.map tl ++ [tl u])
    by_cases hu : u.length = 0
    · rw [if_pos hu, if_pos ((len0_tl u).mp hu)]
    · rw [if_neg hu, if_neg (fun z => hu ((len0_tl u).mpr z)), List.map_append] <;> rfl
theorem words_tl (x : Str) : (Txt.words x).map tl = wfin ((tl x).foldl wstep ([], [])) := by
  rw [KWd.words_scan]
  exact (fin_tl (KWd.scan x)).trans (congrArg wfin (scan_tl (tl x) ([], Str.empty)))
/-- a run of signs that are no blanks -/
theorem wfold_word : ∀ (p : List Nat) (ws : List (List Nat)) (u : List Nat), (∀ c ∈ p, Unicode.isSpace c = false) → p.foldl wstep (ws, u) = (ws, u ++ p)
  | [], ws, u, _ => by rw [List.append_nil] <;> rfl
  | c :: r, ws, u, h => by
    have hc := h c (List.mem_cons_self ..)
    rw [List.foldl_cons]
    have e : wstep (ws, u) c = (ws, u ++ [c]) := if_neg (by rw [hc]; exact Bool.false_ne_true)
    rw [e, wfold_word r ws (u ++ [c]) fun d hd => h d (List.mem_cons_of_mem _ hd), List.append_assoc] <;> rfl
theorem isSpace_plain {c : Nat} (h1 : 33 ≤ c) (h2 : c ≤ 126) : Unicode.isSpace c = false := PySem.W.KWk.nosp h1 h2
/-- words joined by one blank -/
theorem wfold_join : ∀ (ps : List (List Nat)) (ws : List (List Nat)), ps ≠ [] → (∀ p ∈ ps, p ≠ [] ∧ ∀ c ∈ p, Unicode.isSpace c = false) → wfin ((joinL [32] ps).foldl wstep (ws, [])) = ws ++ ps
  | [], _, h, _ => absurd rfl h
  | [p], ws, _, h => by
    obtain ⟨h1, h2⟩ := h p (List.mem_singleton.mpr rfl)
    show wfin (p.foldl wstep (ws, [])) = _
    rw [wfold_word p ws [] h2, List.nil_append]
    exact if_neg h1
  | p :: q :: r, ws, _, h => by
    obtain ⟨h1, h2⟩ := h p (List.mem_cons_self ..)
    show wfin ((p ++ ([32] ++ joinL [32] (q :: r))).foldl wstep (ws, [])) = _
    rw [List.foldl_append, wfold_word p ws [] h2, List.nil_append, List.foldl_append]
    have e : [32].foldl wstep (ws, p) = (ws ++ [p], []) := by
      have hs : Unicode.isSpace 32 = true := by decide +kernel
      have a : wstep (ws, p) 32 = (if p = [] then (ws, p) else (ws ++ [p], [])) := if_pos hs
      exact a.trans (if_neg h1)
    rw [e, wfold_join (q :: r) (ws ++ [p]) (by simp) fun z hz => h z (List.mem_cons_of_mem _ hz), List.append_assoc] <;> rfl
end TL
end 

namespace L2
open PySem PySem.Spec PyProof.Rows

theorem notLong {n : Nat} (h : n ≤ 16777216) : Builtin.Str.tooLong n = false := by
  have e : (2 : Nat) ^ 24 = 16777216 := by decide
  unfold Builtin.Str.tooLong sizeLine
  exact decide_eq_false (by omega)

/-- a list of texts, of numbered texts -/
theorem vals_strs : ∀ l : List (Str × Tok), Vals ((l.map (·.1)).map V.str) (strValues l)
  | [] => .nil
  | p :: r => .cons ⟨p.2, rfl⟩ (vals_strs r)
theorem strs_of_vals : ∀ {ys : List Str} {us : List Value}, Vals (ys.map V.str) us → StrsAre us ys
  | [], _, .nil => .nil
  | y :: ys, _, .cons r t => by
    obtain ⟨k, rfl⟩ := r
    exact .cons y k (strs_of_vals t)

/-- a new list of texts, tracked -/
def rNewStrs (ys : List Str) : Hp → VK → Prop := fun H Q => ∀ p, H p = none → Q (.ref p) (upd H p (.lst (ys.map V.str)))

section
variable {X : Cx} {pins : List (Addr × Obj)} {σ : St} {H : Hp} {s : Shared} {Q : VK}
theorem laid_strs {l : List (Str × Tok)} {ys : List Str} {k : Nat} (I : Inv X pins σ H s) (e : l.map (·.1) = ys) (hz : ys.length ≤ sizeLine) (h : rNewStrs ys H Q) :
    EP X pins σ Q (.ref s.heap.objs.size) { s with toks := k, heap := s.heap.push { cls := .type "list", data := .seq (strValues l).toArray } } := by
  have hp := I.hok.fresh (Nat.le_refl _)
  refine ⟨.ref s.heap.objs.size, upd H s.heap.objs.size (.lst (ys.map V.str)), I.laid (fun b u q => Heap.get?_push_of_some _ q) (Nat.le_refl _) ⟨by rw [List.length_map]; exact hz, strValues l, _, ?_, Heap.get?_push_size _ rfl⟩, rfl, h _ hp⟩
  rw [← e]
  exact vals_strs l
theorem laid_parts {x y z : Str} {t u v : Tok} {k : Nat} (I : Inv X pins σ H s) (h : ∀ p, H p = none → Q (.ref p) (upd H p (.tup [.str x, .str y, .str z]))) :
    EP X pins σ Q (.ref s.heap.objs.size) { s with toks := k, heap := s.heap.push { cls := .type "tuple", data := .seq [Value.str x t, .str y u, .str z v].toArray } } := by
  have hp := I.hok.fresh (Nat.le_refl _)
  exact ⟨.ref s.heap.objs.size, upd H s.heap.objs.size (.tup [.str x, .str y, .str z]), I.laid (fun b u q => Heap.get?_push_of_some _ q) (Nat.le_refl _)
    ⟨by show 3 ≤ sizeLine; decide, [Value.str x t, .str y u, .str z v], .cons ⟨t, rfl⟩ (.cons ⟨u, rfl⟩ (.cons ⟨v, rfl⟩ .nil)), _, Heap.get?_push_size _ rfl, rfl, _, rfl⟩, rfl, h _ hp⟩
end

section
variable {X : Cx}

/-- x.split(sep) -/
theorem mt_split : MtR X "str.split" (fun x xs H Q => ∃ a b, x = .str a ∧ xs = [.str b] ∧ (b.length == 0) = false ∧ a.length + 2 ≤ sizeLine ∧ rNewStrs (Txt.split a b) H Q) := by
  intro pins s σ H x xs v us Q I rx rs h
  obtain ⟨a, b, rfl, rfl, hb, hz, h⟩ := h
  obtain ⟨t, rfl⟩ := rx
  cases rs with
  | cons r1 rs =>
    cases rs
    obtain ⟨u, rfl⟩ := r1
    have hl : (Txt.split a b).length ≤ sizeLine := Nat.le_trans (PyProof.Rows.split_le a b) hz
    have hn : (Builtin.Str.partsBetween a (Builtin.Str.occurrences a b 0 a.length (a.length + 1)) b.length).length ≤ sizeLine := by
      have e1 := StrLaws.occ_length_le a b 0 a.length (a.length + 1)
      rw [length_partsBetween]; omega
    cases h1 : (decide (a.length < b.length) || decide (Builtin.Str.strKind a < Builtin.Str.strKind b))
    · cases hf : (Builtin.Str.occurrences a b 0 a.length (a.length + 1)).isEmpty
      · refine call_meets F.slot_str_split (typeIs_str _ _ _) F.entry_str_split (F.args_str_split_2 _ _) (meets_str_split_sep a b t u h1 hb hf (by omega) hn) ?_
        show EP X pins σ Q (.ref s.heap.objs.size) { s with toks := _, heap := s.heap.push { cls := .type "list", data := .seq (strsFrom s.toks (Builtin.Str.partsBetween a (Builtin.Str.occurrences a b 0 a.length (a.length + 1)) b.length)).toArray } }
        rw [strsFrom_eq]
        exact laid_strs (ys := Txt.split a b) I ((numbered_texts _ _).trans ((if_neg (ne_true_of_eq_false h1)).trans (if_neg (ne_true_of_eq_false hf))).symm) hl h
      · refine call_meets F.slot_str_split (typeIs_str _ _ _) F.entry_str_split (F.args_str_split_2 _ _) (meets_str_split_not_found a b t u h1 hb hf) ?_
        exact laid_strs (l := [(a, t)]) (ys := Txt.split a b) (k := s.toks) I ((if_neg (ne_true_of_eq_false h1)).trans (if_pos hf)).symm hl h
    · refine call_meets F.slot_str_split (typeIs_str _ _ _) F.entry_str_split (F.args_str_split_2 _ _) (meets_str_split_cannot_occur a b t u h1) ?_
      exact laid_strs (l := [(a, t)]) (ys := Txt.split a b) (k := s.toks) I (if_pos h1).symm hl h

theorem words_le (x : Str) : (Txt.words x).length ≤ x.length + 1 := by
  have e1 := StrLaws.words_weight x
  omega
/-- x.split() -/
theorem mt_words : MtR X "str.split" (fun x xs H Q => ∃ a, x = .str a ∧ xs = [] ∧ a.length + 2 ≤ sizeLine ∧ rNewStrs (Txt.words a) H Q) := by
  intro pins s σ H x xs v us Q I rx rs h
  obtain ⟨a, rfl, rfl, hz, h⟩ := h
  obtain ⟨t, rfl⟩ := rx
  cases rs
  have hl : (Txt.words a).length ≤ sizeLine := Nat.le_trans (words_le a) (by omega)
  have hn : (Builtin.Str.spaceWords a (a.length + 1)).length ≤ sizeLine := by
    have e1 := (StrLaws.sw_weight a).1
    have e2 := StrLaws.len_le_wsum (Builtin.Str.spaceWords a (a.length + 1))
    omega
  refine call_meets F.slot_str_split (typeIs_str _ _ _) F.entry_str_split (F.args_str_split_1 _) (meets_str_split_space a t (by omega) hn) ?_
  cases hw : Builtin.Str.spaceWords a (a.length + 1) == [(0, a.length)]
  · simp only [Bool.false_eq_true, if_false]
    rw [strsFrom_eq]
    exact laid_strs (ys := Txt.words a) I ((numbered_texts _ _).trans (if_neg (ne_true_of_eq_false hw)).symm) hl h
  · simp only [if_true]
    exact laid_strs (l := [(a, t)]) (ys := Txt.words a) (k := s.toks) I (if_pos hw).symm hl h

/-- x.partition(sep) -/
theorem mt_partition : MtR X "str.partition" (fun x xs H Q => ∃ a b, x = .str a ∧ xs = [.str b] ∧ (b.length == 0) = false ∧ a.length ≤ sizeLine ∧
    ∀ p, H p = none → Q (.ref p) (upd H p (.tup [.str (Txt.partition a b).1, .str (Txt.partition a b).2.1, .str (Txt.partition a b).2.2]))) := by
  intro pins s σ H x xs v us Q I rx rs h
  obtain ⟨a, b, rfl, rfl, hb, hz, h⟩ := h
  obtain ⟨t, rfl⟩ := rx
  cases rs with
  | cons r1 rs =>
    cases rs
    obtain ⟨u, rfl⟩ := r1
    refine call_meets F.slot_str_partition (typeIs_str _ _ _) F.entry_str_partition (F.args_str_partition_2 _ _) (meets_str_partition a b t u hb hz) ?_
    unfold Txt.partition at h
    revert h
    cases Builtin.Str.occurrences a b 0 a.length 1 with
    | nil => intro h; exact laid_parts I h
    | cons i r => intro h; exact laid_parts I h

/-- sep.join(a list | a tuple of texts) -/
theorem mt_join : MtR X "str.join" (fun x xs H Q => ∃ a p, ∃ ys : List Str, x = .str a ∧ xs = [.ref p] ∧ (SqL X.K H p (ys.map V.str) ∨ SqT X.K H p (ys.map V.str)) ∧
    (ys.map (·.length)).sum + ys.length * a.length ≤ 16777216 ∧ Q (.str (Txt.join a ys)) H) := by
  intro pins s σ H x xs v us Q I rx rs h
  obtain ⟨a, p, ys, rfl, rfl, hp, hz, h⟩ := h
  obtain ⟨t, rfl⟩ := rx
  cases rs with
  | cons r1 rs =>
    cases rs
    cases r1
    rcases hp with hp | hp
    · obtain ⟨its, r, ⟨o, n, ho, hc, _, hd⟩, _⟩ := I.list hp
      exact PyProof.Rows.join_list (items := its.toArray) ⟨o, ho, hc, n, hd⟩ (by rw [List.toList_toArray]; exact strs_of_vals r) hz fun t' k => ⟨.str _, H, I.tok k, ⟨t', rfl⟩, h⟩
    · obtain ⟨its, r, ht, _⟩ := I.tuple hp
      exact PyProof.Rows.join_tuple (items := its.toArray) ht (by rw [List.toList_toArray]; exact strs_of_vals r) hz fun t' k => ⟨.str _, H, I.tok k, ⟨t', rfl⟩, h⟩

/-! ### of a text alone -/
theorem mt0 {id : String} {C : Str → Prop} {g : Str → V} (rule : ∀ (a : Str) (t : Tok) (s : Shared) (Q : Value → Shared → Prop), C a → (∀ (u : Value) (k : Nat), RelV (g a) u → Q u { s with toks := k }) →
    wpAny (model X.prog X.w) X.A (call (.builtin id) [.str a t]) Q X.xe s) : MtR X id (fun x xs H Q => ∃ a, x = .str a ∧ xs = [] ∧ C a ∧ Q (g a) H) := by
  intro pins s σ H x xs v us Q I rx rs h
  obtain ⟨a, rfl, rfl, hc, h⟩ := h
  obtain ⟨t, rfl⟩ := rx
  cases rs
  exact rule a t s _ hc fun u k r => ⟨g a, H, I.tok k, r, h⟩
theorem mt_strip : MtR X "str.strip" (fun x xs H Q => ∃ a, x = .str a ∧ xs = [] ∧ a.length ≤ sizeLine ∧ Q (.str (Txt.strip a)) H) :=
  mt0 (C := fun a => a.length ≤ sizeLine) (g := fun a => .str (Txt.strip a)) fun _ _ _ _ hc h => PySem.SC.strip (fun t' k => h _ k ⟨t', rfl⟩) hc
theorem mt_lstrip : MtR X "str.lstrip" (fun x xs H Q => ∃ a, x = .str a ∧ xs = [] ∧ a.length ≤ sizeLine ∧ Q (.str (Txt.lstrip a)) H) :=
  mt0 (C := fun a => a.length ≤ sizeLine) (g := fun a => .str (Txt.lstrip a)) fun _ _ _ _ hc h => PySem.SC.lstrip (fun t' k => h _ k ⟨t', rfl⟩) hc
theorem mt_rstrip : MtR X "str.rstrip" (fun x xs H Q => ∃ a, x = .str a ∧ xs = [] ∧ a.length ≤ sizeLine ∧ Q (.str (Txt.rstrip a)) H) :=
  mt0 (C := fun a => a.length ≤ sizeLine) (g := fun a => .str (Txt.rstrip a)) fun _ _ _ _ hc h => PySem.SC.rstrip (fun t' k => h _ k ⟨t', rfl⟩) hc
theorem mt_lower : MtR X "str.lower" (fun x xs H Q => ∃ a, x = .str a ∧ xs = [] ∧ a.length ≤ 5592405 ∧ Q (.str (Txt.lower a)) H) :=
  mt0 (C := fun a => a.length ≤ 5592405) (g := fun a => .str (Txt.lower a)) fun a _ s _ hc h =>
    PySem.SC.lower (notLong (by have h1 : a.length ≤ 5592405 := hc; have := PyProof.Rows.len_lower a; omega)) (h _ (s.toks + 1) ⟨_, rfl⟩)
theorem mt_upper : MtR X "str.upper" (fun x xs H Q => ∃ a, x = .str a ∧ xs = [] ∧ a.length ≤ 5592405 ∧ Q (.str (Txt.upper a)) H) :=
  mt0 (C := fun a => a.length ≤ 5592405) (g := fun a => .str (Txt.upper a)) fun a _ s _ hc h =>
    PySem.SC.upper (notLong (by have h1 : a.length ≤ 5592405 := hc; have := PyProof.Rows.len_upper a; omega)) (h _ (s.toks + 1) ⟨_, rfl⟩)
theorem mt_isdigit : MtR X "str.isdigit" (fun x xs H Q => ∃ a, x = .str a ∧ xs = [] ∧ True ∧ Q (.bl (Txt.isdigit a)) H) :=
  mt0 (C := fun _ => True) (g := fun a => .bl (Txt.isdigit a)) fun _ _ s _ _ h => PySem.SC.isdigit (h _ s.toks rfl)
theorem mt_isalpha : MtR X "str.isalpha" (fun x xs H Q => ∃ a, x = .str a ∧ xs = [] ∧ True ∧ Q (.bl (Txt.isalpha a)) H) :=
  mt0 (C := fun _ => True) (g := fun a => .bl (Txt.isalpha a)) fun _ _ s _ _ h => PySem.SC.isalpha (h _ s.toks rfl)
theorem mt_isalnum : MtR X "str.isalnum" (fun x xs H Q => ∃ a, x = .str a ∧ xs = [] ∧ True ∧ Q (.bl (Txt.isalnum a)) H) :=
  mt0 (C := fun _ => True) (g := fun a => .bl (Txt.isalnum a)) fun _ _ s _ _ h => PySem.SC.isalnum (h _ s.toks rfl)
theorem mt_isspace : MtR X "str.isspace" (fun x xs H Q => ∃ a, x = .str a ∧ xs = [] ∧ True ∧ Q (.bl (Txt.isspace a)) H) :=
  mt0 (C := fun _ => True) (g := fun a => .bl (Txt.isspace a)) fun _ _ s _ _ h => PySem.SC.isspace (h _ s.toks rfl)

/-! ### of a text and a text -/
theorem mt1 {id : String} {g : Str → Str → V} (rule : ∀ (a b : Str) (t u : Tok) (s : Shared) (Q : Value → Shared → Prop), (∀ (v : Value) (k : Nat), RelV (g a b) v → Q v { s with toks := k }) →
    wpAny (model X.prog X.w) X.A (call (.builtin id) [.str a t, .str b u]) Q X.xe s) : MtR X id (fun x xs H Q => ∃ a b, x = .str a ∧ xs = [.str b] ∧ Q (g a b) H) := by
  intro pins s σ H x xs v us Q I rx rs h
  obtain ⟨a, b, rfl, rfl, h⟩ := h
  obtain ⟨t, rfl⟩ := rx
  cases rs with
  | cons r1 rs =>
    cases rs
    obtain ⟨u, rfl⟩ := r1
    exact rule a b t u s _ fun v k r => ⟨g a b, H, I.tok k, r, h⟩
theorem mt_startswith : MtR X "str.startswith" (fun x xs H Q => ∃ a b, x = .str a ∧ xs = [.str b] ∧ Q (.bl (Txt.startswith a b)) H) :=
  mt1 (g := fun a b => .bl (Txt.startswith a b)) fun _ _ _ _ s _ h => PySem.SC.startswith (h _ s.toks rfl)
theorem mt_endswith : MtR X "str.endswith" (fun x xs H Q => ∃ a b, x = .str a ∧ xs = [.str b] ∧ Q (.bl (Txt.endswith a b)) H) :=
  mt1 (g := fun a b => .bl (Txt.endswith a b)) fun _ _ _ _ s _ h => PySem.SC.endswith (h _ s.toks rfl)
theorem mt_find : MtR X "str.find" (fun x xs H Q => ∃ a b, x = .str a ∧ xs = [.str b] ∧ Q (.int (Txt.find a b)) H) :=
  mt1 (g := fun a b => .int (Txt.find a b)) fun _ _ _ _ s _ h => PySem.SC.find (h _ (s.toks + 1) ⟨_, rfl⟩)
theorem mt_count : MtR X "str.count" (fun x xs H Q => ∃ a b, x = .str a ∧ xs = [.str b] ∧ Q (.int (Txt.count a b)) H) :=
  mt1 (g := fun a b => .int (Txt.count a b)) fun _ _ _ _ s _ h => PySem.SC.count (h _ (s.toks + 1) ⟨_, rfl⟩)

/-- int(text) -/
theorem call_int_str : CallR X (.type "int") (fun xs H Q => ∃ a n, xs = [.str a] ∧ PySem.intText? a = some n ∧ a.length ≤ 640 ∧ Q (.int n) H) := by
  intro pins s σ H xs us Q I rs h
  obtain ⟨a, n, rfl, hn, hl, h⟩ := h
  cases rs with
  | cons r1 rs =>
    cases rs
    obtain ⟨t, rfl⟩ := r1
    exact PySem.W.KIN.call_text hn hl ⟨.int n, H, I.tok _, ⟨_, rfl⟩, h⟩
end

section
variable {X : Cx} {o e : Expr} {to te : TE}
def tM0 (r : V → List V → Hp → VK → Prop) (to : TE) : TE := fun σ H Q => to σ H fun x H1 => (∃ a, x = .str a) ∧ r x [] H1 Q
def tM1 (r : V → List V → Hp → VK → Prop) (to te : TE) : TE := fun σ H Q => to σ H fun x H1 => (∃ a, x = .str a) ∧ te σ H1 fun y H2 => r x [y] H2 Q
theorem pe_m0 {id : String} {name : Str} {apos pos : Pos} {r : V → List V → Hp → VK → Prop} (slot : Slot "str" name id) (ty : typeOf (.builtin id) = pure (.type "method_descriptor")) (rule : MtR X id r) (ho : PE X o to)
    (hbase : attributeBase o name X.env (eval o X.env) = eval o X.env := by rfl) (hline : (apos.endLine == pos.line) = true := by rfl) : PE X (.Call (.Attribute o name apos) [] [] pos) (tM0 r to) := by
  intro pins s σ H Q I h
  refine PySem.Call_method0 hbase hline (thn (ho pins s σ H _ I h) fun v s1 ⟨x, H1, I1, r1, q1⟩ => ?_)
  obtain ⟨⟨a, rfl⟩, q1⟩ := q1
  obtain ⟨t, rfl⟩ := _root_.id r1
  exact ⟨"str", _, F.plainAttrs_str, slot, ty, typeIs_str _ _ _, (fun _ e => nomatch e), Calls.callWith_builtin rfl (PySem.evalArgs_none (rule pins s1 σ H1 _ [] _ [] Q I1 r1 .nil q1))⟩
theorem pe_m1 {id : String} {name : Str} {apos pos : Pos} {r : V → List V → Hp → VK → Prop} (slot : Slot "str" name id) (ty : typeOf (.builtin id) = pure (.type "method_descriptor")) (rule : MtR X id r) (ho : PE X o to) (he : PE X e te)
    (hs : starEach [e] X.env = [(false, eval e X.env)] := by rfl) (hbase : attributeBase o name X.env (eval o X.env) = eval o X.env := by rfl) (hline : (apos.endLine == pos.line) = true := by rfl) :
    PE X (.Call (.Attribute o name apos) [e] [] pos) (tM1 r to te) := by
  intro pins s σ H Q I h
  refine PySem.Call_method1 hbase hs hline (thn (ho pins s σ H _ I h) fun v s1 ⟨x, H1, I1, r1, q1⟩ => ?_)
  obtain ⟨⟨a, rfl⟩, q1⟩ := q1
  obtain ⟨t, rfl⟩ := _root_.id r1
  refine ⟨"str", _, F.plainAttrs_str, slot, ty, typeIs_str _ _ _, (fun _ e => nomatch e), Calls.callWith_builtin rfl (Calls.evalArgs_plain (Calls.spliced_cons ?_))⟩
  exact thn (he pins s1 σ H1 _ I1 q1) fun u s2 ⟨y, H2, I2, r2, q2⟩ => Calls.spliced_nil (rule pins s2 σ H2 _ [y] _ [u] Q I2 r1 (.cons r2 .nil) q2)

theorem pe_split {apos pos : Pos} (ho : PE X o to) (he : PE X e te) (hs : starEach [e] X.env = [(false, eval e X.env)] := by rfl) (hbase : attributeBase o "split" X.env (eval o X.env) = eval o X.env := by rfl) (hline : (apos.endLine == pos.line) = true := by rfl) :
    PE X (.Call (.Attribute o "split" apos) [e] [] pos) (tM1 (fun x xs H Q => ∃ a b, x = .str a ∧ xs = [.str b] ∧ (b.length == 0) = false ∧ a.length + 2 ≤ sizeLine ∧ rNewStrs (Txt.split a b) H Q) to te) :=
  pe_m1 F.slot_str_split F.type_str_split mt_split ho he hs hbase hline
theorem pe_words {apos pos : Pos} (ho : PE X o to) (hbase : attributeBase o "split" X.env (eval o X.env) = eval o X.env := by rfl) (hline : (apos.endLine == pos.line) = true := by rfl) :
    PE X (.Call (.Attribute o "split" apos) [] [] pos) (tM0 (fun x xs H Q => ∃ a, x = .str a ∧ xs = [] ∧ a.length + 2 ≤ sizeLine ∧ rNewStrs (Txt.words a) H Q) to) :=
  pe_m0 F.slot_str_split F.type_str_split mt_words ho hbase hline
theorem pe_partition {apos pos : Pos} (ho : PE X o to) (he : PE X e te) (hs : starEach [e] X.env = [(false, eval e X.env)] := by rfl) (hbase : attributeBase o "partition" X.env (eval o X.env) = eval o X.env := by rfl) (hline : (apos.endLine == pos.line) = true := by rfl) :
    PE X (.Call (.Attribute o "partition" apos) [e] [] pos) (tM1 (fun x xs H Q => ∃ a b, x = .str a ∧ xs = [.str b] ∧ (b.length == 0) = false ∧ a.length ≤ sizeLine ∧
      ∀ p, H p = none → Q (.ref p) (upd H p (.tup [.str (Txt.partition a b).1, .str (Txt.partition a b).2.1, .str (Txt.partition a b).2.2]))) to te) :=
  pe_m1 F.slot_str_partition F.type_str_partition mt_partition ho he hs hbase hline
theorem pe_join {apos pos : Pos} (ho : PE X o to) (he : PE X e te) (hs : starEach [e] X.env = [(false, eval e X.env)] := by rfl) (hbase : attributeBase o "join" X.env (eval o X.env) = eval o X.env := by rfl) (hline : (apos.endLine == pos.line) = true := by rfl) :
    PE X (.Call (.Attribute o "join" apos) [e] [] pos) (tM1 (fun x xs H Q => ∃ a p, ∃ ys : List Str, x = .str a ∧ xs = [.ref p] ∧ (SqL X.K H p (ys.map V.str) ∨ SqT X.K H p (ys.map V.str)) ∧
      (ys.map (·.length)).sum + ys.length * a.length ≤ 16777216 ∧ Q (.str (Txt.join a ys)) H) to te) :=
  pe_m1 F.slot_str_join F.type_str_join mt_join ho he hs hbase hline
theorem pe_strip {apos pos : Pos} (ho : PE X o to) (hbase : attributeBase o "strip" X.env (eval o X.env) = eval o X.env := by rfl) (hline : (apos.endLine == pos.line) = true := by rfl) :
    PE X (.Call (.Attribute o "strip" apos) [] [] pos) (tM0 (fun x xs H Q => ∃ a, x = .str a ∧ xs = [] ∧ a.length ≤ sizeLine ∧ Q (.str (Txt.strip a)) H) to) :=
  pe_m0 F.slot_str_strip F.type_str_strip mt_strip ho hbase hline
theorem pe_lower {apos pos : Pos} (ho : PE X o to) (hbase : attributeBase o "lower" X.env (eval o X.env) = eval o X.env := by rfl) (hline : (apos.endLine == pos.line) = true := by rfl) :
    PE X (.Call (.Attribute o "lower" apos) [] [] pos) (tM0 (fun x xs H Q => ∃ a, x = .str a ∧ xs = [] ∧ a.length ≤ 5592405 ∧ Q (.str (Txt.lower a)) H) to) :=
  pe_m0 F.slot_str_lower F.type_str_lower mt_lower ho hbase hline
theorem pe_upper {apos pos : Pos} (ho : PE X o to) (hbase : attributeBase o "upper" X.env (eval o X.env) = eval o X.env := by rfl) (hline : (apos.endLine == pos.line) = true := by rfl) :
    PE X (.Call (.Attribute o "upper" apos) [] [] pos) (tM0 (fun x xs H Q => ∃ a, x = .str a ∧ xs = [] ∧ a.length ≤ 5592405 ∧ Q (.str (Txt.upper a)) H) to) :=
  pe_m0 F.slot_str_upper F.type_str_upper mt_upper ho hbase hline
end
end L2

namespace L2
open PySem PySem.Spec PyProof.Rows

section
variable {X : Cx}
theorem op_le_str : OpR X (compareOp .LtE) (fun x y H Q => ∃ i j, x = .str i ∧ y = .str j ∧ Q (.bl (!decide (j.cps.toList < i.cps.toList))) H) := by
  intro pins s σ H x y v u Q I rx ry h
  obtain ⟨i, j, rfl, rfl, q⟩ := h
  obtain ⟨t, rfl⟩ := rx
  obtain ⟨t', rfl⟩ := ry
  exact PySem.P.le_str (fin_bl I q rfl)
theorem op_gt_str : OpR X (compareOp .Gt) (fun x y H Q => ∃ i j, x = .str i ∧ y = .str j ∧ Q (.bl (decide (j.cps.toList < i.cps.toList))) H) := by
  intro pins s σ H x y v u Q I rx ry h
  obtain ⟨i, j, rfl, rfl, q⟩ := h
  obtain ⟨t, rfl⟩ := rx
  obtain ⟨t', rfl⟩ := ry
  exact PySem.P.gt_str (fin_bl I q rfl)
theorem op_ge_str : OpR X (compareOp .GtE) (fun x y H Q => ∃ i j, x = .str i ∧ y = .str j ∧ Q (.bl (!decide (i.cps.toList < j.cps.toList))) H) := by
  intro pins s σ H x y v u Q I rx ry h
  obtain ⟨i, j, rfl, rfl, q⟩ := h
  obtain ⟨t, rfl⟩ := rx
  obtain ⟨t', rfl⟩ := ry
  exact PySem.P.ge_str (fin_bl I q rfl)
/-- one sign in a text -/
theorem op_in_sign : OpR X (compareOp .In) (fun x y H Q => ∃ (c : Nat) (z : Str), x = .str ⟨#[c]⟩ ∧ y = .str z ∧ Q (.bl (decide (c ∈ z.cps.toList))) H) := by
  intro pins s σ H x y v u Q I rx ry h
  obtain ⟨c, z, rfl, rfl, q⟩ := h
  obtain ⟨t, rfl⟩ := rx
  obtain ⟨t', rfl⟩ := ry
  exact PyProof.Rows.in_str (fin_bl I q (PySem.StrLaws.found_one z c).symm)
theorem op_notIn_sign : OpR X (compareOp .NotIn) (fun x y H Q => ∃ (c : Nat) (z : Str), x = .str ⟨#[c]⟩ ∧ y = .str z ∧ Q (.bl (!decide (c ∈ z.cps.toList))) H) := by
  intro pins s σ H x y v u Q I rx ry h
  obtain ⟨c, z, rfl, rfl, q⟩ := h
  obtain ⟨t, rfl⟩ := rx
  obtain ⟨t', rfl⟩ := ry
  exact PyProof.Rows.notIn_str (fin_bl I q (congrArg Bool.not (PySem.StrLaws.found_one z c).symm))
end

/-! ### slices of a text -/
theorem IsPart.raw {v : Value} {o : Option Int} (p : IsPart v o) : ∃ l : Option (Int × Tok), v = partValue l ∧ l.map (·.1) = o := by
  cases p with
  | none => exact ⟨none, rfl, rfl⟩
  | int i t => exact ⟨some (i, t), rfl, rfl⟩

/-- a part, clipped, as the text's slice reckons it -/
def clipS (n d : Nat) : Option Int → Int
  | none => (d : Int)
  | some i => max 0 (min (if i < 0 then i + (n : Int) else i) (n : Int))
theorem clipS_eq (n d : Nat) (o : Option Int) : clipS n d o = ((HT.sIx n d o : Nat) : Int) := by
  cases o with
  | none => rfl
  | some v =>
    show max (0 : Int) (min (if v < 0 then v + (n : Int) else v) (n : Int)) = (((if v < 0 then (v + (n : Int)).toNat else min v.toNat n) : Nat) : Int)
    by_cases hv : v < 0
    · simp only [if_pos hv]
      omega
    · simp only [if_neg hv]
      omega
theorem sidx_clip (a b : Option Int) (n : Nat) : Builtin.Str.strSliceIndices a b 1 n = sliceRange (clipS n 0 a) (clipS n n b) 1 := by
  have h1 : ((1 : Int) > 0) = True := by simp
  cases a <;> cases b <;> first
    | rfl
    | (simp only [Builtin.Str.strSliceIndices, clipS, h1, if_true]; rfl)
    | simp [Builtin.Str.strSliceIndices, clipS]
theorem sidx (a b : Option Int) (n : Nat) : Builtin.Str.strSliceIndices a b 1 n = (List.range (HT.sIx n n b - HT.sIx n 0 a)).map (fun k => HT.sIx n 0 a + k) := by
  rw [sidx_clip, clipS_eq, clipS_eq]
  generalize HT.sIx n 0 a = p
  generalize HT.sIx n n b = q
  simp only [sliceRange, show ((1 : Int) > 0) = True from by simp, if_true]
  by_cases hlt : (p : Int) < q
  · have e3 : (((q : Int) - p + 1 - 1) / 1).toNat = q - p := by first | omega | (simp; done) | (simp; omega)
    simp only [hlt, if_true, e3]
    refine List.map_congr_left fun k _ => ?_
    omega
  · have : q - p = 0 := by omega
    simp [hlt, this]

/-- z[lo:hi] -/
def cutS (z : Str) (lo hi : Option Int) : Str :=
  ⟨((z.cps.toList.drop (HT.sIx z.length 0 lo)).take (HT.sIx z.length z.length hi - HT.sIx z.length 0 lo)).toArray⟩
theorem sliceText_cut (z : Str) (lo hi : Option Int) : PySem.StrLaws.sliceText z lo hi = cutS z lo hi := by
  have h1 : HT.sIx z.length 0 lo ≤ z.length := HT.sIx_le _ _ (Nat.zero_le _) _
  have h2 : HT.sIx z.length z.length hi ≤ z.length := HT.sIx_le _ _ (Nat.le_refl _) _
  have hp : HT.sIx z.length 0 lo ≤ max (HT.sIx z.length 0 lo) (HT.sIx z.length z.length hi) := Nat.le_max_left _ _
  have hq : max (HT.sIx z.length 0 lo) (HT.sIx z.length z.length hi) ≤ z.length := Nat.max_le.mpr ⟨h1, h2⟩
  have hd : max (HT.sIx z.length 0 lo) (HT.sIx z.length z.length hi) - HT.sIx z.length 0 lo = HT.sIx z.length z.length hi - HT.sIx z.length 0 lo := by omega
  have e : Builtin.Str.strSliceIndices lo hi 1 z.length =
      Builtin.Str.strSliceIndices (some ((HT.sIx z.length 0 lo : Nat) : Int)) (some ((max (HT.sIx z.length 0 lo) (HT.sIx z.length z.length hi) : Nat) : Int)) 1 z.length := by
    rw [PySem.StrLaws.strSliceIndices_plain hp hq, hd, sidx]
  have e2 : PySem.StrLaws.sliceText z lo hi =
      PySem.StrLaws.sliceText z (some ((HT.sIx z.length 0 lo : Nat) : Int)) (some ((max (HT.sIx z.length 0 lo) (HT.sIx z.length z.length hi) : Nat) : Int)) := by
    unfold PySem.StrLaws.sliceText
    rw [e]
  rw [e2, PySem.StrLaws.sliceText_nat z hp hq, hd]
  rfl
theorem cutS_length (z : Str) (lo hi : Option Int) : (cutS z lo hi).length ≤ z.length := by
  show (((z.cps.toList.drop (HT.sIx z.length 0 lo)).take (HT.sIx z.length z.length hi - HT.sIx z.length 0 lo)).toArray).size ≤ z.cps.size
  rw [List.size_toArray, List.length_take, List.length_drop, Array.length_toList]
  omega
def rSlS : V → Option Int → Option Int → Hp → VK → Prop := fun x lo hi H Q => ∃ z, x = .str z ∧ z.length ≤ sizeLine ∧ Q (.str (cutS z lo hi)) H
theorem sl_str {X : Cx} : SlR X rSlS := by
  intro pins s σ H x v vl vu lo hi sl Q I rx hs pl pu h
  obtain ⟨z, rfl, hz, q⟩ := h
  obtain ⟨t, rfl⟩ := rx
  obtain ⟨os, hos, hcs, hds⟩ := hs
  obtain ⟨l, rfl, rfl⟩ := IsPart.raw pl
  obtain ⟨u, rfl, rfl⟩ := IsPart.raw pu
  refine ⟨"str", _, F.slot_str_getitem.lookup, typeIs_str _ _ _, ?_⟩
  refine wpAny_getItem_str_slice (l := l) (u := u) (st := none) ⟨os, hos, hcs, hds⟩ rfl ?_
  have hl : (PySem.StrLaws.sliceText z (l.map (·.1)) (u.map (·.1))).length ≤ sizeLine := by
    rw [sliceText_cut]
    exact Nat.le_trans (cutS_length z _ _) hz
  rw [← sliceText_cut] at q
  unfold PySem.StrLaws.sliceText at q hl
  show Made.post (if ((1 : Int) == 1 && (Builtin.Str.strSliceIndices (l.map (·.1)) (u.map (·.1)) 1 z.length).length == z.length) = true then Made.val (.str z t)
    else Made.str ⟨((Builtin.Str.strSliceIndices (l.map (·.1)) (u.map (·.1)) 1 z.length).filterMap (z.cps[·]?)).toArray⟩) (EP X pins σ Q) s
  by_cases c : ((1 : Int) == 1 && (Builtin.Str.strSliceIndices (l.map (·.1)) (u.map (·.1)) 1 z.length).length == z.length) = true
  · rw [if_pos c] at q ⊢
    exact ⟨.str z, H, I, ⟨t, rfl⟩, q⟩
  · rw [if_neg c] at q hl ⊢
    exact ⟨hl, .str _, H, I.tok _, ⟨_, rfl⟩, q⟩
end L2

namespace Att
open PySem PySem.W PySem.Calls PyProof.Rows

/-! ### the script -/
theorem ints_of_wellAll {P : Params} {h : Heap} : ∀ (ns : List Int) (vs : List Value), WellAll P h vs (ns.map WData.int) → IntsAre vs ns := by
  intro ns
  induction ns with
  | nil =>
    intro vs w
    rw [List.map_nil] at w
    cases w
    exact .nil
  | cons n ns ih =>
    intro vs w
    rw [List.map_cons] at w
    cases w with
    | cons a b =>
      cases a
      exact .cons _ _ (ih _ b)

theorem script_of {l : OpenLaw} {n : Nat} (hn : l.most = some n) {P : Params} {h : Heap} {args : List WData} {vals : List Value}
    (hpre : l.row.toRowW.claim.pre args = true) (hwl : WellAll P h vals args) :
    ∃ a vs ns, vals = [Value.ref a] ∧ args = [WData.list (ns.map WData.int)] ∧ h.get? a = some { cls := .type "list", data := .seq vs.toArray } ∧ IntsAre vs ns ∧ ns.length ≤ n := by
  have hsh : WShape.hasAll [] args [.list .int] = true := (pre_splitW hpre).1
  have hc : l.pre.holds [] { args := args } = true := (pre_splitW hpre).2
  obtain ⟨d, r, rfl, h1, h2⟩ := hasAllW_cons hsh
  obtain rfl := hasAllW_nil h2
  obtain ⟨xs, rfl, h3⟩ := hasW_list h1
  obtain ⟨ns, rfl⟩ := items_int h3
  have hlen : ns.length ≤ n := by
    unfold OpenLaw.pre at hc
    have h4 : (WTm.not (.lt (.lit (.int (n : Int))) (.len (.arg 0)))).holds [] { args := [.list (ns.map .int)] } = true := by
      have h4 := (holds_andW hc).1
      rw [hn] at h4
      exact h4
    have h5 := condW_of h4 (w_not (w_lt w_lit (w_len_list (w_arg rfl))))
    rw [List.length_map] at h5
    refine Nat.le_of_not_lt fun q => ?_
    have q' : (n : Int) < ((ns.length : Nat) : Int) := by omega
    first
      | (rw [decide_eq_true q'] at h5; exact absurd h5 (by decide))
      | (simp at h5; omega)
  cases hwl with
  | cons w1 w2 =>
    cases w2
    cases w1 with
    | list ho hall => exact ⟨_, _, ns, rfl, rfl, ho, ints_of_wellAll ns _ hall, hlen⟩

theorem post_true (l : OpenLaw) (args : List WData) : l.row.toRowW.claim.post args (.bool true) args = true :=
  postW_of (r := l.row.toRowW) (X := (true == true))
    (show WShape.has [] (.bool true) .bool = true by first | rfl | decide | simp [WShape.has, WShape.arms, WShape.armsAll])
    (show (WTm.eq .res (.lit (.bool true))).value [] { args := args, res := some (.bool true), after := args } = some (.bool (true == true)) from w_eq_bool (w_res rfl) w_lit) rfl

/-! ### the attachment: holds_open's last premise (the goal 'hc' behind k_head) from a wpAny of the law's body -/
theorem attach {l : OpenLaw} {n : Nat} {q : Program} {loose : List Str} {XP : (Str → Option Value) → Heap → Prop} {YP : World → Heap → Prop} {d : DefRec} {x : Str}
    (hn : l.most = some n) (hdf : d.params.defaults = [])
    (hbind : ∀ pm cd doc v : Value, bindArgs (docDef d.name d.params d.body d.scope pm cd doc) ⟨[v], []⟩ = pure [(x, v)])
    (hx : d.scope.names.lookup x = some .local ∨ d.scope.names.lookup x = some .cell)
    (hk : d.scope.kind = .function) (hco : d.scope.isCoroutine = false) (hgen : d.scope.isGenerator = false)
    (body : ∀ (w : World) (s₀ s₁ s : Shared) (mg mb : Str → Option Value) (fa : Addr) (o : Obj) (pm cd doc : Value) (a : Addr) (vs : List Value) (ns : List Int),
      Ground q loose [] XP w s₀ mg mb s₁.heap → YP w s₁.heap →
      s₁.heap.get? fa = some o → o.data = .func (docDef d.name d.params d.body d.scope pm cd doc) → s₁.heap.CodeRec cd d.name → mg d.name = some (.ref fa) →
      s₁.heap.get? a = some { cls := .type "list", data := .seq vs.toArray } → IntsAre vs ns → ns.length ≤ n →
      s.gens = #[] → s.os = s₁.os →
      Fr s₁.heap s₁.heap.objs.size s.heap (bindL (envOfC d.name d.scope s₁.heap.objs.size fa cd).kindOf [(x, .ref a)] fun _ => none) →
      Cl s₁.heap.objs.size (cellsFrom (s₁.heap.objs.size + 1) d.scope.names []) s.heap (bindC (envOfC d.name d.scope s₁.heap.objs.size fa cd).kindOf [(x, .ref a)] fun _ => none) →
      wpAny (model l.prog w) (callerA.deeper (envOfC d.name d.scope s₁.heap.objs.size fa cd)) (execs d.body (envOfC d.name d.scope s₁.heap.objs.size fa cd))
        (fun f s' => f = .ret (.bool true) ∧ OldK s₁.heap s'.heap ∧ s'.os = s₁.os ∧ AllBare s'.gens) (fun _ _ => False) s) :
    WalkO q loose XP YP l.row.toRowW d [] (fun f vs => PySem.call f vs) := by
  intro w s₀ s₁ mg mb G Y fa o pm cd doc dV kV ho hd hcd hD hmg hg args vals as hpre hlay hrd hwl hlo
  obtain rfl : dV = .none := Dflts.none hD hdf
  obtain rfl : kV = .none := Dflts.noKw hD
  obtain ⟨a, vs, ns, rfl, rfl, hobj, hints, hlen⟩ := script_of hn hpre hwl
  refine enter_call ?_
  refine call_cells_ret (o := o) (by rw [depth_caller]; decide) ho (fd_plain hd) G.T.nolimit hcd (hbind pm cd doc (.ref a)) (fun y hy => ?_) (fun h₁ tk F X => ?_) hco hgen hk
  · obtain rfl : y = (x, Value.ref a) := List.mem_singleton.mp hy
    rcases hx with e | e
    · exact .inl e
    · exact .inr ⟨e, cellsFrom_some _ _ _ (.inl e)⟩
  · refine wpAny_mono (body w s₀ s₁ { s₁ with heap := h₁, toks := tk } mg mb fa o pm cd doc a vs ns G Y ho (fd_plain hd) hcd hmg hobj hints hlen hg rfl F X) (fun f s' hq => ?_) (fun _ _ hq => hq)
    obtain ⟨rfl, h2, h3, h4⟩ := hq
    exact ⟨.inl ⟨.bool true, .bool true, [], rfl, fun _ => rfl, .bool true, post_true l _, fun _ => ⟨List.Pairwise.nil, fun _ hm => (nomatch hm)⟩⟩, h2, h3, h4⟩

/-- the same from a codeAny of the CALL (for a layer whose function contracts speak of calls) -/
theorem attach_call {l : OpenLaw} {n : Nat} {q : Program} {loose : List Str} {XP : (Str → Option Value) → Heap → Prop} {YP : World → Heap → Prop} {d : DefRec}
    (hn : l.most = some n) (hdf : d.params.defaults = [])
    (call : ∀ (w : World) (s₀ s₁ : Shared) (mg mb : Str → Option Value) (fa : Addr) (o : Obj) (pm cd doc : Value) (a : Addr) (vs : List Value) (ns : List Int),
      Ground q loose [] XP w s₀ mg mb s₁.heap → YP w s₁.heap →
      s₁.heap.get? fa = some o → o.data = .func (docDef d.name d.params d.body d.scope pm cd doc) → s₁.heap.CodeRec cd d.name → mg d.name = some (.ref fa) →
      s₁.heap.get? a = some { cls := .type "list", data := .seq vs.toArray } → IntsAre vs ns → ns.length ≤ n → s₁.gens = #[] →
      codeAny (model l.prog w) callerA (.call (.ref fa) ⟨[.ref a], []⟩) (fun r s' => r = .ok (.ret (.bool true)) ∧ OldK s₁.heap s'.heap ∧ s'.os = s₁.os ∧ AllBare s'.gens) s₁) :
    WalkO q loose XP YP l.row.toRowW d [] (fun f vs => PySem.call f vs) := by
  intro w s₀ s₁ mg mb G Y fa o pm cd doc dV kV ho hd hcd hD hmg hg args vals as hpre hlay hrd hwl hlo
  obtain rfl : dV = .none := Dflts.none hD hdf
  obtain rfl : kV = .none := Dflts.noKw hD
  obtain ⟨a, vs, ns, rfl, rfl, hobj, hints, hlen⟩ := script_of hn hpre hwl
  refine enter_call (codeAny_mono (call w s₀ s₁ mg mb fa o pm cd doc a vs ns G Y ho (fd_plain hd) hcd hmg hobj hints hlen hg) fun r s' hq => ?_)
  obtain ⟨rfl, h2, h3, h4⟩ := hq
  exact ⟨.inl ⟨.bool true, .bool true, [], rfl, fun _ => rfl, .bool true, post_true l _, fun _ => ⟨List.Pairwise.nil, fun _ hm => (nomatch hm)⟩⟩, h2, h3, h4⟩

/-- the same where the top left finished generators (o_head chose holds_openN): nothing may have changed at all and no generator may be left -/
theorem attachN {l : OpenLaw} {n : Nat} {q : Program} {loose : List Str} {XP : (Str → Option Value) → Heap → Prop} {YP : World → Heap → Prop} {d : DefRec} {x : Str}
    (hn : l.most = some n) (hdf : d.params.defaults = [])
    (hbind : ∀ pm cd doc v : Value, bindArgs (docDef d.name d.params d.body d.scope pm cd doc) ⟨[v], []⟩ = pure [(x, v)])
    (hx : d.scope.names.lookup x = some .local ∨ d.scope.names.lookup x = some .cell)
    (hk : d.scope.kind = .function) (hco : d.scope.isCoroutine = false) (hgen : d.scope.isGenerator = false)
    (body : ∀ (w : World) (s₀ s₁ s : Shared) (mg mb : Str → Option Value) (fa : Addr) (o : Obj) (pm cd doc : Value) (a : Addr) (vs : List Value) (ns : List Int),
      Ground q loose [] XP w s₀ mg mb s₁.heap → YP w s₁.heap →
      s₁.heap.get? fa = some o → o.data = .func (docDef d.name d.params d.body d.scope pm cd doc) → s₁.heap.CodeRec cd d.name → mg d.name = some (.ref fa) →
      s₁.heap.get? a = some { cls := .type "list", data := .seq vs.toArray } → IntsAre vs ns → ns.length ≤ n →
      s.gens = #[] → s.os = s₁.os →
      Fr s₁.heap s₁.heap.objs.size s.heap (bindL (envOfC d.name d.scope s₁.heap.objs.size fa cd).kindOf [(x, .ref a)] fun _ => none) →
      Cl s₁.heap.objs.size (cellsFrom (s₁.heap.objs.size + 1) d.scope.names []) s.heap (bindC (envOfC d.name d.scope s₁.heap.objs.size fa cd).kindOf [(x, .ref a)] fun _ => none) →
      wpAny (model l.prog w) (callerA.deeper (envOfC d.name d.scope s₁.heap.objs.size fa cd)) (execs d.body (envOfC d.name d.scope s₁.heap.objs.size fa cd))
        (fun f s' => f = .ret (.bool true) ∧ (∀ b o, s₁.heap.get? b = some o → s'.heap.get? b = some o) ∧ s'.os = s₁.os ∧ s'.gens = #[]) (fun _ _ => False) s) :
    WalkN q loose XP YP l.row.toRowW d [] (fun f vs => PySem.call f vs) := by
  intro w s₀ s₁ mg mb G Y fa o pm cd doc dV kV ho hd hcd hD hmg hg args vals as hpre hlay hrd hwl hlo
  obtain rfl : dV = .none := Dflts.none hD hdf
  obtain rfl : kV = .none := Dflts.noKw hD
  obtain ⟨a, vs, ns, rfl, rfl, hobj, hints, hlen⟩ := script_of hn hpre hwl
  refine enter_callW ?_
  refine call_cells_ret (o := o) (by rw [depth_caller]; decide) ho (fd_plain hd) G.T.nolimit hcd (hbind pm cd doc (.ref a)) (fun y hy => ?_) (fun h₁ tk F X => ?_) hco hgen hk
  · obtain rfl : y = (x, Value.ref a) := List.mem_singleton.mp hy
    rcases hx with e | e
    · exact .inl e
    · exact .inr ⟨e, cellsFrom_some _ _ _ (.inl e)⟩
  · refine wpAny_mono (body w s₀ s₁ { s₁ with heap := h₁, toks := tk } mg mb fa o pm cd doc a vs ns G Y ho (fd_plain hd) hcd hmg hobj hints hlen hg rfl F X) (fun f s' hq => ?_) (fun _ _ hq => hq)
    obtain ⟨rfl, h2, h3, h4⟩ := hq
    exact ⟨.inl ⟨.bool true, .bool true, [], rfl, fun _ => rfl, .bool true, post_true l _, fun _ => ⟨List.Pairwise.nil, fun _ hm => (nomatch hm)⟩⟩, h2, h3, h4⟩

/-! ### rules over ANY heap (no ledger) from facts about the written part K: the library's own take a ledger (News) for what they write -/
section
variable {prog : Program} {w : World} {A : Around} {E : Value → Shared → Prop} {s : Shared} {K : Frag}

/-- a def of the module, or a method (qual 'C.m'), entered: the frame is the next address; cells behind it -/
theorem call_fn {R : Result → Shared → Prop} {name qual : Str} {params : Arguments} {body : List Stmt} {scope : Scope} {dV kV doc pm cdv ct oc : Value} {an od : Option Addr} {osl : Array (Option Value)} {f : Addr} {args : Args} {binds : List (Str × Value)}
    (X : K.In s.heap) (hlim : s.heap.NoLimit) (ho : K.lookup f = some ⟨oc, od, .func (fnOf name qual params body scope dV kV doc pm an cdv ct), osl⟩) (hcd : codeIn K cdv qual = true) (hroom : A.depth < recursionLimit)
    (hbind : BindsTo s (fnOf name qual params body scope dV kV doc pm an cdv ct) args binds)
    (hkind : (binds.all fun y => scope.names.lookup y.1 == some .local || scope.names.lookup y.1 == some .cell) = true)
    (h : ∀ s₁, InCallC s s.heap.objs.size (bindL (envOfC qual scope s.heap.objs.size f cdv).kindOf binds fun _ => none) (cellsFrom (s.heap.objs.size + 1) scope.names [])
        (bindC (envOfC qual scope s.heap.objs.size f cdv).kindOf binds fun _ => none) s₁ →
      wpAny (model prog w) (A.deeper (envOfC qual scope s.heap.objs.size f cdv)) (execs body (envOfC qual scope s.heap.objs.size f cdv))
        (fun fl s' => R (.ok (.ret (match fl with | .ret v => v | _ => .none))) s')
        (fun e s' => wpAny (model prog w) (A.deeper (envOfC qual scope s.heap.objs.size f cdv)) (leaving (envOfC qual scope s.heap.objs.size f cdv) e) (fun _ s'' => R (.error e) s'') (fun e' s'' => R (.error e') s'') s') s₁)
    (hco : scope.isCoroutine = false) (hgen : scope.isGenerator = false) (hk : scope.kind = .function) : codeAny (model prog w) A (.call (.ref f) args) R s := by
  refine codeAny_call_function hroom (X _ _ ho) rfl hco hgen rfl (codeRec_of X hcd) (hbind _ _ _ _ ?_)
  refine wpAny_newFunctionEnv_cells hk (kindsX hkind _) fun env he s₁ x => ?_
  subst he
  exact ⟨hlim.keeps x.toInCall.keep, codeAny_func (h s₁ x)⟩

/-- C(..): dict at size, instance at size + 1, then __init__ -/
theorem make_obj {R : Result → Shared → Prop} {C fI : Addr} {rest : List Value} {kw : List (Str × Value)}
    (X : K.In s.heap) (hm : makesIn K C = true) (hi : findIn K (.ref C) "__init__" = some (some (.ref fI))) (hf : isFn K (.ref fI) = true)
    (h : codeAny (model prog w) (A.under (.builtin "type.__call__" ⟨.ref C :: rest, kw⟩)) (.call (.ref fI) ⟨.ref (s.heap.objs.size + 1) :: rest, kw⟩) (InitBack (s.heap.objs.size + 1) R)
      { s with heap := (s.heap.push emptyDict).push (instObj C s.heap.objs.size) }) : codeAny (model prog w) A (.call (.ref C) ⟨rest, kw⟩) R s := by
  obtain ⟨hh, g, d, t, os⟩ := s
  exact make_core (makes_of X hm) (looks_findIn X hi) (fun self => bind_fn X self (beq_iff_eq.mp hf)) (.inl rfl) h

/-- x.name where the instance's dict holds the name and the class does not -/
theorem get_field {x C : Addr} {ox : Obj} {es : List DictEntry} {n : Nat} {name : Str} {expr : Bool} {v : Value} {Q : Value → Shared → Prop}
    (X : K.In s.heap) (I : PySem.W.InstAt s.heap x ox C (some (dictOf es n))) (hg : plainGet K C name = true) (hh : hasDictIn K C = true) (ha : findIn K (.ref C) name = some none)
    (hl : getL name es = some (some v)) (hv : handedIn v = true) (h : Q v { s with toks := s.toks + 1 }) : wpAny (model prog w) A (getAttr (.ref x) name expr) Q E s :=
  get_value X I (plainGet_of hg).1 (findObj_own hh ha rfl hl) hv h

/-- x.m(..): the method found in the class -/
theorem get_method {x C f : Addr} {ox : Obj} {es : List DictEntry} {n : Nat} {name : Str} {pl : Sem Bool} {Q : Value × List Value → Shared → Prop}
    (X : K.In s.heap) (I : PySem.W.InstAt s.heap x ox C (some (dictOf es n))) (hg : plainGet K C name = true) (hf : findIn K (.ref C) name = some (some (.ref f))) (ht : isFn K (.ref f) = true)
    (hl : getL name es = some none) (h : Q (.ref f, [.ref x]) s) : wpAny (model prog w) A (getMethod (.ref x) name pl) Q E s :=
  method_fn X I (plainGet_of hg).1 (plainGet_of hg).2 hf (beq_iff_eq.mp ht) (by show (lookIn name (dictOf es n)).map _ = _; rw [lookIn_dict, hl]; rfl) h

/-! the whole heap as the ledger: makes every rule that writes through a ledger a rule over any heap -/
def noObjs (h : Heap) : Heap := { h with objs := #[] }
theorem noObjs_get (h : Heap) (b : Addr) : (noObjs h).get? b = none := by
  cases e : (noObjs h).get? b with
  | none => rfl
  | some o => exact absurd (Heap.lt_size e) (Nat.not_lt_zero _)
def ledger (h : Heap) (L d : Addr) : List (Addr × Obj) := (List.range h.objs.size).filterMap fun a => if a = L ∨ a = d then none else (h.get? a).map fun o => (a, o)
theorem mem_ledger {h : Heap} {L d a : Addr} {o : Obj} : (a, o) ∈ ledger h L d ↔ a ≠ L ∧ a ≠ d ∧ h.get? a = some o := by
  unfold ledger
  rw [List.mem_filterMap]
  constructor
  · rintro ⟨b, _, e⟩
    split at e
    · cases e
    · rename_i hb
      obtain ⟨o', ho, e'⟩ := Option.map_eq_some_iff.mp e
      cases e'
      exact ⟨fun q => hb (.inl q), fun q => hb (.inr q), ho⟩
  · rintro ⟨n1, n2, ho⟩
    refine ⟨a, List.mem_range.mpr (Heap.lt_size ho), ?_⟩
    rw [if_neg (show ¬ (a = L ∨ a = d) from fun q => q.elim n1 n2), ho] <;> rfl
theorem news_ledger {h : Heap} {L d : Addr} {od : Obj} (hne : d ≠ L) (ho : h.get? d = some od) : News (noObjs h) L h ([] ++ (d, od) :: ledger h L d) := by
  rintro ⟨a, o⟩ hp
  rcases List.mem_cons.mp hp with e | hp
  · cases e
    exact ⟨ho, hne, noObjs_get _ _⟩
  · obtain ⟨n1, n2, e⟩ := mem_ledger.mp hp
    exact ⟨e, n1, noObjs_get _ _⟩
theorem fr_all {h : Heap} {L : Addr} {m : Str → Option Value} (n : h.Ns L m) : Fr (noObjs h) L h m :=
  ⟨n, fun b o e => (by rw [noObjs_get] at e; cases e), Nat.zero_le _⟩
/-- Upd of the head entry (for append_K, setItem_K ..) -/
theorem upd_ledger {h : Heap} {L d : Addr} {o o' : Obj} : Upd d o o' ((d, o) :: ledger h L d) ((d, o') :: ledger h L d) :=
  .head fun ⟨_, _⟩ hp => (mem_ledger.mp hp).2.1

/-- x.name = v over any heap: L is any namespace of the heap (the frame's, say): its map stays, its object is not told; all else but the dict stays -/
theorem set_field {x C dx L : Addr} {ox : Obj} {m : Str → Option Value} {es es' : List DictEntry} {n n' : Nat} {name : Str} {v : Value} {Q : Unit → Shared → Prop}
    (X : K.In s.heap) (I : PySem.W.InstAt s.heap x ox C (some (dictOf es n))) (hd : ox.dict = some dx) (hL : s.heap.Ns L m) (hne : dx ≠ L)
    (hs : findIn K (.ref C) "__setattr__" = some (some (.builtin "object.__setattr__"))) (hp : plainOver K C = true) (ht : takerIn K C name = some none) (hh : hasDictIn K C = true) (hl : (getL name es).isSome = true)
    (e : (putL name (PyData.keyHash w.params name) (.str name (s.toks + 1)) v es, putN name es n) = (es', n')) (hz : es'.length ≤ 1000)
    (h : ∀ h' : Heap, h'.Ns L m → h'.get? dx = some (dictOf es' n') → (∀ b o, b ≠ dx → b ≠ L → s.heap.get? b = some o → h'.get? b = some o) → Q () { s with heap := h', toks := s.toks + 2 }) :
    wpAny (model prog w) A (setAttr (.ref x) name v) Q E s := by
  obtain ⟨e1, e2⟩ := Prod.mk.inj e
  have hdx : s.heap.get? dx = some (dictOf es n) := by
    have := I.dict
    rw [hd] at this
    exact this
  refine set_plain X I hs (osa_dict (s := { s with toks := s.toks + 1 }) (h₀ := noObjs s.heap) (L := L) (m := m) (od := dictOf es n) (od' := dictOf es' n') (es := es') (n := n') (pre := []) (post := ledger s.heap L dx)
    (fr_all hL) (news_ledger hne hdx) X I hd hp ht hh hl (fun _ q => nomatch q) (fun ⟨_, _⟩ q => (mem_ledger.mp q).2.1) (by rw [putName_dict, e1, e2]) rfl hz fun h' F' N' => ?_)
  exact h h' F'.ns (N'.get (List.Mem.head _)) fun b o n1 n2 ho => N'.get (List.Mem.tail _ (mem_ledger.mpr ⟨n2, n1, ho⟩))
end
end Att

namespace L2
open PySem PySem.Spec PyProof.Rows

theorem vals_ints : ∀ {vs : List Value} {ns : List Int}, IntsAre vs ns → Vals (ns.map V.int) vs
  | _, _, .nil => .nil
  | _, _, .cons n t h => .cons ⟨t, rfl⟩ (vals_ints h)

/-- nothing is tracked but the script, known to the object (or it is an object of the module) -/
def Only (H : Hp) : Prop := ∀ b, H b = none ∨ ∃ o xs, H b = some (.frz o (.lst xs))

/-- THE HEAD: the law's promise, at the heap behind the top. F, the promise of the law's def, may use that base is part of the heap (so K.In base, base.Ns mainGlobals mg stand in Mod) -/
theorem law_call {P : Program} {w : World} {K : PySem.W.Frag} {mg mb : Str → Option Value} {CX : CXT} {k : Nat} {fa a : Addr} {fd : FuncData} {x : Str} {sp : Sp} {s₁ : Shared} {vs : List Value} {ns : List Int}
    (KX : K.In s₁.heap) (hns : s₁.heap.Ns mainGlobals mg) (hb : s₁.heap.Ns builtinsNs mb) (hbb : ∀ x : Str, x ≠ "__name__" → mb x = bootBuiltins x) (hlim : s₁.heap.NoLimit) (hg : s₁.gens = #[])
    (ha : s₁.heap.get? a = some { cls := .type "list", data := .seq vs.toArray }) (hi : IntsAre vs ns) (hl : ns.length ≤ sizeLine) (hr : Room k callerA)
    (F : ∀ base : Heap, K.In base → base.Ns mainGlobals mg → FnOk P w K mg base CX k fa fd [x] sp) (hbind : ∀ (s : Shared) (u : Value), BindsTo s fd ⟨[u], []⟩ [(x, u)])
    (hsp : ∀ H : Hp, Only H → SqL K H a (ns.map V.int) → sp [.ref a] H (fun v _ => v = .bl true) fun _ _ _ => False)
    (hCX : ∀ H e s', CX [] H s₁ (fun _ _ _ => False) e s' → False) :
    codeAny (model P w) callerA (.call (.ref fa) ⟨[.ref a], []⟩) (fun r s' => r = .ok (.ret (.bool true)) ∧ OldK s₁.heap s'.heap ∧ s'.os = s₁.os ∧ AllBare s'.gens) s₁ := by
  have rv := vals_ints hi
  have lenV := hi.length
  -- from an abstract heap in which nothing but the script may be tracked
  have core : ∀ H : Hp, Only H → SqL K H a (ns.map V.int) → HOk P w H s₁.heap → (∀ b, H b ≠ none → b = a) → (H a ≠ none → K.lookup a = none) →
      codeAny (model P w) callerA (.call (.ref fa) ⟨[.ref a], []⟩) (fun r s' => r = .ok (.ret (.bool true)) ∧ OldK s₁.heap s'.heap ∧ s'.os = s₁.os ∧ AllBare s'.gens) s₁ := by
    intro H hO hS hok hA hK
    have base_of : ∀ {b : Addr} {o : Obj}, s₁.heap.get? b = some o → H b = none → (hidT s₁.heap H).get? b = some o := fun e n => hidT_get e n
    have noA : ∀ {b : Addr} {o : Obj} {es : Array DictEntry} {ep : Nat}, s₁.heap.get? b = some o → o.data = .dict es ep → H b = none := fun {b o es ep} e d => by
      cases q : H b with
      | none => rfl
      | some u =>
        have e' : b = a := hA b (by rw [q]; simp)
        subst e'
        rw [ha] at e; cases e
        have d' : Data.seq vs.toArray _ = Data.dict es ep := d
        cases d'
    have nsK : ∀ {b : Addr} {m : Str → Option Value}, s₁.heap.Ns b m → (hidT s₁.heap H).Ns b m := fun {b m} ⟨o, es, ep, e, d, r⟩ => ⟨o, es, ep, base_of e (noA e d), d, r⟩
    have hKb : K.In (hidT s₁.heap H) := fun b o e => base_of (KX b o e) (by
      cases q : H b with
      | none => rfl
      | some u =>
        have e' : b = a := hA b (by rw [q]; simp)
        subst e'
        rw [hK (by rw [q]; simp)] at e; cases e)
    have hM : Mod K mg (hidT s₁.heap H) := ⟨hKb, nsK hns, ⟨mb, nsK hb, hbb⟩, let ⟨mc, h1, h2⟩ := hlim; ⟨mc, nsK h1, h2⟩⟩
    have e0 : Env0 P w K mg (hidT s₁.heap H) callerA [] s₁ H := ⟨rfl, hM, fun b o e => of_hidT e, Nat.le_of_eq (hidT_size _ _), trivial, fun b hb => absurd (show b ∈ ([] : List Addr) from hb) (by simp), hok, .of_eq hg⟩
    refine codeAny_mono ((F _ hKb (nsK hns)).run callerA [] s₁ H ⟨[.ref a], []⟩ [.ref a] [.ref a] _ _ hr e0 (hbind s₁ (.ref a)) (.cons rfl .nil) (hsp H hO hS)) fun r s' h => ?_
    cases r with
    | error e => exact (hCX H e s' h).elim
    | ok fl =>
      cases fl with
      | next => exact False.elim h
      | brk => exact False.elim h
      | cont => exact False.elim h
      | ret u =>
        obtain ⟨v, H', os, bare, un, hok', r', q⟩ := h
        have q' : v = .bl true := q
        subst q'
        obtain rfl : u = Value.bool true := r'
        refine ⟨rfl, OldK.of_keep fun b o e => ?_, os, bare⟩
        cases q : H b with
        | none => exact un.keep b o e q (by intro z; exact absurd (show b ∈ ([] : List Addr) from z) (by simp)) (by simp)
        | some u =>
          rcases hO b with z | ⟨ob, xs, z⟩
          · rw [q] at z; cases z
          · have z2 := un.frzs b ob _ z
            obtain ⟨e1, _⟩ := hok b _ z
            obtain ⟨e2, _⟩ := hok' b _ z2
            rw [e] at e1; cases e1
            exact e2
  cases hk : K.lookup a with
  | some o =>
    -- the script is one of the module's own objects
    have e := KX a o hk
    rw [ha] at e
    cases e
    refine core (fun _ => none) (fun _ => .inl rfl) (.inr ⟨_, vs.toArray, _, hk, rfl, rfl, rfl, by rw [List.size_toArray, lenV]; exact hl, by simpa using rv⟩) (fun b u z => by have z' : (none : Option HO) = some u := z; cases z') (fun b z => absurd rfl z) fun z => absurd rfl z
  | none =>
    refine core (fun b => if b = a then some (.frz { cls := .type "list", data := .seq vs.toArray } (.lst (ns.map V.int))) else none) (fun b => ?_) (.inl (.inr ⟨{ cls := .type "list", data := .seq vs.toArray }, if_pos rfl⟩)) (fun b u z => ?_) (fun b z => ?_) fun _ => hk
    · by_cases hb : b = a
      · exact .inr ⟨_, _, if_pos hb⟩
      · exact .inl (if_neg hb)
    · by_cases hb : b = a
      · have z' := (if_pos hb).symm.trans z
        cases z'
        subst hb
        exact ⟨ha, by rw [List.length_map]; exact hl, vs, _, rv, ha⟩
      · have z' := (if_neg hb).symm.trans z
        cases z'
    · by_cases hb : b = a
      · exact hb
      · exact absurd (if_neg hb) z
end L2

namespace L2
open PySem PySem.Spec PyProof.Rows

abbrev KOf {K : PySem.W.Frag} {h : Heap} (_ : K.In h) : PySem.W.Frag := K

/-- the goal that k_head leaves (case hc), from the law's promise. F gives the function object fd (K's own) once, then the promise over every base -/
theorem walk_of {l : PySem.W.OpenLaw} {n k : Nat} {q : Program} {loose : List Str} {XP : (Str → Option Value) → Heap → Prop} {YP : World → Heap → Prop} {d : DefRec} {K : Params → PySem.W.Frag} {CX : World → CXT} {sp : World → Sp} {x : Str}
    (hn : l.most = some n) (hn2 : n ≤ sizeLine) (hdf : d.params.defaults = []) (hr : Room k callerA)
    (hY : ∀ (w : World) (h : Heap), YP w h → (K w.params).In h)
    (F : ∀ (w : World) (mg : Str → Option Value) (fa : Addr) (h : Heap), (K w.params).In h → h.Ns mainGlobals mg → mg d.name = some (.ref fa) →
      ∃ fd : FuncData, (∀ (s : Shared) (u : Value), BindsTo s fd ⟨[u], []⟩ [(x, u)]) ∧
        ∀ base : Heap, (K w.params).In base → base.Ns mainGlobals mg → FnOk l.prog w (K w.params) mg base (CX w) k fa fd [x] (sp w))
    (hsp : ∀ (w : World) (H : Hp) (a : Addr) (ns : List Int), ns.length ≤ n → Only H → SqL (K w.params) H a (ns.map V.int) → sp w [.ref a] H (fun v _ => v = .bl true) fun _ _ _ => False)
    (hCX : ∀ (w : World) (H : Hp) (s : Shared) (e : Value) (s' : Shared), CX w [] H s (fun _ _ _ => False) e s' → False) :
    PySem.W.WalkO q loose XP YP l.row.toRowW d [] (fun f vs => PySem.call f vs) := by
  refine Att.attach_call hn hdf fun w s₀ s₁ mg mb fa o pm cd doc a vs ns G Y ho hd hcd hmg hobj hints hlen hg => ?_
  have KX := hY w _ Y
  obtain ⟨fd, hb, hF⟩ := F w mg fa _ KX G.T.g hmg
  exact law_call KX G.T.g G.T.b G.T.builtins G.T.nolimit hg hobj hints (Nat.le_trans hlen hn2) hr hF hb (fun H hO hS => hsp w H a ns hlen hO hS) fun H e s' => hCX w H s₁ e s'
/-- the same where the promise hangs on the written part alone: (sp := My.sp_law), no hole under a binder -/
theorem walk_ofK {l : PySem.W.OpenLaw} {n k : Nat} {q : Program} {loose : List Str} {XP : (Str → Option Value) → Heap → Prop} {YP : World → Heap → Prop} {d : DefRec} {K : Params → PySem.W.Frag} {CX : CXT} {sp : PySem.W.Frag → Sp} {x : Str}
    (hn : l.most = some n) (hn2 : n ≤ sizeLine) (hdf : d.params.defaults = []) (hr : Room k callerA)
    (hY : ∀ (w : World) (h : Heap), YP w h → (K w.params).In h)
    (F : ∀ (w : World) (mg : Str → Option Value) (fa : Addr) (h : Heap), (K w.params).In h → h.Ns mainGlobals mg → mg d.name = some (.ref fa) →
      ∃ fd : FuncData, (∀ (s : Shared) (u : Value), BindsTo s fd ⟨[u], []⟩ [(x, u)]) ∧
        ∀ base : Heap, (K w.params).In base → base.Ns mainGlobals mg → FnOk l.prog w (K w.params) mg base CX k fa fd [x] (sp (K w.params)))
    (hsp : ∀ (K : PySem.W.Frag) (H : Hp) (a : Addr) (ns : List Int), ns.length ≤ n → Only H → SqL K H a (ns.map V.int) → sp K [.ref a] H (fun v _ => v = .bl true) fun _ _ _ => False)
    (hCX : ∀ (H : Hp) (s : Shared) (e : Value) (s' : Shared), CX [] H s (fun _ _ _ => False) e s' → False) :
    PySem.W.WalkO q loose XP YP l.row.toRowW d [] (fun f vs => PySem.call f vs) :=
  walk_of (K := K) (CX := fun _ => CX) (sp := fun w => sp (K w.params)) hn hn2 hdf hr hY F (fun w H a ns h1 h2 h3 => hsp (K w.params) H a ns h1 h2 h3) fun _ H s e s' => hCX H s e s'
end L2

/- THE LAST THEOREM (shape; LID, My.* are yours):
   My.Adr: a structure of the addresses that your layer names (classes, functions); My.Txt K t: a structure (Prop) of the equations over K;
   My.txt_mk : {K} {implicit addresses ..} (e1 : nsIn K mainGlobals "law" = some (some (.ref f))) (e2 : K.lookup f = some ⟨oc, od, .func (fnOf "law" "law" params body scope dV kV doc pm an cdv ct), sl⟩) (e3 : codeIn K cdv "law" = true) .. : ∃ t, My.Txt K t

set_option maxRecDepth 100000 in
set_option maxHeartbeats 0 in
theorem PySem.Challenge.cw_LID_holds : PySem.Challenge.rw_LID.Holds := by
  w_on; o_law; k_head; (case hw => w_witness2)
  k_fill
  refine L2.walk_of (l := PySem.Challenge.rw_LID) (n := 63) (k := 40) (x := "script") (CX := fun w => ..) (sp := fun _ => My.sp_law) rfl (by decide) rfl ⟨rfl, by decide, by decide⟩ (fun w h Y => PySem.W.kIn_of Y) ?F ?S ?C
  case F =>
    intro w mg fa h KX G hmg
    have T : ∃ t, My.Txt (L2.KOf KX) t := by
      dsimp only [L2.KOf]                          -- K must stand as «<heap const> w.params» for k_is
      refine' My.txt_mk ?e1 ?e2 ?e3 ..
      (case e1 => PySem.W.k_is)                    -- in the order: a name -> its address -> its object -> its parts
      (case e2 => PySem.W.k_is)
      ..
    obtain ⟨t, T⟩ := T
    have e0 := hmg.symm.trans (PySem.W.mg_of KX G T.law)
    cases e0                                       -- fa is the law's own address
    exact ⟨_, fun s u => .of_eq rfl, fun base kb nb => My.law_fn T kb nb⟩     -- if «.of_eq rfl» comes too early: refine' ⟨_, ?b, fun base kb nb => My.law_fn T kb nb⟩; exact fun s u => .of_eq rfl
  case S => exact fun w H a ns hl hO hS => ..
  case C => exact ..
(the tactic k_is has no namespace: write k_is) -/

/-! SHORT WORDS over the layer: a def of the text, its body, what a loop and a test want. -/
namespace L2
open PySem PySem.Spec PyProof.Rows

/-! ### the text by places -/
/-- the j-th statement of a class's body -/
def inClass (s : Stmt) (j : Nat) : Stmt := match s with
  | .ClassDef _ _ _ body _ _ _ _ _ _ _ => body.getD j (.Pass ⟨0, 0, 0, 0⟩)
  | _ => .Pass ⟨0, 0, 0, 0⟩
def defArgs (s : Stmt) : Arguments := match s with
  | .FunctionDef _ a _ _ _ _ _ _ _ _ => a
  | _ => { posonlyargs := [], args := [], vararg := none, kwonlyargs := [], kw_defaults := [], kwarg := none, defaults := [] }
def defBody (s : Stmt) : List Stmt := match s with
  | .FunctionDef _ _ b _ _ _ _ _ _ _ => b
  | _ => []
def defScope (s : Stmt) : Scope := match s with
  | .FunctionDef _ _ _ _ _ _ sc _ _ _ => sc
  | _ => { kind := .function, names := [], isGenerator := false, isCoroutine := false }

/-! ### no exception leaves a def -/
abbrev CX0 : CXT := fun _ _ _ _ _ _ => False
abbrev E0 : XK := fun _ _ _ => False
theorem pass0 {X : Cx} : Passes CX0 X E0 := fun _ _ _ _ _ _ _ h => h.elim

/-! ### a def (or method) of the text as it stands behind the top -/
structure Fun (K : PySem.W.Frag) (x qual : Str) (st : Stmt) (f : Addr) (fd : FuncData) : Prop where
  ex : ∃ (oc : Value) (od : Option Addr) (kV doc pm : Value) (an : Option Addr) (cdv ct : Value) (osl : Array (Option Value)),
    fd = PySem.W.fnOf x qual (defArgs st) (defBody st) (defScope st) .none kV doc pm an cdv ct ∧ K.lookup f = some ⟨oc, od, .func fd, osl⟩ ∧ PySem.W.codeIn K cdv qual = true
  kp : PySem.W.keepIn K (.ref f) = true
section
variable {P : Program} {w : World} {K : PySem.W.Frag} {mg : Str → Option Value} {base : Heap}
/-- THE RULE for a def: its body as a term of rules, and the reading of that term -/
theorem Fun.ok {x qual : Str} {st : Stmt} {f : Addr} {fd : FuncData} {N ps : List Str} {k : Nat} {sp : Sp} (F : Fun K x qual st f fd) (S : FnScope N ps (defScope st)) (len : ∀ vs H Q E, sp vs H Q E → vs.length = ps.length)
    (hbody : ∀ (cdv : Value) (A : Around) (outer : List Env) (s : Shared) (H : Hp) (vs : List V) (Q : VK) (E : XK), Room k (A.deeper (envOfC qual (defScope st) s.heap.objs.size f cdv)) → sp vs H Q E →
      ∃ t, PSs (cxOf CX0 P w K mg base N qual (defScope st) f cdv A outer s H E).nox (defBody st) t ∧ t { nx := fun _ H' => Q .non H', rt := Q } (start N vs) H) : FnOk P w K mg base CX0 (k + 1) f fd ps sp := by
  obtain ⟨oc, od, kV, doc, pm, an, cdv, ct, osl, rfl, lk, hcd⟩ := F.ex
  refine fn_of lk hcd S len fun A outer s H vs Q E hr hsp => ?_
  obtain ⟨t, h, q⟩ := hbody cdv A outer s H vs Q E hr hsp
  exact ⟨t, h.nox, q⟩
/-- how its arguments bind (no defaults): h is «fun _ _ _ _ _ _ us hl => match us, hl with | [_, _], _ => rfl», one _ a parameter -/
theorem Fun.binds {x qual : Str} {st : Stmt} {f : Addr} {fd : FuncData} {ps : List Str} (F : Fun K x qual st f fd)
    (h : ∀ (kV doc pm : Value) (an : Option Addr) (cdv ct : Value) (us : List Value), us.length = ps.length → bindArgs (PySem.W.fnOf x qual (defArgs st) (defBody st) (defScope st) .none kV doc pm an cdv ct) ⟨us, []⟩ = pure (ps.zip us)) : Binds K fd ps [] := by
  obtain ⟨oc, od, kV, doc, pm, an, cdv, ct, osl, rfl, lk, hcd⟩ := F.ex
  exact .all (h kV doc pm an cdv ct)
theorem fun_mk {x qual : Str} {st : Stmt} {f : Addr} {oc : Value} {od an : Option Addr} {osl : Array (Option Value)} {kV doc pm cdv ct : Value} (l : K.lookup f = some ⟨oc, od, .func (PySem.W.fnOf x qual (defArgs st) (defBody st) (defScope st) .none kV doc pm an cdv ct), osl⟩)
    (c : PySem.W.codeIn K cdv qual = true) (k : PySem.W.keepIn K (.ref f) = true) : Fun K x qual st f (PySem.W.fnOf x qual (defArgs st) (defBody st) (defScope st) .none kV doc pm an cdv ct) := ⟨⟨oc, od, kV, doc, pm, an, cdv, ct, osl, rfl, l, c⟩, k⟩
end
theorem hu_of {A : Around} {k : Nat} (hr : Room k A) : A.units + 1 < cLine := Nat.lt_of_le_of_lt (Nat.add_le_add_left (by decide : 1 ≤ 64) _) hr.units
theorem small1000 {n : Nat} (h : n ≤ 1000) : n < sizeLine := Nat.lt_of_le_of_lt h (by decide)

/-! ### expressions in short: the name that stands in the i-th slot -/
section
variable {X : Cx}
theorem pv (i : Nat) {x : Str} {pos : Pos} (hN : X.N[i]? = some x := by rfl) (hv : Vis X.env.scope x := by first | exact Or.inl rfl | exact Or.inr (Or.inl rfl) | exact Or.inr (Or.inr rfl)) (hd : (x == ("__debug__" : Str)) = false := by decide)
    (hcd : (x == ("__classdict__" : Str)) = false := by decide) : PE X (.Name x pos) (tVar i) := pe_var hN hv hd hcd
/-- len of a dict -/
theorem call_lenD : CallR X (.builtin "len") (fun xs H Q => ∃ a kvs, xs = [V.ref a] ∧ H a = some (.dK kvs) ∧ Q (.int kvs.length) H) := by
  intro pins s σ H xs us Q I r h
  obtain ⟨a, kvs, rfl, ha, q⟩ := h
  obtain ⟨u, rfl, ru⟩ := vals1 r
  cases ru
  exact d_len I (.inl ha) fun t s' I' => ⟨.int kvs.length, H, I', ⟨t, rfl⟩, q⟩
end

/-! ### tests -/
theorem iteF {A B : Prop} (h : B) : if false = true then A else B := by
  rw [if_neg Bool.false_ne_true]
  exact h
theorem iteT {A B : Prop} (h : A) : if true = true then A else B := by
  rw [if_pos rfl]
  exact h
theorem ite2 {c A B : Prop} [Decidable c] (h1 : c → A) (h2 : ¬ c → B) : if c then A else B := by
  by_cases h : c
  · rw [if_pos h]
    exact h1 h
  · rw [if_neg h]
    exact h2 h
theorem iteNS {c A B : Prop} [Decidable c] (hc : c) (h : B) : if (!decide c) = true then A else B := by
  rw [decide_eq_true hc]
  exact iteF h

/-! ### heaps -/
/-- all that was tracked is as it was -/
def Same (H H' : Hp) : Prop := ∀ b o, H b = some o → H' b = some o
theorem Same.refl (H : Hp) : Same H H := fun _ _ h => h
theorem Same.trans {H H1 H2 : Hp} (a : Same H H1) (b : Same H1 H2) : Same H H2 := fun c o h => b c o (a c o h)
theorem Same.free {H H' : Hp} (e : Same H H') {l : Addr} (h : H' l = Option.none) : H l = Option.none := by
  cases q : H l with
  | none => rfl
  | some o =>
    rw [e l o q] at h
    cases h
theorem Same.seq {K : PySem.W.Frag} {H H' : Hp} {a : Addr} {xs : List V} (e : Same H H') (h : SqL K H a xs) : SqL K H' a xs := by
  rcases h with (h | ⟨o, h⟩) | h
  · exact .inl (.inl (e _ _ h))
  · exact .inl (.inr ⟨o, e _ _ h⟩)
  · exact .inr h

/-! ### a dict's pairs: keys that differ -/
section
variable {κ : Type} [DecidableEq κ]
theorem valV_not {kvs : List (κ × V)} {k : κ} (h : valV kvs k = none) : ¬ k ∈ kvs.map (·.1) := by
  intro m
  obtain ⟨p, hp, e⟩ := List.mem_map.mp m
  have q : (kvs.any fun kv => decide (kv.1 = k)) = true := List.any_eq_true.mpr ⟨p, hp, decide_eq_true e⟩
  rw [valV_any, h] at q
  exact absurd q (by simp)
theorem valV_in {kvs : List (κ × V)} {k : κ} {v : V} (h : valV kvs k = some v) : k ∈ kvs.map (·.1) := by
  have q : (kvs.any fun kv => decide (kv.1 = k)) = true := by
    rw [valV_any, h]
    all_goals rfl
  obtain ⟨p, hp, e⟩ := List.any_eq_true.mp q
  exact List.mem_map.mpr ⟨p, hp, of_decide_eq_true e⟩
theorem nd_snoc : ∀ {l : List κ} {k : κ}, l.Nodup → ¬ k ∈ l → (l ++ [k]).Nodup
  | [], k, _, _ => by simp
  | a :: r, k, h, hk => by
    obtain ⟨h1, h2⟩ := List.nodup_cons.mp h
    show (a :: (r ++ [k])).Nodup
    refine List.nodup_cons.mpr ⟨fun m => ?_, nd_snoc h2 fun m => hk (List.mem_cons.mpr (Or.inr m))⟩
    rcases List.mem_append.mp m with q | q
    · exact h1 q
    · exact hk (List.mem_cons.mpr (Or.inl (List.mem_singleton.mp q).symm))
theorem nd_putK {kvs : List (κ × V)} {k : κ} (v : V) (hn : (kvs.map (·.1)).Nodup) (h : valV kvs k = none) : ((putK kvs k v).map (·.1)).Nodup := by
  rw [putK_new v h, List.map_append]
  exact nd_snoc hn (valV_not h)
theorem dropK_pos {p : κ × V} {r : List (κ × V)} {k : κ} (e : p.1 = k) : dropK (p :: r) k = dropK r k := by
  unfold dropK
  rw [List.filter_cons, if_neg (by simp [e])]
theorem dropK_neg {p : κ × V} {r : List (κ × V)} {k : κ} (e : ¬ p.1 = k) : dropK (p :: r) k = p :: dropK r k := by
  unfold dropK
  rw [List.filter_cons, if_pos (by simp [e])]
theorem dropK_no : ∀ {kvs : List (κ × V)} {k : κ}, ¬ k ∈ kvs.map (·.1) → dropK kvs k = kvs
  | [], _, _ => rfl
  | p :: r, k, h => by
    have h' : ¬ k ∈ r.map (·.1) := fun m => by
      obtain ⟨q, hq, e⟩ := List.mem_map.mp m
      exact h (List.mem_map.mpr ⟨q, List.mem_cons.mpr (Or.inr hq), e⟩)
    rw [dropK_neg fun e => h (List.mem_map.mpr ⟨p, List.mem_cons.mpr (Or.inl rfl), e⟩), dropK_no h']
theorem dropK_mem {kvs : List (κ × V)} {k : κ} {p : κ × V} (h : p ∈ dropK kvs k) : p ∈ kvs := (List.mem_filter.mp h).1
theorem nd_dropK : ∀ {kvs : List (κ × V)} {k : κ}, (kvs.map (·.1)).Nodup → ((dropK kvs k).map (·.1)).Nodup
  | [], _, _ => List.nodup_nil
  | p :: r, k, h => by
    have h : (p.1 :: r.map (·.1)).Nodup := h
    obtain ⟨h1, h2⟩ := List.nodup_cons.mp h
    by_cases e : p.1 = k
    · rw [dropK_pos e]
      exact nd_dropK h2
    · rw [dropK_neg e]
      show (p.1 :: (dropK r k).map (·.1)).Nodup
      refine List.nodup_cons.mpr ⟨fun m => h1 ?_, nd_dropK h2⟩
      obtain ⟨q, hq, eq⟩ := List.mem_map.mp m
      exact List.mem_map.mpr ⟨q, dropK_mem hq, eq⟩
theorem dropK_len : ∀ {kvs : List (κ × V)} {k : κ}, (kvs.map (·.1)).Nodup → k ∈ kvs.map (·.1) → (dropK kvs k).length + 1 = kvs.length
  | [], _, _, m => by simp at m
  | p :: r, k, h, m => by
    have h : (p.1 :: r.map (·.1)).Nodup := h
    have m : k = p.1 ∨ k ∈ r.map (·.1) := List.mem_cons.mp m
    obtain ⟨h1, h2⟩ := List.nodup_cons.mp h
    by_cases e : p.1 = k
    · subst e
      rw [dropK_pos rfl, dropK_no h1]
      all_goals rfl
    · have m' : k ∈ r.map (·.1) := m.resolve_left fun z => e z.symm
      have q := dropK_len h2 m'
      rw [dropK_neg e, List.length_cons, List.length_cons]
      omega
end
/-! ### lists -/
theorem at_of {xs : List V} {z : Int} {j : Nat} {v : V} (e : z = (j : Int)) (h : xs[j]? = some v) : atI xs z = some v := by
  rw [e]
  exact atI_nat h
theorem nd_ix {α : Type} {l : List α} (hN : l.Nodup) {i j : Nat} {x : α} (a : l[i]? = some x) (b : l[j]? = some x) : i = j := by
  obtain ⟨h1, e1⟩ := List.getElem?_eq_some_iff.mp a
  obtain ⟨h2, e2⟩ := List.getElem?_eq_some_iff.mp b
  exact (List.getElem_inj hN).mp (e1.trans e2.symm)
theorem sum_set : ∀ {l : List Int} {j : Nat} {z y : Int}, l[j]? = some z → (l.set j y).sum = l.sum - z + y
  | [], j, z, y, h => by simp at h
  | a :: r, 0, z, y, h => by
    have e : a = z := Option.some.inj h
    subst e
    show (y :: r).sum = (a :: r).sum - a + y
    rw [List.sum_cons, List.sum_cons]
    omega
  | a :: r, j + 1, z, y, h => by
    have ih := sum_set (l := r) (j := j) (z := z) (y := y) h
    show (a :: r.set j y).sum = (a :: r).sum - z + y
    rw [List.sum_cons, List.sum_cons, ih]
    omega
theorem sum_take : ∀ {l : List Int} {i : Nat} {z : Int}, l[i]? = some z → (l.take (i + 1)).sum = (l.take i).sum + z
  | [], i, z, h => by simp at h
  | a :: r, 0, z, h => by
    have e : a = z := Option.some.inj h
    subst e
    show ([a] : List Int).sum = ([] : List Int).sum + a
    rw [List.sum_cons]
    exact Int.add_comm _ _
  | a :: r, i + 1, z, h => by
    have ih := sum_take (l := r) (i := i) (z := z) h
    show (a :: r.take (i + 1)).sum = (a :: r.take i).sum + z
    rw [List.sum_cons, List.sum_cons, ih]
    omega
/-- a new instance and its __init__ leave all that was tracked as it was -/
theorem Same.made {H H1 : Hp} {x dx C : Addr} (nx : H x = Option.none) (nd : H dx = Option.none) (k : ∀ b o, (upd (upd H dx (.own x)) x (.ins C dx [])) b = some o → b ≠ x → H1 b = some o) : Same H H1 := fun b o e =>
  k b o (by rw [upd_ne (ne_of_none e nx), upd_ne (ne_of_none e nd)]; exact e) (ne_of_none e nx)
end L2

set_option maxHeartbeats 4000000
namespace Bd
open PySem PySem.Spec

/-! ### a set's table: the places rise -/
def Up (xs : Array Nat) : Prop := ∀ (i k a b : Nat), i < k → xs[i]? = some a → xs[k]? = some b → a < b
theorem below_go (xs : Array Nat) (j : Nat) (hu : Up xs) : ∀ (fuel lo hi : Nat), lo ≤ hi → hi ≤ xs.size → hi - lo ≤ fuel → (∀ m a, m < lo → xs[m]? = some a → a < j) → (∀ m a, hi ≤ m → xs[m]? = some a → j ≤ a) →
    let r := SetTable.below.go xs j fuel lo hi
    r ≤ xs.size ∧ (∀ m a, m < r → xs[m]? = some a → a < j) ∧ (∀ m a, r ≤ m → xs[m]? = some a → j ≤ a)
  | 0, lo, hi, h1, h2, h3, h4, h5 => by
    have e : lo = hi := by omega
    subst e
    exact ⟨h2, h4, h5⟩
  | fuel + 1, lo, hi, h1, h2, h3, h4, h5 => by
    unfold SetTable.below.go
    by_cases hl : lo < hi
    · rw [if_pos hl]
      have hm : (lo + hi) / 2 < xs.size := by omega
      have hg : xs.getD ((lo + hi) / 2) j = xs[(lo + hi) / 2] := by simp [Array.getD, hm]
      dsimp only
      rw [hg]
      have he : xs[(lo + hi) / 2]? = some xs[(lo + hi) / 2] := by simp [hm]
      split
      · next hc =>
        refine below_go xs j hu fuel _ hi (by omega) h2 (by omega) (fun m a hm' ha => ?_) h5
        rcases Nat.lt_or_ge m ((lo + hi) / 2) with q | q
        · exact Nat.lt_trans (hu _ _ _ _ q ha he) hc
        · have : m = (lo + hi) / 2 := by omega
          subst this
          rw [he] at ha; cases ha; exact hc
      · next hc =>
        refine below_go xs j hu fuel lo _ (by omega) (by omega) (by omega) h4 (fun m a hm' ha => ?_)
        rcases Nat.lt_or_ge ((lo + hi) / 2) m with q | q
        · have := hu _ _ _ _ q he ha; omega
        · have : m = (lo + hi) / 2 := by omega
          subst this
          rw [he] at ha; cases ha; omega
    · rw [if_neg hl]
      have e : lo = hi := by omega
      subst e
      exact ⟨h2, h4, h5⟩
theorem below_spec (xs : Array Nat) (j : Nat) (hu : Up xs) : SetTable.below xs j ≤ xs.size ∧ (∀ m a, m < SetTable.below xs j → xs[m]? = some a → a < j) ∧ (∀ m a, SetTable.below xs j ≤ m → xs[m]? = some a → j ≤ a) := by
  unfold SetTable.below
  exact below_go xs j hu xs.size 0 xs.size (Nat.zero_le _) (Nat.le_refl _) (by omega) (fun m a h => absurd h (Nat.not_lt_zero _)) (fun m a h ha => by
    have : m < xs.size := by
      rcases Nat.lt_or_ge m xs.size with q | q
      · exact q
      · rw [Array.getElem?_eq_none q] at ha; cases ha
    omega)
theorem insertAt_get {α : Type} (xs : Array α) (p : Nat) (x : α) (hp : p ≤ xs.size) (m : Nat) : (SetTable.insertAt xs p x)[m]? = if m < p then xs[m]? else if m = p then some x else xs[m - 1]? := by
  rw [← Array.getElem?_toList, SetTable.toList_insertAt]
  have hl : (xs.toList.take p).length = p := by rw [List.length_take, Array.length_toList]; omega
  split
  · next h => rw [List.getElem?_append_left (by omega), List.getElem?_take_of_lt h, Array.getElem?_toList]
  · next h =>
    rw [List.getElem?_append_right (by omega), hl]
    split
    · next e => subst e; simp
    · next e =>
      obtain ⟨q, hq⟩ : ∃ q, m - p = q + 1 := ⟨m - p - 1, by omega⟩
      rw [hq, List.getElem?_cons_succ, List.getElem?_drop, Array.getElem?_toList]
      congr 1; omega
theorem up_insert {xs : Array Nat} {j : Nat} (hu : Up xs) (hn : ∀ m : Nat, xs[m]? ≠ some j) : Up (SetTable.insertAt xs (SetTable.below xs j) j) := by
  obtain ⟨h1, h2, h3⟩ := below_spec xs j hu
  intro i k a b hik ha hb
  rw [insertAt_get _ _ _ h1] at ha hb
  split at ha
  · next q1 =>
    split at hb
    · exact hu _ _ _ _ hik ha hb
    · split at hb
      · cases hb; exact h2 _ _ q1 ha
      · have q2 := h2 _ _ q1 ha
        have q3 := h3 (k - 1) b (by omega) hb
        omega
  · next q1 =>
    split at ha
    · cases ha
      rw [if_neg (by omega), if_neg (by omega)] at hb
      have q3 := h3 (k - 1) b (by omega) hb
      rcases Nat.lt_or_ge j b with q | q
      · exact q
      · have : b = j := by omega
        rw [this] at hb; exact absurd hb (hn _)
    · rw [if_neg (by omega), if_neg (by omega)] at hb
      exact hu (i - 1) (k - 1) a b (by omega) ha hb
theorem up_range (n : Nat) : Up (Array.range n) := by
  intro i k a b hik ha hb
  rw [Array.getElem?_range] at ha hb
  split at ha
  · split at hb
    · cases ha; cases hb; exact hik
    · cases hb
  · cases ha
theorem up_nil : Up #[] := by intro i k a b _ ha; simp at ha
theorem slot_empty {t : SetTable} {j : Nat} (hu : Up t.place) (h : t.slot j = .empty) : ∀ m : Nat, t.place[m]? ≠ some j := by
  intro m hm
  obtain ⟨h1, h2, h3⟩ := below_spec t.place j hu
  unfold SetTable.slot at h
  dsimp only at h
  have e : SetTable.below t.place j = m := by
    rcases Nat.lt_trichotomy m (SetTable.below t.place j) with q | q | q
    · exact absurd (h2 _ _ q hm) (Nat.lt_irrefl _)
    · exact q.symm
    · have hlt : SetTable.below t.place j < t.place.size := by
        have : m < t.place.size := by
          rcases Nat.lt_or_ge m t.place.size with r | r
          · exact r
          · rw [Array.getElem?_eq_none r] at hm; cases hm
        omega
      have he : t.place[SetTable.below t.place j]? = some t.place[SetTable.below t.place j] := by simp [hlt]
      have r1 := hu _ _ _ _ q he hm
      have r2 := h3 _ _ (Nat.le_refl _) he
      omega
  rw [e, hm] at h
  simp at h
theorem probe_go {t : SetTable} {f : Nat → Int} {h : Int} (hd : t.dummies = #[]) : ∀ (fuel : Nat) (p : SetTable.Probe) (j : Nat) (d : Option Nat), p.dummy = none → SetTable.probe.go t f h fuel p = some (.empty j d) → d = none ∧ t.slot j = .empty
  | 0, p, j, d, _, e => by cases e
  | fuel + 1, p, j, d, hp, e => by
    unfold SetTable.probe.go at e
    have adv : ∀ q : SetTable.Probe, q.dummy = none → (t.advance q).dummy = none := fun q hq => by
      unfold SetTable.advance
      split
      · exact hq
      · exact hq
    split at e
    · next q => cases e; exact ⟨hp, q⟩
    · next q =>
      exfalso
      unfold SetTable.slot at q
      dsimp only at q
      split at q
      · cases q
      · have : SetTable.has t.dummies p.j = false := by
          unfold SetTable.has
          rw [hd]; simp
        rw [this] at q; simp at q
    · split at e
      · cases e
      · exact probe_go hd fuel _ j d (adv p hp) e
theorem free_slot {t : SetTable} {h : Int} {j : Nat} {b : Bool} (hd : t.dummies = #[]) (hu : Up t.place) (e : t.freeSlot h = some (j, b)) : ∀ m : Nat, t.place[m]? ≠ some j := by
  unfold SetTable.freeSlot at e
  split at e
  · next j' d q =>
    unfold SetTable.probe at q
    obtain ⟨rfl, q2⟩ := probe_go hd _ _ _ _ rfl q
    simp at e
    rw [← e.1]
    exact slot_empty hu q2
  · cases e
/-- what is kept of a table -/
structure Tab (b : Bool) (t : SetTable) : Prop where
  led : t.led = b
  dum : t.dummies = #[]
  up : Up t.place
theorem Tab.standIn {b : Bool} {t : SetTable} (h : Tab b t) (n : Nat) : Tab b (t.standIn n) := ⟨h.led, rfl, up_range n⟩
theorem Tab.orStandIn {b : Bool} {t : SetTable} (h : Tab b t) (n : Nat) : Tab b (t.orStandIn n) := by
  unfold SetTable.orStandIn
  split
  · exact h
  · exact h.standIn n
theorem Tab.plainOff {b : Bool} {t : SetTable} (h : Tab b t) : Tab b { t with plain := false } := ⟨h.led, h.dum, h.up⟩
theorem Tab.layNew {b : Bool} {t : SetTable} (h : Tab b t) (es : Array (Int × Value)) (k : Int) (x : Value) : Tab b (PySem.layNew t es k x).2.1 := by
  unfold PySem.layNew
  split
  · next slot wd e =>
    dsimp only
    refine Tab.orStandIn (t := (t.put slot).1) ⟨h.led, ?_, up_insert h.up (free_slot h.dum h.up e)⟩ _
    show (if SetTable.has t.dummies slot = true then _ else t.dummies) = #[]
    have : SetTable.has t.dummies slot = false := by
      unfold SetTable.has; rw [h.dum]; simp
    rw [this]; exact h.dum
  · exact h.standIn _
theorem up_filterMap (g : Nat → Option Nat) : ∀ (n : Nat), ((List.range n).filterMap fun j => (g j).map fun o => (j, o)).Pairwise (fun p q => p.1 < q.1) := by
  intro n
  rw [List.pairwise_filterMap]
  refine List.Pairwise.imp ?_ List.pairwise_lt_range
  intro a b hab p hp q hq
  cases e1 : g a with
  | none => rw [e1] at hp; cases hp
  | some o1 =>
    cases e2 : g b with
    | none => rw [e2] at hq; cases hq
    | some o2 =>
      rw [e1] at hp; rw [e2] at hq
      cases hp; cases hq
      exact hab
theorem up_of_pairwise {l : List Nat} (h : l.Pairwise (· < ·)) : Up l.toArray := by
  intro i k a b hik ha hb
  rw [List.getElem?_toArray] at ha hb
  obtain ⟨h1, e1⟩ := List.getElem?_eq_some_iff.mp ha
  obtain ⟨h2, e2⟩ := List.getElem?_eq_some_iff.mp hb
  rw [← e1, ← e2]
  exact List.pairwise_iff_getElem.mp h i k h1 h2 hik
theorem Tab.relayAll {b : Bool} {t : SetTable} (h : Tab b t) (es : Array (Int × Value)) (n : Nat) : Tab b (PySem.relayAll t es n).2.1 := by
  unfold PySem.relayAll
  split
  · next t' order e =>
    dsimp only
    split
    · unfold SetTable.relaid SetTable.laid at e
      cases q : SetTable.layClean (SetTable.sizeAbove n - 1) (es.map (·.1)) with
      | none => rw [q] at e; cases e
      | some owner =>
        rw [q] at e
        have e' := congrArg (Option.map Prod.fst) e
        simp at e'
        rw [← e']
        refine ⟨h.led, rfl, ?_⟩
        have z := up_of_pairwise (List.pairwise_map.mpr (up_filterMap (fun j => owner.getD j none) (SetTable.sizeAbove n - 1 + 1)))
        first | exact z | simpa using z
    · exact h.standIn _
  · exact h.standIn _
end Bd

namespace Bd
open PySem PySem.Spec

def kOf : Value → Int
  | .int i _ => i
  | _ => 0
/-- the elements are ints, with their hashes -/
def IntEs (es : List (Int × Value)) : Prop := ∀ e ∈ es, ∃ (k : Int) (tk : Tok), e.2 = Value.int k tk ∧ e.1 = hashInt k
/-- at a stands a set of just the ints ks -/
def SetP (b : Bool) (h : Heap) (a : Addr) (ks : List Int) : Prop :=
  ∃ o es ep t, h.get? a = some o ∧ o.ExactSet ∧ o.data = Data.set es ep t ∧ IntEs es.toList ∧ (es.toList.map fun e => kOf e.2).Perm ks ∧ es.size < scanBound ∧ t.fits es.size = true ∧ Tab b t
section
variable {prog : Program} {w : World} {A : Around} {E : Value → Shared → Prop} {s : Shared} {b : Bool} {a : Addr} {ks : List Int}
theorem IntEs.elems {es : List (Int × Value)} (h : IntEs es) : ElemsOf (intKind prog w) es := fun e he => by
  obtain ⟨k, tk, e1, e2⟩ := h e he
  exact ⟨⟨k, by rw [e1]; exact intKind_is prog w k tk, e2⟩, by rw [e1]; rfl⟩
theorem is_kOf {v : Value} {k i : Int} {tk : Tok} (e : v = .int i tk) : (intKind prog w).is k v = decide (i = k) := by
  subst e
  show Value.isInt k (.int i tk) = decide (i = k)
  simp only [Value.isInt]
  rcases Decidable.em (i = k) with q | q
  · subst q; simp
  · simp [q]
theorem IntEs.mem_iff {es : List (Int × Value)} (h : IntEs es) (k : Int) : k ∈ (es.map fun e => kOf e.2) ↔ ∃ e ∈ es, (intKind prog w).is k e.2 = true := by
  rw [List.mem_map]
  constructor
  · rintro ⟨e, he, q⟩
    obtain ⟨i, tk, e1, _⟩ := h e he
    refine ⟨e, he, ?_⟩
    rw [is_kOf e1, decide_eq_true_eq]
    rw [e1] at q; exact q
  · rintro ⟨e, he, q⟩
    obtain ⟨i, tk, e1, _⟩ := h e he
    rw [is_kOf e1, decide_eq_true_eq] at q
    exact ⟨e, he, by rw [e1]; exact q⟩
theorem SetP.setOf {h : Heap} (x : SetP b h a ks) : h.SetOf (intKind prog w) a (fun k => decide (k ∈ ks)) ks.length := by
  obtain ⟨o, es, ep, t, h1, h2, h3, h4, h5, h6, h7, _⟩ := x
  refine ⟨o, es, ep, t, h1, h2, h3, h4.elems, fun k => ?_, h6, h7, ?_⟩
  · rw [decide_eq_true_eq, ← h5.mem_iff]; exact h4.mem_iff k
  · rw [← h5.length_eq, List.length_map, Array.length_toList]
theorem SetP.keep {h h' : Heap} (x : SetP b h a ks) (k : ∀ o, h.get? a = some o → h'.get? a = some o) : SetP b h' a ks := by
  obtain ⟨o, es, ep, t, h1, r⟩ := x
  exact ⟨o, es, ep, t, k o h1, r⟩
theorem SetP.perm {h : Heap} {ks' : List Int} (x : SetP b h a ks) (p : ks.Perm ks') : SetP b h a ks' := by
  obtain ⟨o, es, ep, t, h1, h2, h3, h4, h5, r⟩ := x
  exact ⟨o, es, ep, t, h1, h2, h3, h4, h5.trans p, r⟩
theorem SetP.lt {h : Heap} (x : SetP b h a ks) : a < h.objs.size := by
  obtain ⟨o, es, ep, t, h1, _⟩ := x; exact Heap.lt_size h1
theorem SetP.typeIs (x : SetP b s.heap a ks) : s.TypeIs (.ref a) "set" := by
  obtain ⟨o, es, ep, t, h1, h2, _⟩ := x
  exact ⟨o, h1, h2.1⟩
theorem gave_ok (c : Bool) {s₁ : Shared} {Q' : Unit → Shared → Prop} (hq : Q' () s₁) : wpAny (model prog w) A (match c with | true => rule "set.scan.the-table-gave-way" | false => pure ()) Q' E s₁ := by
  cases c
  · exact wpAny_pure hq
  · exact wpAny_rule hq
theorem store_get {o : Obj} {es es' : Array (Int × Value)} {ep : Nat} {t t' : SetTable} {h : Heap} (ho : h.get? a = some o) (hd : o.data = .set es ep t) :
    (h.update a (Obj.putSet es' t')).get? a = some { o with data := .set es' (ep + 1) t' } := by
  have q := Heap.get?_update_self (Obj.putSet es' t') ho (by rw [putSet_of es' t' hd]; rfl)
  rwa [putSet_of es' t' hd] at q
/-- the new element is laid and, if need be, all are laid anew -/
theorem add_tail {o : Obj} {es : Array (Int × Value)} {ep : Nat} {t : SetTable} (ho : s.heap.get? a = some o) (hx : o.ExactSet) (hd : o.data = .set es ep t) {es1 : Array (Int × Value)} {t2 : SetTable} (h4 : IntEs es1.toList)
    (h5 : (es1.toList.map fun e => kOf e.2).Perm ks) (h6 : es1.size < scanBound) (h7 : t2.fits es1.size = true) (h8 : Tab b t2) {wd : Bool} {R : Option Bool → Shared → Prop}
    (h : ∀ h', Heap.SameBut a s.heap h' → SetP b h' a ks → R (some true) { s with heap := h' }) {g : Bool → Sem Unit} (hg : ∀ (c : Bool) (s₁ : Shared) (Q' : Unit → Shared → Prop), Q' () s₁ → wpAny (model prog w) A (g c) Q' E s₁) :
    wpAny (model prog w) A (do
        storeSet a es1 t2
        if (!wd && t2.tooFull) = true then do
            g (relayAll t2 es1 (SetTable.grown es1.size)).2.2
            storeSet a (relayAll t2 es1 (SetTable.grown es1.size)).1 (relayAll t2 es1 (SetTable.grown es1.size)).2.1
            pure (some true)
          else pure (some true)) R E s := by
  have sb := Heap.SameBut.update s.heap a (Obj.putSet es1 t2)
  have g1 := store_get (es' := es1) (t' := t2) ho hd
  refine wpAny_bind (wpAny_storeSet_of (hz := fits_of_scanBound h6) ho hd ?_)
  split
  · have hp := relayAll_perm t2 es1 (SetTable.grown es1.size)
    have hf := relayAll_fits t2 es1 (SetTable.grown es1.size)
    have ht := h8.relayAll es1 (SetTable.grown es1.size)
    generalize relayAll t2 es1 (SetTable.grown es1.size) = Z at hp hf ht ⊢
    obtain ⟨es2, t3, c2⟩ := Z
    dsimp only at hp hf ht ⊢
    have hz : es2.size = es1.size := by rw [← Array.length_toList, hp.length_eq, Array.length_toList]
    have h6' : es2.size < scanBound := hz ▸ h6
    refine wpAny_bind (hg c2 _ _ (wpAny_bind (wpAny_storeSet_of (hz := fits_of_scanBound h6') g1 rfl ?_)))
    refine wpAny_pure (h _ (sb.trans (Heap.SameBut.update _ a _)) ⟨_, es2, _, t3, store_get g1 rfl, hx, rfl, fun e he => h4 e (hp.mem_iff.mp he), (hp.map _).trans h5, h6', hf, ht⟩)
  · exact wpAny_pure (h _ sb ⟨_, es1, _, t2, g1, hx, rfl, h4, h5, h6, h7, h8⟩)
theorem add_int {k : Int} {tk : Tok} {Q : Bool → Shared → Prop} (x : SetP b s.heap a ks) (hr : ks.length + 1 < scanBound)
    (h : ∀ h', Heap.SameBut a s.heap h' → SetP b h' a (if k ∈ ks then ks else ks ++ [k]) → Q (!decide (k ∈ ks)) { s with heap := h' }) :
    wpAny (model prog w) A (setAddHashed a (.int k tk) (hashInt k)) Q E s := by
  obtain ⟨o, es, ep, t, h1, h2, h3, h4, h5, h6, h7, h8⟩ := id x
  have hz : es.size = ks.length := by rw [← h5.length_eq, List.length_map, Array.length_toList]
  have el : ElemsOf (intKind prog w) es.toList := h4.elems
  have hk : (intKind prog w).is k (.int k tk) = true := intKind_is prog w k tk
  unfold setAddHashed setAddHashedIn
  refine wpAny_holding (wpAny_bind (wpAny_setState_of h1 h3 h7 ?_)); dsimp only
  rw [byScan_of (knd := intKind prog w) rfl h6 el]; simp only [↓reduceIte]
  unfold setAddByScan
  refine wpAny_bind (wpAny_bind (wpAny_rule (wpAny_bind (wpAny_setScan_of (knd := intKind prog w) hk h1 h3 h7 el ?_))))
  cases hf : List.findIdx? (fun e => (intKind prog w).is k e.2) es.toList with
  | some j =>
    obtain ⟨hj, hpj, _⟩ := List.findIdx?_eq_some_iff_getElem.mp hf
    have hm : k ∈ ks := h5.mem_iff.mp ((h4.mem_iff (prog := prog) (w := w) k).mpr ⟨es.toList[j], List.getElem_mem hj, hpj⟩)
    dsimp only
    have z := h s.heap (Heap.SameBut.refl a s.heap) (by rw [if_pos hm]; exact x)
    rw [decide_eq_true hm] at z
    exact wpAny_pure (wpAny_pure z)
  | none =>
    have hm : ¬ k ∈ ks := fun q => by
      obtain ⟨e, he, hp⟩ := (h4.mem_iff (prog := prog) (w := w) k).mp (h5.mem_iff.mpr q)
      have q2 := List.findIdx?_eq_none_iff.mp hf e he
      rw [hp] at q2; cases q2
    dsimp only
    have hp := layNew_perm t es (hashInt k) (.int k tk)
    have hf2 := layNew_fits t es (hashInt k) (.int k tk)
    have ht := h8.layNew es (hashInt k) (.int k tk)
    show wpAny _ _ (match layNew t es (hashInt k) (Value.int k tk) with | (es, t, wasDummy, gave) => _) _ _ _
    generalize layNew t es (hashInt k) (.int k tk) = Z at hp hf2 ht ⊢
    obtain ⟨es1, t1, wd, c⟩ := Z
    dsimp only at hp hf2 ht ⊢
    rw [Array.toList_push] at hp
    have hz1 : es1.size = ks.length + 1 := by rw [← Array.length_toList, hp.length_eq, List.length_append, Array.length_toList, hz]; rfl
    have i1 : IntEs es1.toList := fun e he => by
      rcases List.mem_append.mp (hp.mem_iff.mp he) with q | q
      · exact h4 e q
      · rw [List.mem_singleton] at q; subst q; exact ⟨k, tk, rfl, rfl⟩
    have p1 : (es1.toList.map fun e => kOf e.2).Perm (ks ++ [k]) := by
      refine (hp.map _).trans ?_
      rw [List.map_append]
      exact h5.append_right _
    have fin : ∀ h', Heap.SameBut a s.heap h' → SetP b h' a (ks ++ [k]) → Q true { s with heap := h' } := fun h' sb y => by
      have z := h h' sb (by rw [if_neg hm]; exact y)
      rw [decide_eq_false hm] at z; exact z
    refine wpAny_bind (gave_ok c ?_)
    split
    · refine wpAny_bind ?_
      rw [hashByValue_scannable 8 (x := Value.int k tk) rfl]
      refine wpAny_pure ?_
      exact add_tail h1 h2 h3 i1 p1 (by rw [hz1]; exact hr) hf2 ht (fun h' sb y => wpAny_pure (fin h' sb y)) fun c s₁ Q' q => gave_ok c q
    · refine wpAny_bind (wpAny_pure ?_)
      simp only [↓reduceIte]
      exact add_tail h1 h2 h3 i1 p1 (by rw [hz1]; exact hr) hf2 ht (fun h' sb y => wpAny_pure (fin h' sb y)) fun c s₁ Q' q => gave_ok c q
end
end Bd

namespace Bd
open PySem PySem.Spec

def addK (ks : List Int) (k : Int) : List Int := if k ∈ ks then ks else ks ++ [k]
def uniq (ns : List Int) : List Int := ns.foldl addK []
theorem addK_len (ks : List Int) (k : Int) : (addK ks k).length ≤ ks.length + 1 := by
  unfold addK; split
  · exact Nat.le_succ _
  · rw [List.length_append]; exact Nat.le_refl _
theorem uniq_snoc (ns : List Int) (k : Int) : uniq (ns ++ [k]) = addK (uniq ns) k := by unfold uniq; rw [List.foldl_append]; rfl
theorem uniq_take (ns : List Int) (i : Nat) (h : i < ns.length) : uniq (ns.take (i + 1)) = addK (uniq (ns.take i)) (ns.getD i 0) := by
  rw [List.take_add_one, List.getElem?_eq_getElem h, ← uniq_snoc]
  simp [h]
theorem foldl_addK_len : ∀ (ns ks : List Int), (ns.foldl addK ks).length ≤ ks.length + ns.length
  | [], ks => Nat.le_refl _
  | n :: ns, ks => by
    have h1 := foldl_addK_len ns (addK ks n)
    have h2 := addK_len ks n
    rw [List.foldl_cons, List.length_cons]; omega
theorem uniq_len (ns : List Int) : (uniq ns).length ≤ ns.length := by
  have := foldl_addK_len ns []
  simpa [uniq] using this
theorem addK_nodup {ks : List Int} (h : ks.Nodup) (k : Int) : (addK ks k).Nodup := by
  unfold addK; split
  · exact h
  · next q => rw [List.nodup_append]; exact ⟨h, by simp, fun a ha b hb => by simp at hb; subst hb; intro e; subst e; exact q ha⟩
theorem foldl_addK_nodup : ∀ (ns ks : List Int), ks.Nodup → (ns.foldl addK ks).Nodup
  | [], ks, h => h
  | n :: ns, ks, h => foldl_addK_nodup ns _ (addK_nodup h n)
theorem uniq_nodup (ns : List Int) : (uniq ns).Nodup := foldl_addK_nodup ns [] List.nodup_nil
theorem mem_addK {ks : List Int} {k x : Int} : x ∈ addK ks k ↔ x ∈ ks ∨ x = k := by
  unfold addK; split
  · next q => exact ⟨.inl, fun h => h.elim id fun e => e ▸ q⟩
  · rw [List.mem_append, List.mem_singleton]
theorem mem_foldl_addK {x : Int} : ∀ (ns ks : List Int), x ∈ ns.foldl addK ks ↔ x ∈ ks ∨ x ∈ ns
  | [], ks => by simp
  | n :: ns, ks => by rw [List.foldl_cons, mem_foldl_addK ns, mem_addK, List.mem_cons, or_assoc]
theorem mem_uniq {x : Int} {ns : List Int} : x ∈ uniq ns ↔ x ∈ ns := by unfold uniq; rw [mem_foldl_addK]; simp

section
variable {prog : Program} {w : World} {A : Around} {R : Result → Shared → Prop} {I : Addr} {fp wr : List Addr} {G : Array GenState → Array GenState → Prop} {P : Nat → Value → Prop} {St : Nat → Shared → Prop} {b : Bool}
theorem fill_loop {ns : List Int} (W : WalksS prog w A.in1 I fp wr G ns.length P St) (S : Addr) (hSf : S ∉ fp) (hv : ∀ i v, P i v → ∃ t, v = .int (ns.getD i 0) t) (hb : ns.length + 1 < scanBound) :
    ∀ (k i : Nat) (s : Shared), ns.length - i = k → i ≤ ns.length → St i s → SetP b s.heap S (uniq (ns.take i)) →
      (∀ s', Moved (S :: wr) G s s' → SetP b s'.heap S (uniq ns) → R (.ok (.ret .none)) s') → codeAny (model prog w) A (.builtin "set.update.loop" ⟨[.ref S, .ref I], []⟩) R s := by
  have nSw : S ∉ wr := fun h => hSf (W.sub _ h)
  have sub : ∀ c ∈ wr, c ∈ S :: wr := fun c hc => List.mem_cons_of_mem _ hc
  intro k
  induction k with
  | zero =>
    intro i s hk hi st hS hR
    have e : i = ns.length := by omega
    subst e
    rw [List.take_length] at hS
    refine codeAny_builtin PyProof.Rows.F.entry_set_update_loop ?_
    rw [Around.under_plainId PyProof.Rows.F.plain_set_update_loop _]; show wpAny _ A.in1 (pyNext (.ref I) >>= _) _ _ s
    refine wpAny_bind (W.done s _ _ st fun s' hm => ?_); show wpAny _ A.in1 (ret Value.none) _ _ s'
    exact wpAny_pure (hR s' (hm.mono sub) (hS.keep fun o e => hm.heap S o nSw e))
  | succ k ih =>
    intro i s hk hi st hS hR
    have lt : i < ns.length := by omega
    refine codeAny_builtin PyProof.Rows.F.entry_set_update_loop ?_
    rw [Around.under_plainId PyProof.Rows.F.plain_set_update_loop _]; show wpAny _ A.in1 (pyNext (.ref I) >>= _) _ _ s
    refine wpAny_bind (W.item i s _ _ lt st fun v s' hP st' hm => ?_)
    obtain ⟨t, rfl⟩ := hv i v hP
    have hS' := hS.keep (h' := s'.heap) fun o e => hm.heap S o nSw e
    show wpAny _ A.in1 (holding [Value.int (ns.getD i 0) t] (setAdd S (.int (ns.getD i 0) t)) >>= _) _ _ s'
    unfold setAdd
    refine wpAny_bind (wpAny_holding (wpAny_holding (wpAny_bind ((intKind prog w).pyHash (k := ns.getD i 0) (intKind_is _ _ _ _) ?_))))
    have room : (uniq (ns.take i)).length + 1 < scanBound := by
      have h1 := uniq_len (ns.take i)
      rw [List.length_take] at h1; omega
    refine add_int (s := { s' with toks := s'.toks + 1 }) hS' room fun h' sb hS2 => ?_
    have hSi : SetP b h' S (uniq (ns.take (i + 1))) := by rw [uniq_take ns i lt]; exact hS2
    have other : ∀ c o, c ≠ S → s'.heap.get? c = some o → h'.get? c = some o := fun c o hc e => (sb.2 c hc).trans e
    refine wpAny_pure ⟨plainId_quiet PyProof.Rows.F.plain_set_update_loop _, ih (i + 1) _ (by omega) lt (W.frame _ s' _ _ st' (Nat.le_succ _) fun c hc o e => other c o (fun z => hSf (z ▸ hc)) e) hSi fun s'' hm'' hS'' => ?_⟩
    exact hR s'' (Moved.trans W.gtrans ((hm.mono sub).then_heap (Nat.le_succ _) fun c o hc e => other c o (fun z => hc (by rw [z]; exact List.mem_cons_self)) e) hm'') hS''
end
section
variable {prog : Program} {w : World} {A : Around} {E : Value → Shared → Prop} {s : Shared}
abbrev ledOf (w : World) : Bool := !w.params.followText "set-order"
theorem set_new (a : Value) {Q₁ : Value → Shared → Prop}
    (h : Q₁ (.ref s.heap.objs.size) { s with heap := s.heap.push { cls := .type "set", dict := none, data := .set #[] 0 (.fresh 0 0 (ledOf w)) } }) :
    codeAny (model prog w) A (.call (.builtin "set.__new__") ⟨[.type "set", a], []⟩) (wants Q₁ E) s := by
  refine codeAny_of_tree ?_
  show wpAny _ A.in1 (do checkBuiltinCall "set.__new__" ⟨[.type "set", a], []⟩; again (.builtin "set.__new__" ⟨[.type "set", a], []⟩)) _ _ s
  refine wpAny_bind (wpAny_of_eq (PySem.F.newCall_set_1 a) (wpAny_pure ⟨plainId_quiet PySem.F.plain_set_new _, codeAny_builtin PySem.F.entry_set_new ?_⟩)); rw [Around.under_plainId PySem.F.plain_set_new _]
  unfold Builtin.«set.__new__» Builtin.Frozenset.newClass
  have hsub := sub_set_self
  obtain ⟨hp, g, d, tk, os⟩ := s
  dsimp only; wp_walk
  refine wpAny_askSetting (wpAny_pure ?_)
  dsimp only; simp only [newObj]
  exact wpAny_bind (wpAny_alloc (wpAny_pure (wpAny_pure h)))
end
end Bd

namespace Bd
open PySem PySem.Spec
section
variable {prog : Program} {w : World} {A : Around} {E : Value → Shared → Prop} {s : Shared}
abbrev newSetObj (w : World) : Obj := { cls := .type "set", dict := none, data := .set #[] 0 (.fresh 0 0 (ledOf w)) }
theorem setP_new {h : Heap} {a : Addr} (e : h.get? a = some (newSetObj w)) : SetP (ledOf w) h a [] :=
  ⟨_, #[], 0, _, e, ⟨rfl, rfl, rfl⟩, rfl, fun e he => by simp at he, by simp, by decide, by rfl, ⟨rfl, rfl, up_nil⟩⟩
theorem call_set_ints {l : Addr} {items : Array Value} {ns : List Int} {Q : Value → Shared → Prop}
    (hh : A.handled = none) (hl : s.heap.IsList l items) (hi : PyProof.Rows.IntsAre items.toList ns) (hb : ns.length + 1 < scanBound)
    (h : ∀ (h' : Heap) (tk : Nat), SetP (ledOf w) h' s.heap.objs.size (uniq ns) → (∀ c o, s.heap.get? c = some o → h'.get? c = some o) → Q (.ref s.heap.objs.size) { s with heap := h', toks := tk }) :
    wpAny (model prog w) A (call (.type "set") [.ref l]) Q E s := by
  have hsz : items.size = ns.length := by rw [← Array.length_toList]; exact hi.length
  obtain ⟨c, tl, hmro⟩ := PySem.F.called_set.mro
  have hmade := PySem.F.called_set.made
  have hsub := PySem.F.called_set.sub
  refine wpAny_call (codeAny_of_tree ?_); show wpAny _ _ (callAny (.type "set") _) _ _ _
  refine wpAny_pure ⟨Code.quiet_builtin _ (by decide +kernel), codeAny_builtin PySem.F.entry_type_call ?_⟩
  rw [Around.under_plain (weight_type_call_type "set" [.ref l] []) rfl]
  have q1 := PySem.F.called_set.notType
  have q2 := PySem.F.called_set.canCreate
  have q3 := PySem.F.typeCall_set_1 (.ref l)
  repeat (any_goals (first | assumption | wp_step))
  refine codeAny_mono (set_new (.ref l) (E := E) (Q₁ := fun obj s₁ => obj = .ref s.heap.objs.size ∧ s₁ = { s with heap := s.heap.push (newSetObj w) }) ⟨rfl, rfl⟩) fun r s₁ hr => ?_
  cases r with
  | error e => exact hr
  | ok fl =>
    cases fl with
    | ret obj =>
      obtain ⟨rfl, rfl⟩ := hr
      have hS : (s.heap.push (newSetObj w)).get? s.heap.objs.size = some (newSetObj w) := Heap.get?_push_size _ rfl
      have hT : Shared.TypeIs { s with heap := s.heap.push (newSetObj w) } (.ref s.heap.objs.size) "set" := ⟨_, hS, rfl⟩
      have q4 := PySem.F.called_set.init.lookup
      have q5 := PySem.F.called_set.init.bind (.ref s.heap.objs.size)
      repeat (any_goals (first | assumption | wp_step))
      refine codeAny_mono (codeAny_call_builtin (R := wants (fun r s₂ => r = .none ∧ ∃ h' tk, s₂ = { s with heap := h', toks := tk } ∧ SetP (ledOf w) h' s.heap.objs.size (uniq ns) ∧ ∀ c o, s.heap.get? c = some o → h'.get? c = some o) E)
        PySem.F.called_set.init.plain PySem.F.entry_set_init (check_set_init_1 hT ?_)) fun r₂ s₂ hr₂ => ?_
      · obtain ⟨ol, hol, hcl, nl, hdl⟩ := hl
        obtain ⟨ocls, odict, odata, oslots⟩ := ol
        simp only at hcl hdl
        subst hcl; subst hdl
        have hol' : (s.heap.push (newSetObj w)).get? l = some { cls := .type "list", dict := odict, data := .seq items nl, slots := oslots } := Heap.get?_push_of_some _ hol
        have q6 := PySem.F.sub_list_set
        have q7 := PySem.F.sub_list_frozenset
        have q8 : (Value.type "list" == Value.type "dict") = false := by decide
        have hl1 : (s.heap.push (newSetObj w)).IsList l items := ⟨_, hol', rfl, nl, rfl⟩
        unfold Builtin.«set.__init__» noKeywords Builtin.Frozenset.updateFrom
        generalize hPI : pyIter = PI
        wp_walk
        subst hPI
        refine wpAny_pyIter_list hl1 (wpAny_bind (wpAny_runValue ?_))
        have lt : l < s.heap.objs.size := Heap.lt_size hol
        have hh3 : A.in1.in1.in1.handled = none := by simp [hh]
        have neI : l ≠ (s.heap.push (newSetObj w)).objs.size := by rw [Heap.size_push]; exact Nat.ne_of_lt (Nat.lt_succ_of_lt lt)
        have nf : s.heap.objs.size ∉ [(s.heap.push (newSetObj w)).objs.size, l] := by
          rw [Heap.size_push]
          simp only [List.mem_cons, List.not_mem_nil, or_false, not_or]
          exact ⟨Nat.ne_of_lt (Nat.lt_succ_self _), Nat.ne_of_gt lt⟩
        have W := (Walks.list (prog := prog) (w := w) hh3 (s.heap.push (newSetObj w)).objs.size l neI items).toS
        rw [hsz] at W
        refine fill_loop (b := ledOf w) W s.heap.objs.size nf (fun i v hv => PyProof.Rows.IntsAre.int_at hi i v (by rw [Array.getElem?_toList]; exact hv)) hb (ns.length - 0) 0 _ (by omega) (Nat.zero_le _)
          ⟨⟨_, Heap.get?_push_size _ rfl, rfl, rfl⟩, hl1.push _⟩ (setP_new (Heap.get?_push_of_some _ hS)) ?hR
        case hR =>
          intro s' hm hS'
          obtain ⟨h', g', d', tk', os'⟩ := s'
          obtain rfl : g' = s.gens := hm.gens
          obtain rfl : d' = s.drawn := hm.drawn
          obtain rfl : os' = s.os := hm.os
          refine wpAny_pure (wpAny_pure ⟨rfl, h', tk', rfl, hS', fun c o e => ?_⟩)
          have lc := Heap.lt_size e
          refine hm.heap c o ?_ (Heap.get?_push_of_some _ (Heap.get?_push_of_some _ e))
          rw [Heap.size_push]
          simp only [List.mem_cons, List.not_mem_nil, or_false, not_or]
          exact ⟨Nat.ne_of_lt lc, Nat.ne_of_lt (Nat.lt_succ_of_lt lc)⟩
      · cases r₂ with
        | error e => exact hr₂
        | ok fl₂ =>
          cases fl₂ with
          | ret r =>
            obtain ⟨rfl, h', tk, rfl, hS', hk'⟩ := hr₂
            repeat (any_goals (first | assumption | wp_step))
            exact h _ _ hS' hk'
          | _ => exact hr₂.elim
    | _ => exact hr.elim
end
end Bd

namespace Bd
open PySem PySem.Spec
theorem sl_set_next : Slot "set_iterator" "__next__" "set_iterator.__next__" :=
  .of (owner := "set_iterator") (n := "__next__") (by rw [typeLookup_type, builtinLookup_eq_fast]; kernel_rfl) (by decide +kernel) (by decide +kernel) (by decide +kernel)
    (by first | exact .inl (by decide +kernel) | exact .inr (by decide +kernel)) (by rw [isSubtype_type]; kernel_rfl)
theorem en_set_next : entryFor table "set_iterator.__next__" = some Builtin.«set_iterator.__next__» := entryFor_of_tree (by kernel_rfl)
theorem own_set_it : Manifest.owners.lookup (String.ofList "set_iterator".toList.reverse.reverse) = some Manifest.sig_set_iterator := by kernel_rfl
theorem ar_set_next (a : Value) : argsOk "set_iterator.__next__" ⟨[a], []⟩ := by
  unfold argsOk; rw [signature?_of (id := "set_iterator.__next__") (n := "__next__".toList.reverse) (o := "set_iterator".toList.reverse) (by kernel_rfl) own_set_it]; kernel_rfl
theorem en_set_iter : entryFor table "set.__iter__" = some Builtin.«frozenset.__iter__» :=
  entryFor_alias (id' := "frozenset.__iter__") (by kernel_rfl) rfl (by decide +kernel) (by kernel_rfl)
/-- an iterator over the set at S: at turn i -/
def ItAt (h : Heap) (I S : Addr) (f : Value) (i n ep : Nat) : Prop := ∃ o, h.get? I = some o ∧ o.cls = .type "set_iterator" ∧ o.data = .fields #[f, .int i 0, .ref S, .int n 0, .int ep 0]
theorem ItAt.typeIs {s : Shared} {I S : Addr} {f : Value} {i n ep : Nat} (x : ItAt s.heap I S f i n ep) : s.TypeIs (.ref I) "set_iterator" := let ⟨o, h, c, _⟩ := x; ⟨o, h, c⟩
/-- the set as it stands -/
structure SetAt (h : Heap) (S : Addr) (es : Array (Int × Value)) (ep : Nat) (t : SetTable) : Prop where
  ex : ∃ o, h.get? S = some o ∧ o.ExactSet ∧ o.data = .set es ep t
  fits : t.fits es.size = true
theorem SetAt.keep {h h' : Heap} {S : Addr} {es : Array (Int × Value)} {ep : Nat} {t : SetTable} (x : SetAt h S es ep t) (k : ∀ o, h.get? S = some o → h'.get? S = some o) : SetAt h' S es ep t :=
  let ⟨⟨o, h1, h2⟩, f⟩ := x; ⟨⟨o, k o h1, h2⟩, f⟩
section
variable {prog : Program} {w : World} {A : Around} {E : Value → Shared → Prop} {s : Shared} {I S : Addr} {es : Array (Int × Value)} {ep : Nat} {t : SetTable}
theorem set_hint {Q : Bool → Shared → Prop} (hT : s.TypeIs (.ref S) "set") (h : Q false s) : wpAny (model prog w) A (Builtin.List.listLengthHint (.ref S)) Q E s := by
  unfold Builtin.List.listLengthHint
  refine wpAny_bind (wpAny_specialOf hT PySem.F.slot_set_len.lookup ?_)
  generalize hid : ("set.__len__" : String) = id0
  wp_delta
  rw [show splitId id0 = some ("set", "__len__") from by subst hid; decide +kernel]; subst hid
  refine wpAny_bind (wpAny_isInstance (T := "set") (b := true) hT (by rw [isSubtype_type]; kernel_rfl) ?_)
  refine wpAny_ite_split (fun z => absurd z (by decide)) fun _ => wpAny_ite_split (fun _ => ?_) fun z => absurd (by decide +kernel) z
  exact wpAny_bind (wpAny_typeOf hT (wpAny_pure h))
theorem next_a {i sl sl' n : Nat} {v : Value} {Q : Option Value → Shared → Prop} (hit : ItAt s.heap I S (.int sl 0) i n ep) (hS : SetAt s.heap S es ep t) (hn : n = es.size)
    (hx : ∀ (A : Around) (E : Value → Shared → Prop) (Q : Option (Value × Nat) → Shared → Prop), Q (some (v, sl')) s → wpAny (model prog w) A (setNext S sl i ep) Q E s)
    (hQ : ∀ h', ItAt h' I S (.int sl' 0) (i + 1) n ep → Heap.SameBut I s.heap h' → Q (some v) { s with heap := h' }) : wpAny (model prog w) A (pyNext (.ref I)) Q E s := by
  obtain ⟨o, ho, hc, hd⟩ := id hit
  obtain ⟨⟨oS, hoS, _, hdS⟩, hf⟩ := id hS
  unfold pyNext
  refine wpAny_bind (wpAny_attempt (wpAny_callSpecial?_slot (name := Str.ofString "__next__") hit.typeIs sl_set_next (wpAny_call_entry sl_set_next hit.typeIs en_set_next ?_ (ar_set_next _))))
  unfold Builtin.«set_iterator.__next__»
  refine wpAny_bind (wpAny_pure ?_)
  refine wpAny_bind (wpAny_fieldsOf ho hd ?_)
  dsimp only
  refine wpAny_bind (wpAny_setEntries_of hoS hdS hf ?_)
  rw [if_neg (by rw [hn]; simp)]
  refine wpAny_bind (hx _ _ _ ?_)
  dsimp only
  refine wpAny_bind (wpAny_setField ho hd (by simp) ?_)
  have g1 := Heap.get?_update_self (Obj.mapFields (·.setIfInBounds 0 (rawInt (sl' : Int)))) ho (Obj.isFreed_of_fields (Obj.data_mapFields hd _))
  refine wpAny_bind (wpAny_setField (s := { s with heap := s.heap.update I (Obj.mapFields (·.setIfInBounds 0 (rawInt (sl' : Int)))) }) g1 (Obj.data_mapFields hd _) (by simp) ?_)
  have g2 := Heap.get?_update_self (Obj.mapFields (·.setIfInBounds 1 (rawInt ((i : Int) + 1)))) g1 (Obj.isFreed_of_fields (Obj.data_mapFields (Obj.data_mapFields hd _) _))
  refine wpAny_pure ⟨v, rfl, wpAny_pure (hQ _ ⟨_, g2, (Obj.cls_mapFields ..).trans ((Obj.cls_mapFields ..).trans hc), ?_⟩ ((Heap.SameBut.update ..).trans (Heap.SameBut.update ..)))⟩
  rw [Obj.data_mapFields (Obj.data_mapFields hd _)]
  simp [rawInt]
/-- the end -/
theorem stop_raise {o : Obj} {fs : Array Value} {Q : Option Value → Shared → Prop} (hh : A.handled = none) (ho : s.heap.get? I = some o) (hd : o.data = .fields fs) (hz : 2 < fs.size) (hQ : ∀ h', Heap.ExtBut I s.heap h' → Q none { s with heap := h' }) :
    wpAny (model prog w) A.in1 (do
      setField (Value.ref I) 2 Value.none
      let x ← newExc (Value.type "StopIteration") []
      raiseNew x) (fun fin s' => ∃ v, fin = Fin.done (Flow.ret v) ∧ wpAny (model prog w) A (pure (some v)) Q E s')
    (fun e s' => wpAny (model prog w) A (do let c ← isInstance e (Value.type "StopIteration"); if c = true then pure none else throw e) Q E s') s := by
  refine wpAny_bind (wpAny_setField ho hd hz (wpAny_bind ?_))
  simp only [newExc, newTuple]
  refine wpAny_bind (wpAny_newObj_type (hd := by size_fits) ?_)
  refine wpAny_bind (m := firstArgMember _ _) (wpAny_of_eq (a := Value.none) (by first | rfl | (simp only [firstArgMember]; rfl)) (wpAny_newObj_type (hd := by size_fits) ?_))
  simp only [raiseNew]
  refine wpAny_bind (wpAny_handled ?_); rw [show A.in1.handled = none from hh]
  refine wpAny_bind (wpAny_pure (wpAny_throw ?_))
  refine wpAny_bind (wpAny_isInstance (b := true) (T := "StopIteration") ⟨_, Heap.get?_push_size _ rfl, rfl⟩ isSubtype_stop ?_)
  exact wpAny_pure (hQ _ (((Heap.SameBut.update ..).extBut.push _).push _))
theorem end_a {i sl n : Nat} {Q : Option Value → Shared → Prop} (hh : A.handled = none) (hit : ItAt s.heap I S (.int sl 0) i n ep) (hS : SetAt s.heap S es ep t) (hn : n = es.size)
    (hx : ∀ (A : Around) (E : Value → Shared → Prop) (Q : Option (Value × Nat) → Shared → Prop), Q none s → wpAny (model prog w) A (setNext S sl i ep) Q E s)
    (hQ : ∀ h', Heap.ExtBut I s.heap h' → Q none { s with heap := h' }) : wpAny (model prog w) A (pyNext (.ref I)) Q E s := by
  obtain ⟨o, ho, hc, hd⟩ := id hit
  obtain ⟨⟨oS, hoS, _, hdS⟩, hf⟩ := id hS
  unfold pyNext
  refine wpAny_bind (wpAny_attempt (wpAny_callSpecial?_slot (name := Str.ofString "__next__") hit.typeIs sl_set_next (wpAny_call_entry sl_set_next hit.typeIs en_set_next ?_ (ar_set_next _))))
  unfold Builtin.«set_iterator.__next__»
  refine wpAny_bind (wpAny_pure (wpAny_bind (wpAny_fieldsOf ho hd ?_)))
  dsimp only
  refine wpAny_bind (wpAny_setEntries_of hoS hdS hf ?_)
  rw [if_neg (by rw [hn]; simp)]
  refine wpAny_bind (hx _ _ _ ?_)
  exact stop_raise hh ho hd (by simp) hQ
end
end Bd

namespace Bd
open PySem PySem.Spec
theorem erase_perm {α : Type} : ∀ (l : List α) (i : Nat) (x : α), l[i]? = some x → (x :: l.eraseIdx i).Perm l
  | [], i, x, h => by simp at h
  | a :: l, 0, x, h => by simp at h; subst h; simp
  | a :: l, i + 1, x, h => by
    simp only [List.getElem?_cons_succ] at h
    rw [List.eraseIdx_cons_succ]
    exact (List.Perm.swap a x _).trans ((erase_perm l i x h).cons a)
theorem pick_go {α : Type} (next : Nat → Nat) : ∀ (fuel k : Nat) (left : List α) (out : Array α), fuel = left.length → (pickOrder.go next fuel k left out).toList.Perm (out.toList ++ left)
  | 0, k, left, out, h => by
    have : left = [] := List.eq_nil_of_length_eq_zero h.symm
    subst this
    unfold pickOrder.go; simp
  | fuel + 1, k, left, out, h => by
    unfold pickOrder.go
    have lt : next k % left.length < left.length := Nat.mod_lt _ (by omega)
    have he : left[next k % left.length]? = some left[next k % left.length] := by simp [lt]
    rw [he]
    dsimp only
    refine (pick_go next fuel (k + 1) _ _ (by rw [List.length_eraseIdx_of_lt lt]; omega)).trans ?_
    rw [Array.toList_push, List.append_assoc]
    exact (erase_perm _ _ _ he).append_left _
theorem pick_perm {α : Type} (next : Nat → Nat) (xs : Array α) : (pickOrder next xs).toList.Perm xs.toList := by
  unfold pickOrder
  simpa using pick_go next xs.size 0 xs.toList #[] (by simp)
section
variable {prog : Program} {w : World} {A : Around} {E : Value → Shared → Prop} {s : Shared} {I S : Addr} {es : Array (Int × Value)} {ep : Nat} {t : SetTable}
theorem by_text {Q : Bool → Shared → Prop} (h : Q (w.params.followText "set-order") s) : wpAny (model prog w) A setsByText Q E s := by
  unfold setsByText
  exact wpAny_bind (wpAny_askSetting (wpAny_pure h))
theorem next_text {sl i : Nat} {Q : Option (Value × Nat) → Shared → Prop} (hS : SetAt s.heap S es ep t) (ht : w.params.followText "set-order" = true)
    (h : Q (((pickOrder (w.params.setOrder S ep) es)[i]?).map fun e => (e.2, sl)) s) : wpAny (model prog w) A (setNext S sl i ep) Q E s := by
  obtain ⟨⟨oS, hoS, _, hdS⟩, hf⟩ := id hS
  unfold setNext
  refine wpAny_bind (wpAny_setState_of hoS hdS hf ?_)
  dsimp only
  refine wpAny_bind (by_text ?_)
  rw [if_pos ht, if_neg (by simp)]
  unfold setWalk
  refine wpAny_bind (wpAny_bind (wpAny_setState_of hoS hdS hf ?_))
  dsimp only
  refine wpAny_bind (by_text ?_)
  rw [if_pos ht]
  exact wpAny_bind (wpAny_askSetting (wpAny_pure (wpAny_pure h)))
/-- the place from which turn i looks -/
def slotAt (t : SetTable) : Nat → Nat
  | 0 => 0
  | i + 1 => t.place.getD i 0 + 1
theorem below_slot (hu : Up t.place) (i : Nat) (hi : i ≤ t.place.size) : SetTable.below t.place (slotAt t i) = i := by
  obtain ⟨h1, h2, h3⟩ := below_spec t.place (slotAt t i) hu
  have lo : ∀ m a, m < i → t.place[m]? = some a → a < slotAt t i := fun m a hm ha => by
    cases i with
    | zero => omega
    | succ j =>
      have hj : t.place[j]? = some (t.place.getD j 0) := by simp [Array.getD, show j < t.place.size from hi]
      show a < t.place.getD j 0 + 1
      rcases Nat.lt_or_ge m j with q | q
      · have := hu _ _ _ _ q ha hj; omega
      · have : m = j := by omega
        subst this; rw [hj] at ha; cases ha; omega
  have up : ∀ m a, i ≤ m → t.place[m]? = some a → slotAt t i ≤ a := fun m a hm ha => by
    cases i with
    | zero => exact Nat.zero_le _
    | succ j =>
      have hj : t.place[j]? = some (t.place.getD j 0) := by simp [Array.getD, show j < t.place.size from hi]
      show t.place.getD j 0 + 1 ≤ a
      have := hu _ _ _ _ (show j < m by omega) hj ha; omega
  rcases Nat.lt_trichotomy (SetTable.below t.place (slotAt t i)) i with q | q | q
  · have hlt : SetTable.below t.place (slotAt t i) < t.place.size := by omega
    have he : t.place[SetTable.below t.place (slotAt t i)]? = some t.place[SetTable.below t.place (slotAt t i)] := by simp [hlt]
    have a1 := lo _ _ q he
    have a2 := h3 _ _ (Nat.le_refl _) he
    omega
  · exact q
  · have hlt : i < t.place.size := by omega
    have he : t.place[i]? = some t.place[i] := by simp [hlt]
    have a1 := h2 _ _ q he
    have a2 := up _ _ (Nat.le_refl _) he
    omega
theorem next_plain {i : Nat} {Q : Option (Value × Nat) → Shared → Prop} (hS : SetAt s.heap S es ep t) (ht : w.params.followText "set-order" = false) (hT : Tab true t) (hp : (!t.plain && decide (es.size > 1)) = false) (hi : i ≤ es.size)
    (h : Q ((es[i]?).map fun e => (e.2, slotAt t (i + 1))) s) : wpAny (model prog w) A (setNext S (slotAt t i) i ep) Q E s := by
  obtain ⟨⟨oS, hoS, _, hdS⟩, hf⟩ := id hS
  have hz : t.place.size = es.size := by simp only [SetTable.fits, Bool.and_eq_true, beq_iff_eq] at hf; exact hf.1
  unfold setNext
  refine wpAny_bind (wpAny_setState_of hoS hdS hf ?_)
  dsimp only
  refine wpAny_bind (by_text ?_)
  rw [ht]
  simp only [Bool.false_eq_true, if_false]
  show wpAny _ _ (if (!t.plain && decide (es.size > 1)) = true then _ else _) _ _ _
  rw [hp]
  simp only [Bool.false_eq_true, if_false]
  refine wpAny_bind ?_
  show wpAny _ _ (if (!t.led && !es.isEmpty) = true then _ else _) _ _ _
  rw [hT.led]
  refine wpAny_pure ?_
  rw [below_slot hT.up i (by omega)]
  rcases Nat.lt_or_ge i es.size with q | q
  · have e1 : es[i]? = some es[i] := by simp [q]
    have e2 : t.place[i]? = some (t.place.getD i 0) := by simp [Array.getD, show i < t.place.size by omega]
    rw [e1] at h
    rw [e1, e2]
    exact wpAny_pure h
  · have e1 : es[i]? = none := Array.getElem?_eq_none q
    rw [e1] at h
    rw [e1]
    exact wpAny_pure h
end
end Bd

namespace Bd
open PySem PySem.Spec
section
variable {prog : Program} {w : World} {A : Around} {E : Value → Shared → Prop} {s : Shared} {I S : Addr} {es : Array (Int × Value)} {ep : Nat} {t : SetTable}
theorem choose_any {src : Source} {n : Nat} {Q : Nat → Shared → Prop} (hn : n ≠ 0) (h : ∀ i d, i < n → Q i { s with drawn := d }) : wpAny (model prog w) A (choose src n) Q E s := fun Γ p _ => by
  show n ≠ 0 ∧ _
  exact ⟨hn, h _ _ (Nat.mod_lt _ (Nat.pos_of_ne_zero hn))⟩
theorem draw_any {α : Type} : ∀ (n : Nat) (xs : List α) {s : Shared} {Q : List α → Shared → Prop}, n = xs.length → (∀ out d, out.Perm xs → Q out { s with drawn := d }) → wpAny (model prog w) A (drawOrder n xs) Q E s
  | 0, xs, s, Q, hn, h => by
    have : xs = [] := List.eq_nil_of_length_eq_zero hn.symm
    subst this
    unfold drawOrder
    exact wpAny_pure (h [] s.drawn .nil)
  | n + 1, [], s, Q, hn, h => by simp at hn
  | n + 1, x :: xs, s, Q, hn, h => by
    unfold drawOrder
    refine wpAny_bind (choose_any (by simp) fun i d hi => ?_)
    have he : (x :: xs)[i]? = some (x :: xs)[i] := by simp [hi]
    rw [he]
    dsimp only
    refine wpAny_bind (draw_any n ((x :: xs).eraseIdx i) (by rw [List.length_eraseIdx_of_lt hi]; simp at hn ⊢; omega) fun out d' hp => wpAny_pure ?_)
    exact h _ d' ((hp.cons _).trans (erase_perm _ _ _ he))
theorem next_d {i n : Nat} {T : Addr} {pl : Array Value} {oT : Obj} {c : Nat} {e : Int × Value} {tk : Tok} {Q : Option Value → Shared → Prop} (hit : ItAt s.heap I S (.ref T) i n ep) (hS : SetAt s.heap S es ep t) (hn : n = es.size)
    (hT : s.heap.get? T = some oT) (hd : oT.data = .seq pl c) {j : Nat} (hx : pl[i]? = some (.int j tk)) (he : es[j]? = some e)
    (hQ : ∀ h', ItAt h' I S (.ref T) (i + 1) n ep → Heap.SameBut I s.heap h' → Q (some e.2) { s with heap := h' }) : wpAny (model prog w) A (pyNext (.ref I)) Q E s := by
  obtain ⟨o, ho, hc, hdI⟩ := id hit
  obtain ⟨⟨oS, hoS, _, hdS⟩, hf⟩ := id hS
  unfold pyNext
  refine wpAny_bind (wpAny_attempt (wpAny_callSpecial?_slot (name := Str.ofString "__next__") hit.typeIs sl_set_next (wpAny_call_entry sl_set_next hit.typeIs en_set_next ?_ (ar_set_next _))))
  unfold Builtin.«set_iterator.__next__»
  refine wpAny_bind (wpAny_pure (wpAny_bind (wpAny_fieldsOf ho hdI ?_)))
  dsimp only
  refine wpAny_bind (wpAny_setEntries_of hoS hdS hf ?_)
  rw [if_neg (by rw [hn]; simp)]
  refine wpAny_bind (wpAny_seqItems hT hd ?_)
  dsimp only
  rw [show ((i : Int)).toNat = i from Int.toNat_natCast i, hx]
  dsimp only
  refine wpAny_bind ?_
  unfold setNextDrawn
  refine wpAny_bind (wpAny_setState_of hoS hdS hf ?_)
  dsimp only
  rw [if_neg (by simp), show ((j : Int)).toNat = j from Int.toNat_natCast j, he]
  refine wpAny_pure ?_
  refine wpAny_bind (wpAny_setField ho hdI (by simp) ?_)
  have g1 := Heap.get?_update_self (Obj.mapFields (·.setIfInBounds 1 (rawInt ((i : Int) + 1)))) ho (Obj.isFreed_of_fields (Obj.data_mapFields hdI _))
  refine wpAny_pure ⟨_, rfl, wpAny_pure (hQ _ ⟨_, g1, (Obj.cls_mapFields ..).trans hc, ?_⟩ (Heap.SameBut.update ..))⟩
  rw [Obj.data_mapFields hdI]
  simp [rawInt]
theorem end_d {i n : Nat} {T : Addr} {pl : Array Value} {oT : Obj} {c : Nat} {Q : Option Value → Shared → Prop} (hh : A.handled = none) (hit : ItAt s.heap I S (.ref T) i n ep) (hS : SetAt s.heap S es ep t) (hn : n = es.size)
    (hT : s.heap.get? T = some oT) (hd : oT.data = .seq pl c) (hx : pl[i]? = none)
    (hQ : ∀ h', Heap.ExtBut I s.heap h' → Q none { s with heap := h' }) : wpAny (model prog w) A (pyNext (.ref I)) Q E s := by
  obtain ⟨o, ho, hc, hdI⟩ := id hit
  obtain ⟨⟨oS, hoS, _, hdS⟩, hf⟩ := id hS
  unfold pyNext
  refine wpAny_bind (wpAny_attempt (wpAny_callSpecial?_slot (name := Str.ofString "__next__") hit.typeIs sl_set_next (wpAny_call_entry sl_set_next hit.typeIs en_set_next ?_ (ar_set_next _))))
  unfold Builtin.«set_iterator.__next__»
  refine wpAny_bind (wpAny_pure (wpAny_bind (wpAny_fieldsOf ho hdI ?_)))
  dsimp only
  refine wpAny_bind (wpAny_setEntries_of hoS hdS hf ?_)
  rw [if_neg (by rw [hn]; simp)]
  refine wpAny_bind (wpAny_seqItems hT hd ?_)
  dsimp only
  rw [show ((i : Int)).toNat = i from Int.toNat_natCast i, hx]
  dsimp only
  refine wpAny_bind (wpAny_setField ho hdI (by simp) ?_)
  have g1 := Heap.get?_update_self (Obj.mapFields (·.setIfInBounds 0 (rawInt 0))) ho (Obj.isFreed_of_fields (Obj.data_mapFields hdI _))
  refine stop_raise (s := { s with heap := s.heap.update I (Obj.mapFields (·.setIfInBounds 0 (rawInt 0))) }) hh g1 (Obj.data_mapFields hdI _) (by simp) fun h' x => hQ h' fun b o hb e => x b o hb ?_
  exact ((Heap.SameBut.update s.heap I (Obj.mapFields (·.setIfInBounds 0 (rawInt 0)))).2 b hb).trans e
end
end Bd

namespace Bd
open PySem PySem.Spec
section
variable {prog : Program} {w : World} {A : Around} {E : Value → Shared → Prop} {s : Shared} {I S T : Addr} {es : Array (Int × Value)} {ep : Nat} {t : SetTable}
theorem ItAt.keep {h h' : Heap} {f : Value} {i n : Nat} (x : ItAt h I S f i n ep) (k : ∀ o, h.get? I = some o → h'.get? I = some o) : ItAt h' I S f i n ep := let ⟨o, h1, r⟩ := x; ⟨o, k o h1, r⟩
theorem sl_set_self : Slot "set_iterator" "__iter__" "set_iterator.__iter__" :=
  .of (owner := "set_iterator") (n := "__iter__") (by rw [typeLookup_type, builtinLookup_eq_fast]; kernel_rfl) (by decide +kernel) (by decide +kernel) (by decide +kernel)
    (by first | exact .inl (by decide +kernel) | exact .inr (by decide +kernel)) (by rw [isSubtype_type]; kernel_rfl)
theorem en_set_self : entryFor table "set_iterator.__iter__" = some Builtin.«dict_keyiterator.__iter__» :=
  entryFor_alias (id' := "dict_keyiterator.__iter__") (by kernel_rfl) rfl (by decide +kernel) (by kernel_rfl)
theorem ar_set_self (a : Value) : argsOk "set_iterator.__iter__" ⟨[a], []⟩ := by
  unfold argsOk; rw [signature?_of (id := "set_iterator.__iter__") (n := "__iter__".toList.reverse) (o := "set_iterator".toList.reverse) (by kernel_rfl) own_set_it]; kernel_rfl
theorem iter_self {f : Value} {i n : Nat} {Q : Value → Shared → Prop} (hit : ItAt s.heap I S f i n ep) (hQ : Q (.ref I) s) : wpAny (model prog w) A (pyIter (.ref I)) Q E s := by
  refine wpAny_pyIter_slot hit.typeIs sl_set_self (wpAny_call_entry sl_set_self hit.typeIs en_set_self ?_ (ar_set_self _))
  unfold Builtin.«dict_keyiterator.__iter__»
  refine wpAny_bind (wpAny_pure ?_)
  exact wpAny_pure ⟨_, rfl, "set_iterator", _, hit.typeIs, sl_set_next.lookup, hQ⟩
/-- by text, or by the places: the turns look at sl i, and the items are those of ord -/
theorem walk_a (hh : A.handled = none) (hne : S ≠ I) (sl : Nat → Nat) (ord : List Value) (hl : ord.length = es.size)
    (hx : ∀ (s : Shared) (i : Nat) (A : Around) (E : Value → Shared → Prop) (Q : Option (Value × Nat) → Shared → Prop), i ≤ es.size → SetAt s.heap S es ep t → Q ((ord[i]?).map fun v => (v, sl (i + 1))) s → wpAny (model prog w) A (setNext S (sl i) i ep) Q E s) :
    Walks prog w A I [I, S] [I] es.size (fun i v => ord[i]? = some v) (fun i h => ItAt h I S (.int (sl i) 0) i es.size ep ∧ SetAt h S es ep t) where
  sub := fun b hb => by simp at hb; simp [hb]
  frame := fun _ _ _ st hk => ⟨st.1.keep fun o e => hk I (by simp) o e, st.2.keep fun o e => hk S (by simp) o e⟩
  item := fun i s Q E hi st hQ => by
    have he : ord[i]? = some ord[i] := by simp [hl, hi]
    refine next_a (v := ord[i]) (sl' := sl (i + 1)) st.1 st.2 rfl (fun A E Q q => hx s i A E Q (Nat.le_of_lt hi) st.2 (by rw [he]; exact q)) fun h' it' sb => ?_
    exact hQ _ h' s.toks he ⟨it', st.2.keep fun o e => (sb.2 S hne).trans e⟩ fun b o hb e => (sb.2 b (by simpa using hb)).trans e
  done := fun s Q E st hQ => by
    have he : ord[es.size]? = none := by simp [hl]
    exact end_a hh st.1 st.2 rfl (fun A E Q q => hx s es.size A E Q (Nat.le_refl _) st.2 (by rw [he]; exact q)) fun h' x => hQ h' s.toks fun b o hb e => x b o (by simpa using hb) e
  self := fun _ _ _ _ st hQ => iter_self st.1 hQ
/-- by places that were drawn -/
theorem walk_d (hh : A.handled = none) (hne : S ≠ I) (hTI : T ≠ I) (pl : List Nat) (hl : pl.length = es.size) (hp : ∀ j ∈ pl, j < es.size) :
    Walks prog w A I [I, S, T] [I] es.size (fun i v => ∃ j e, pl[i]? = some j ∧ es[j]? = some e ∧ v = e.2)
      (fun i h => ItAt h I S (.ref T) i es.size ep ∧ SetAt h S es ep t ∧ ∃ o c, h.get? T = some o ∧ o.data = .seq (pl.map fun (j : Nat) => rawInt j).toArray c) where
  sub := fun b hb => by simp at hb; simp [hb]
  frame := fun _ _ _ st hk => ⟨st.1.keep fun o e => hk I (by simp) o e, st.2.1.keep fun o e => hk S (by simp) o e, let ⟨o, c, h1, h2⟩ := st.2.2; ⟨o, c, hk T (by simp) o h1, h2⟩⟩
  item := fun i s Q E hi st hQ => by
    obtain ⟨o, c, h1, h2⟩ := st.2.2
    have he : pl[i]? = some pl[i] := by simp [hl, hi]
    have lt : pl[i] < es.size := hp _ (List.getElem_mem _)
    have hj : es[pl[i]]? = some es[pl[i]] := by simp [lt]
    refine next_d (j := pl[i]) (tk := 0) (e := es[pl[i]]) st.1 st.2.1 rfl h1 h2 (by simp [hl, hi, rawInt]) hj fun h' it' sb => ?_
    exact hQ _ h' s.toks ⟨_, _, he, hj, rfl⟩ ⟨it', st.2.1.keep fun o e => (sb.2 S hne).trans e, o, c, (sb.2 T hTI).trans h1, h2⟩ fun b o hb e => (sb.2 b (by simpa using hb)).trans e
  done := fun s Q E st hQ => by
    obtain ⟨o, c, h1, h2⟩ := st.2.2
    exact end_d hh st.1 st.2.1 rfl h1 h2 (by simp [hl]) fun h' x => hQ h' s.toks fun b o hb e => x b o (by simpa using hb) e
  self := fun _ _ _ _ st hQ => iter_self st.1 hQ
end
end Bd

namespace Bd
open PySem PySem.Spec
section
variable {prog : Program} {w : World} {A : Around} {E : Value → Shared → Prop} {s : Shared} {I S T : Addr} {es : Array (Int × Value)} {ep : Nat} {t : SetTable}
theorem drawn_any {Q : Bool → Shared → Prop} (hS : SetAt s.heap S es ep t) (h : Q (!w.params.followText "set-order" && (!t.plain && decide (es.size > 1))) s) : wpAny (model prog w) A (setDrawn S) Q E s := by
  obtain ⟨⟨oS, hoS, _, hdS⟩, hf⟩ := id hS
  unfold setDrawn
  refine wpAny_bind (wpAny_setState_of hoS hdS hf ?_)
  dsimp only
  exact wpAny_bind (by_text (wpAny_pure h))
/-- what an iterator over the set gives: n items, each of them an element, in some order -/
def Ord (es : Array (Int × Value)) (P : Nat → Value → Prop) : Prop := ∀ vs : List Value, vs.length = es.size → (∀ j v, vs[j]? = some v → P j v) → vs.Perm (es.toList.map (·.2))
theorem ord_list {ord : List Value} (hp : ord.Perm (es.toList.map (·.2))) : Ord es (fun i v => ord[i]? = some v) := fun vs hl hv => by
  have hlo : ord.length = es.size := by rw [hp.length_eq]; simp
  have : vs = ord := by
    apply List.ext_getElem?
    intro i
    rcases Nat.lt_or_ge i vs.length with q | q
    · have e : vs[i]? = some vs[i] := by simp [q]
      rw [e, hv i _ e]
    · rw [List.getElem?_eq_none q, List.getElem?_eq_none (by omega)]
  rw [this]; exact hp
theorem fm_map (es : Array (Int × Value)) : ∀ (pl : List Nat), (∀ j ∈ pl, j < es.size) → pl.filterMap (fun j => (es[j]?).map (·.2)) = pl.map (fun j => ((es[j]?).map (·.2)).getD .none)
  | [], _ => rfl
  | j :: pl, h => by
    have hj : j < es.size := h j List.mem_cons_self
    have e : es[j]? = some es[j] := by simp [hj]
    rw [List.filterMap_cons, List.map_cons, fm_map es pl fun k hk => h k (List.mem_cons_of_mem _ hk), e]
    rfl
theorem ord_places {pl : List Nat} (hp : pl.Perm (List.range es.size)) : Ord es (fun i v => ∃ j e, pl[i]? = some j ∧ es[j]? = some e ∧ v = e.2) := fun vs hl hv => by
  have hlo : pl.length = es.size := by rw [hp.length_eq]; simp
  have : vs = pl.filterMap (fun j => (es[j]?).map (·.2)) := by
    have e2 : pl.filterMap (fun j => (es[j]?).map (·.2)) = pl.map (fun j => ((es[j]?).map (·.2)).getD .none) := fm_map es pl fun j hj => by have := hp.mem_iff.mp hj; simpa using this
    rw [e2]
    apply List.ext_getElem?
    intro i
    rcases Nat.lt_or_ge i vs.length with q | q
    · have e : vs[i]? = some vs[i] := by simp [q]
      obtain ⟨j, x, h1, h2, h3⟩ := hv i _ e
      rw [e, List.getElem?_map, h1, Option.map_some, h2, h3]; rfl
    · rw [List.getElem?_eq_none q, List.getElem?_eq_none (by rw [List.length_map]; omega)]
  rw [this]
  refine (hp.filterMap _).trans ?_
  have e3 : (List.range es.size).filterMap (fun j => (es[j]?).map (·.2)) = ((List.range es.size).filterMap (fun j => es[j]?)).map (·.2) := by rw [List.map_filterMap]
  rw [e3, filterMap_getElem?_range]
theorem iter_set {Q : Value → Shared → Prop} (hh : A.handled = none) (hT : s.TypeIs (.ref S) "set") (hS : SetAt s.heap S es ep t) (hTab : Tab (ledOf w) t) (hz : es.size ≤ sizeLine)
    (hQ : ∀ (s' : Shared) (I : Addr) (fp : List Addr) (P : Nat → Value → Prop) (St : Nat → Heap → Prop), (∀ c o, s.heap.get? c = some o → s'.heap.get? c = some o) → s'.gens = s.gens → s'.os = s.os → s'.toks = s.toks → s.heap.objs.size ≤ I → (∀ c ∈ fp, c = S ∨ s.heap.objs.size ≤ c) →
      Walks prog w A I fp [I] es.size P St → St 0 s'.heap → Ord es P → Q (.ref I) s') : wpAny (model prog w) A (pyIter (.ref S)) Q E s := by
  have lt : S < s.heap.objs.size := let ⟨⟨o, h, _⟩, _⟩ := hS; Heap.lt_size h
  obtain ⟨⟨oS, hoS, _, hdS⟩, hf⟩ := id hS
  refine wpAny_pyIter_slot hT PySem.F.slot_set_iter (wpAny_call_entry PySem.F.slot_set_iter hT en_set_iter ?_ (PySem.F.args_set_iter_1 _))
  unfold Builtin.«frozenset.__iter__»
  refine wpAny_bind ?_
  show wpAny _ _ (pure S) _ _ s
  refine wpAny_pure (wpAny_bind ?_)
  unfold Builtin.Frozenset.sizeOf
  refine wpAny_bind (wpAny_setEntries_of hoS hdS hf (wpAny_pure ?_))
  refine wpAny_bind (drawn_any hS ?_)
  cases hc : (!w.params.followText "set-order" && (!t.plain && decide (es.size > 1))) with
  | true =>
    rw [Bool.and_eq_true] at hc
    simp only [↓reduceIte]
    refine wpAny_bind (draw_any es.size (List.range es.size) (by simp) fun pl d hp => ?_)
    have hl : pl.length = es.size := by rw [hp.length_eq]; simp
    refine wpAny_bind (wpAny_newTuple ?_ (by rw [List.length_map, hl]; exact hz))
    have k1 : ∀ c o, s.heap.get? c = some o → (s.heap.push { cls := .type "tuple", data := .seq (pl.map fun (i : Nat) => rawInt i).toArray }).get? c = some o := fun c o e => Heap.get?_push_of_some _ e
    have hS1 := hS.keep (k1 S)
    obtain ⟨⟨o1, ho1, _, hd1⟩, hf1⟩ := id hS1
    refine wpAny_bind (wpAny_setEpoch_of ho1 hd1 hf1 ?_)
    unfold newFields
    refine wpAny_bind (wpAny_newObj_type (hd := by size_fits) ?_)
    have sz : (s.heap.push { cls := .type "tuple", data := .seq (pl.map fun (i : Nat) => rawInt i).toArray }).objs.size = s.heap.objs.size + 1 := Heap.size_push ..
    have neI : S ≠ (s.heap.push { cls := .type "tuple", data := .seq (pl.map fun (i : Nat) => rawInt i).toArray }).objs.size := by rw [sz]; exact Nat.ne_of_lt (Nat.lt_succ_of_lt lt)
    have neT : s.heap.objs.size ≠ (s.heap.push { cls := .type "tuple", data := .seq (pl.map fun (i : Nat) => rawInt i).toArray }).objs.size := by rw [sz]; exact Nat.ne_of_lt (Nat.lt_succ_self _)
    have st : ItAt ((s.heap.push { cls := .type "tuple", data := .seq (pl.map fun (i : Nat) => rawInt i).toArray }).push { cls := .type "set_iterator", data := .fields #[.ref s.heap.objs.size, .int 0 0, .ref S, .int es.size 0, .int ep 0] }) (s.heap.push { cls := .type "tuple", data := .seq (pl.map fun (i : Nat) => rawInt i).toArray }).objs.size S (.ref s.heap.objs.size) 0 es.size ep := ⟨_, Heap.get?_push_size _ rfl, rfl, rfl⟩
    refine wpAny_pure ⟨_, rfl, "set_iterator", _, ⟨_, Heap.get?_push_size _ rfl, rfl⟩, sl_set_next.lookup, ?_⟩
    refine hQ _ _ _ _ _ (fun c o e => Heap.get?_push_of_some _ (k1 c o e)) rfl rfl rfl (by rw [sz]; exact Nat.le_succ _) ?_ (walk_d (ep := ep) (t := t) hh neI neT pl hl fun j hj => by have := hp.mem_iff.mp hj; simpa using this) ⟨st, hS1.keep fun o e => Heap.get?_push_of_some _ e, _, _, Heap.get?_push_of_some _ (Heap.get?_push_size _ rfl), rfl⟩ (ord_places hp)
    intro c hc
    simp only [List.mem_cons, List.not_mem_nil, or_false] at hc
    rcases hc with rfl | rfl | rfl
    · exact .inr (by rw [sz]; exact Nat.le_succ _)
    · exact .inl rfl
    · exact .inr (Nat.le_refl _)
  | false =>
    simp only [Bool.false_eq_true, ↓reduceIte]
    refine wpAny_bind (wpAny_pure (wpAny_bind (wpAny_setEpoch_of hoS hdS hf ?_)))
    unfold newFields
    refine wpAny_bind (wpAny_newObj_type (hd := by size_fits) ?_)
    have neI : S ≠ s.heap.objs.size := Nat.ne_of_lt lt
    have fpo : ∀ c ∈ [s.heap.objs.size, S], c = S ∨ s.heap.objs.size ≤ c := fun c hc => by
      simp only [List.mem_cons, List.not_mem_nil, or_false] at hc
      rcases hc with rfl | rfl
      · exact .inr (Nat.le_refl _)
      · exact .inl rfl
    have keep : ∀ (ob : Obj) c o, s.heap.get? c = some o → (s.heap.push ob).get? c = some o := fun ob c o e => Heap.get?_push_of_some _ e
    refine wpAny_pure ⟨_, rfl, "set_iterator", _, ⟨_, Heap.get?_push_size _ rfl, rfl⟩, sl_set_next.lookup, ?_⟩
    cases ht : w.params.followText "set-order" with
    | true =>
      have hp := (pick_perm (w.params.setOrder S ep) es).map (·.2)
      refine hQ _ _ _ _ _ (keep _) rfl rfl rfl (Nat.le_refl _) fpo (walk_a (ep := ep) (t := t) hh neI (fun _ => 0) ((pickOrder (w.params.setOrder S ep) es).toList.map (·.2)) (by rw [hp.length_eq]; simp) fun s i A E Q _ hS q => next_text hS ht ?_) ⟨⟨_, Heap.get?_push_size _ rfl, rfl, rfl⟩, hS.keep fun o e => keep _ _ o e⟩ (ord_list hp)
      rw [List.getElem?_map, Array.getElem?_toList, Option.map_map] at q
      exact q
    | false =>
      rw [ht] at hc
      have hT2 : Tab true t := by have := hTab; unfold ledOf at this; rw [ht] at this; exact this
      refine hQ _ _ _ _ _ (keep _) rfl rfl rfl (Nat.le_refl _) fpo (walk_a (ep := ep) (t := t) hh neI (slotAt t) (es.toList.map (·.2)) (by simp) fun s i A E Q hi hS q => next_plain hS ht hT2 hc hi ?_) ⟨⟨_, Heap.get?_push_size _ rfl, rfl, rfl⟩, hS.keep fun o e => keep _ _ o e⟩ (ord_list (List.Perm.refl _))
      rw [List.getElem?_map, Array.getElem?_toList, Option.map_map] at q
      exact q
end
end Bd

namespace Bd
open PySem PySem.Spec PyProof.Rows
section
variable {prog : Program} {w : World} {A : Around} {E : Value → Shared → Prop} {s : Shared} {S : Addr} {ks : List Int}
theorem ints_of_es : ∀ {l : List (Int × Value)}, IntEs l → IntsAre (l.map (·.2)) (l.map fun e => kOf e.2)
  | [], _ => .nil
  | e :: l, h => by
    obtain ⟨k, tk, e1, _⟩ := h e List.mem_cons_self
    have ih := ints_of_es (l := l) fun x hx => h x (List.mem_cons_of_mem _ hx)
    show IntsAre (e.2 :: _) (kOf e.2 :: _)
    rw [e1]
    exact .cons k tk ih
theorem ints_perm {vs us : List Value} (h : us.Perm vs) : ∀ {ns : List Int}, IntsAre vs ns → ∃ ms, ms.Perm ns ∧ IntsAre us ms := by
  induction h with
  | nil => intro ns h; cases h; exact ⟨[], .nil, .nil⟩
  | cons x _ ih =>
    intro ns h
    cases h with
    | cons n t h =>
      obtain ⟨ms, p, q⟩ := ih h
      exact ⟨n :: ms, p.cons n, .cons n t q⟩
  | swap x y l =>
    intro ns h
    cases h with
    | cons n t h =>
      cases h with
      | cons n' t' h => exact ⟨_, List.Perm.swap _ _ _, .cons n' t' (.cons n t h)⟩
  | trans _ _ ih1 ih2 =>
    intro ns h
    obtain ⟨ms, p, q⟩ := ih2 h
    obtain ⟨ms', p', q'⟩ := ih1 q
    exact ⟨ms', p'.trans p, q'⟩
/-- all that a set holds, in a new list -/
theorem collect_set {R : List Value → Shared → Prop} (hh : A.handled = none) (x : SetP (ledOf w) s.heap S ks)
    (h : ∀ (s' : Shared) (vs : List Value) (ms : List Int), (∀ c o, s.heap.get? c = some o → s'.heap.get? c = some o) → s'.gens = s.gens → s'.os = s.os → s.heap.objs.size < s'.heap.objs.size → IntsAre vs ms → ms.Perm ks → R vs s') :
    wpAny (model prog w) A (collect (.ref S)) R E s := by
  obtain ⟨o, es, ep, t, h1, h2, h3, h4, h5, h6, h7, h8⟩ := id x
  have hz : es.size ≤ sizeLine := fits_of_scanBound h6
  have lt := x.lt
  unfold collect
  refine wpAny_bind (wpAny_runValue (codeAny_builtin entry_proto_collect' ?_)); rw [Around.under_plainId PySem.F.plain_proto_collect _]
  show wpAny _ A.in1 (newList [] >>= fun l => again (.builtin "list.__iadd__" ⟨[l, .ref S], []⟩)) _ _ s
  refine wpAny_bind (wpAny_newObj_type (wpAny_pure ⟨plainId_quiet PySem.F.plain_list_iadd _, codeAny_builtin entry_list_iadd' ?_⟩)); rw [Around.under_plainId PySem.F.plain_list_iadd _]
  generalize hL : s.heap.objs.size = L
  generalize hs1 : ({ s with heap := s.heap.push { cls := .type "list", data := .seq ([] : List Value).toArray } } : Shared) = s1
  have gL : s1.heap.get? L = some { cls := .type "list", data := .seq #[] } := by rw [← hs1, ← hL]; exact Heap.get?_push_size _ rfl
  have k1 : ∀ c o, s.heap.get? c = some o → s1.heap.get? c = some o := fun c o e => by rw [← hs1]; exact Heap.get?_push_of_some _ e
  have sz1 : s1.heap.objs.size = L + 1 := by rw [← hs1, ← hL]; exact Heap.size_push ..
  have gen1 : s1.gens = s.gens := by rw [← hs1]
  have os1 : s1.os = s.os := by rw [← hs1]
  have ne : L ≠ S := by rw [← hL]; exact Nat.ne_of_gt lt
  have hS1 : SetAt s1.heap S es ep t := ⟨⟨o, k1 S o h1, h2, h3⟩, h7⟩
  have hT1 : s1.TypeIs (.ref S) "set" := ⟨o, k1 S o h1, h2.1⟩
  show wpAny _ A.in1 (Builtin.List.listExtendWith (.ref L) (.ref S) (.ref L)) _ _ s1
  unfold Builtin.List.listExtendWith
  refine wpAny_bind (wpAny_typeOf (T := "set") hT1 ?_)
  have e1 : Builtin.List.listSameRef (.ref L) (.ref S) = false := by simp [Builtin.List.listSameRef, ne]
  have e2 : (Value.type "set" == Value.type "list") = false := by decide
  have e3 : (Value.type "set" == Value.type "tuple") = false := by decide
  simp only [e1, e2, e3, Bool.or_false, Bool.false_eq_true, if_false]
  refine wpAny_bind (iter_set (A := A.in1) hh hT1 hS1 h8 hz fun s2 I fp P St k2 g2 o2 t2 hI hfp W st ord => ?_)
  have gL2 := k2 L _ gL
  have nf : L ∉ fp := fun hm => by
    rcases hfp L hm with z | z
    · exact ne z
    · rw [sz1] at z; exact absurd z (Nat.not_succ_le_self _)
  have hT2 : s2.TypeIs (.ref S) "set" := ⟨o, k2 S o (k1 S o h1), h2.1⟩
  -- the loop, and what is told behind it
  have key : ∀ (s3 : Shared) (c : Nat), St 0 s3.heap → (∀ b o, b ≠ L → s2.heap.get? b = some o → s3.heap.get? b = some o) → s3.gens = s2.gens → s3.os = s2.os → s3.heap.get? L = some { cls := .type "list", data := .seq #[] c } →
      codeAny (model prog w) A (.builtin "list.extend.loop" ⟨[.ref L, .ref I, .ref L], []⟩) (fun q s' => ∃ (acc : Array Value) (c : Nat), q = .ok (.ret (.ref L)) ∧ (∀ b o, s.heap.get? b = some o → s'.heap.get? b = some o) ∧ s'.gens = s.gens ∧ s'.os = s.os ∧
        s'.heap.get? L = some { cls := .type "list", dict := none, data := .seq acc c, slots := #[] } ∧ ItemsOf P acc es.size) s3 := by
    intro s3 c st3 k3 g3 o3 gL3
    refine codeAny_extend_loopS W.toS hz L nf (.ref L) es.size 0 s3 #[] c rfl (Nat.zero_le _) st3 gL3 (ItemsOf.nil _) fun s' acc c' hm hL' hacc => ?_
    refine ⟨acc, c', rfl, fun b o e => ?_, hm.gens.trans (g3.trans (g2.trans gen1)), hm.os.trans (o3.trans (o2.trans os1)), hL', hacc⟩
    have lb := Heap.lt_size e
    have nb : b ≠ L := by rw [← hL]; exact Nat.ne_of_lt lb
    refine hm.heap b o (fun hmem => ?_) (k3 b o nb (k2 b o (k1 b o e)))
    rcases List.mem_cons.mp hmem with z | z
    · exact nb z
    · rw [List.mem_singleton] at z
      rw [z] at lb
      rw [sz1] at hI
      rw [hL] at lb
      exact absurd (Nat.lt_of_lt_of_le lb (Nat.le_of_succ_le hI)) (Nat.lt_irrefl _)
  have fin : ∀ (q : Result) (s' : Shared), (∃ (acc : Array Value) (c : Nat), q = .ok (.ret (.ref L)) ∧ (∀ b o, s.heap.get? b = some o → s'.heap.get? b = some o) ∧ s'.gens = s.gens ∧ s'.os = s.os ∧
        s'.heap.get? L = some { cls := .type "list", dict := none, data := .seq acc c, slots := #[] } ∧ ItemsOf P acc es.size) → ∃ (vs : List Value) (ms : List Int), q = .ok (.ret (.ref L)) ∧ wpAny (model prog w) A (load L >>= fun o => match o.data with | .seq xs _ => pure xs.toList | _ => unsupported "internal:collect") R E s' := by
    rintro q s' ⟨acc, c, rfl, k', g', o', hL', hacc⟩
    have hp := ord acc.toList (by rw [Array.length_toList]; exact hacc.1) fun j v e => hacc.2 j v (by rw [← Array.getElem?_toList]; exact e)
    obtain ⟨ms, p1, p2⟩ := ints_perm hp (ints_of_es h4)
    exact ⟨acc.toList, ms, rfl, wpAny_bind (wpAny_load hL' (wpAny_pure (h s' _ ms k' g' o' (hL ▸ Heap.lt_size hL') p2 (p1.trans h5))))⟩
  refine wpAny_bind (wpAny_holding (set_hint hT2 ?_))
  refine wpAny_ite_split (fun _ => ?_) (fun _ => wpAny_pure ⟨plainId_quiet PySem.F.plain_extend_loop _, codeAny_mono (key s2 0 st (fun b o _ e => e) rfl rfl gL2) fun q s' z => ?_⟩)
  · refine wpAny_bind (wpAny_rule (wpAny_bind ?_))
    show wpAny _ _ (updateSeq L (·.push .none) >>= fun _ => updateSeq L (·.pop)) _ _ _
    refine wpAny_bind (wpAny_updateSeq gL2 rfl ?_)
    have g3 := Heap.get?_update_self (Obj.mapSeq (·.push Value.none)) gL2 rfl
    refine wpAny_updateSeq (hz := by seq_fits) g3 rfl ?_
    have g4 := Heap.get?_update_self (Obj.mapSeq (·.pop)) g3 rfl
    have oth : ∀ b o, b ≠ L → s2.heap.get? b = some o → ((s2.heap.update L (Obj.mapSeq (·.push Value.none))).update L (Obj.mapSeq (·.pop))).get? b = some o := fun b o hb e =>
      (Heap.get?_update_other _ _ (Ne.symm hb)).trans ((Heap.get?_update_other _ _ (Ne.symm hb)).trans e)
    refine wpAny_pure ⟨plainId_quiet PySem.F.plain_extend_loop _, codeAny_mono (key _ _ (W.frame 0 _ _ st fun b hb o e => oth b o (fun z => nf (z ▸ hb)) e) oth rfl rfl g4) fun q s' z => ?_⟩
    obtain ⟨vs, ms, rfl, y⟩ := fin q s' z
    exact y
  · obtain ⟨vs, ms, rfl, y⟩ := fin q s' z
    exact y
/-- sorted of a set -/
theorem sorted_set {Q : Value → Shared → Prop} (hh : A.handled = none) (x : SetP (ledOf w) s.heap S ks) (h64 : ks.length < 64)
    (h : ∀ (s' : Shared) (D : Addr) (out : List Value) (c : Nat) (ns : List Int), (∀ b o, s.heap.get? b = some o → s'.heap.get? b = some o) → s'.gens = s.gens → s'.os = s.os → s.heap.objs.size ≤ D →
      s'.heap.get? D = some { cls := .type "list", data := .seq out.toArray c } → IntsAre out ns → ns.Perm ks → ns.Pairwise (· ≤ ·) → Q (.ref D) s') :
    wpAny (model prog w) A (call (.builtin "sorted") [.ref S]) Q E s := by
  refine Calls.call_function_entry kind_sorted plain_sorted entry_sorted (args_sorted1 _) ?_
  unfold Builtin.«sorted»
  refine wpAny_bind (m := checkCount "sorted" 1 1 _) (wpAny_pure (wpAny_bind (collect_set (A := A.in1) hh x fun s1 vs ms k1 g1 o1 sz hi hp => ?_)))
  have hl : vs.length < 64 := by rw [hi.length, hp.length_eq]; exact h64
  refine wpAny_bind (wpAny_newList ?_ (Nat.le_trans (Nat.le_of_lt hl) (by decide)))
  have hoL : (s1.heap.push (seqObj "list" vs.toArray 0)).get? s1.heap.objs.size = some (seqObj "list" vs.toArray 0) := Heap.get?_push_size _ rfl
  refine wpAny_bind (wpAny_holding (wpAny_call_entry slot_list_sort ⟨_, hoL, rfl⟩ entry_list_sort (list_sort_tree hoL hi hl fun out ns' a1 a2 a3 => ⟨_, rfl, ?_⟩) (args_list_sort _)))
  obtain ⟨ep, hat⟩ := sortedHeap_at (out := out) hoL
  refine wpAny_pure ⟨_, rfl, h _ s1.heap.objs.size out.toList ep ns' (fun b o e => ?_) g1 o1 (Nat.le_of_lt sz) (by rw [Array.toArray_toList]; exact hat) a1 (a2.trans hp) a3⟩
  have lb : b < s1.heap.objs.size := Nat.lt_trans (Heap.lt_size e) sz
  show (sortedHeap _ _ _ _).get? b = some o
  rw [sortedHeap_old (Nat.ne_of_lt lb) (by rw [Heap.size_push]; exact Nat.lt_succ_of_lt lb)]
  exact Heap.get?_push_of_some _ (k1 b o e)
end
end Bd

namespace Bd
open PySem L2
/-- a set of ints stands at p -/
def SetO (w : World) (p : Addr) (ks : List Int) : HO := .ext fun h => SetP (ledOf w) h p ks
section
variable {X : Cx} {pins : List (Addr × Obj)} {σ : St} {H : Hp} {s s' : Shared}
theorem inv_same (I : Inv X pins σ H s) (h1 : s'.heap = s.heap) (h2 : s'.gens = s.gens) (h3 : s'.os = s.os) : Inv X pins σ H s' := by
  obtain ⟨h, g, d, tk, os⟩ := s'
  dsimp only at h1 h2 h3
  subst h1 h2 h3
  exact ⟨I.ok, I.os, I.bare, I.base, I.loc, I.cell, I.free, I.freeC, I.pin, I.hok, I.len⟩
theorem setO_ok {P : Program} {w : World} {H : Hp} {h : Heap} {p : Addr} {ks : List Int} (x : SetP (ledOf w) h p ks) : ObjOk P w H h p (SetO w p ks) :=
  ⟨x, let ⟨o, _, _, _, e, _⟩ := x; ⟨o, e⟩, fun h1 h2 y k => SetP.keep y fun o e => k o e⟩
/-- set(xs) of ints -/
theorem cr_set (hc : X.calm = true) : CallR X (.type "set") (fun vs H Q => ∃ (a : Addr) (ns : List Int), vs = [V.ref a] ∧ SqL X.K H a (ns.map V.int) ∧ ns.length < 4000 ∧ ∀ p, H p = none → Q (.ref p) (upd H p (SetO X.w p (uniq ns)))) := by
  intro pins s σ H vs us Q I r h
  obtain ⟨a, ns, rfl, hs, hz, q⟩ := h
  obtain ⟨its, rv, hl, _⟩ := I.list hs
  rw [Vals.ref1 r]
  refine call_set_ints (I.ok.hd hc) hl.isList (by simpa using rv.ints) (by unfold scanBound; omega) fun h' tk hS k => ?_
  exact ⟨.ref _, _, I.laid (t' := tk) k (Nat.le_refl _) (setO_ok hS), rfl, q _ (I.hok.fresh (Nat.le_refl _))⟩
/-- sorted(s), s a set of ints -/
theorem cr_sortedSet (hc : X.calm = true) : CallR X (.builtin "sorted") (fun vs H Q => ∃ (a : Addr) (ks : List Int), vs = [V.ref a] ∧ H a = some (SetO X.w a ks) ∧ ks.length < 64 ∧ ∀ (ns : List Int) (p : Addr), ns.Perm ks → ns.Pairwise (· ≤ ·) → H p = none → Q (.ref p) (upd H p (.lst (ns.map V.int)))) := by
  intro pins s σ H vs us Q I r h
  obtain ⟨a, ks, rfl, hs, hz, q⟩ := h
  rw [Vals.ref1 r]
  obtain ⟨x, _, _⟩ := I.hok a _ hs
  refine sorted_set (I.ok.hd hc) x hz fun s1 D out c ns k g o hD hat hi hp hsrt => ?_
  have J : Inv X pins σ (upd H D (.lst (ns.map V.int))) { s with heap := s1.heap, toks := s1.toks } :=
    I.laid k hD ⟨by rw [List.length_map, hp.length_eq]; exact Nat.le_trans (Nat.le_of_lt hz) (by decide), out, c, vals_of_ints hi, hat⟩
  exact ⟨.ref D, _, inv_same J rfl g o, rfl, q ns D hp hsrt (I.hok.fresh hD)⟩
/-- len(s) -/
theorem cr_lenSet : CallR X (.builtin "len") (fun vs H Q => ∃ (a : Addr) (ks : List Int), vs = [V.ref a] ∧ H a = some (SetO X.w a ks) ∧ Q (.int ks.length) H) := by
  intro pins s σ H vs us Q I r h
  obtain ⟨a, ks, rfl, hs, q⟩ := h
  rw [Vals.ref1 r]
  obtain ⟨x, _, _⟩ := I.hok a _ hs
  obtain ⟨o, es, ep, t, h1, h2, h3, h4, h5, h6, h7, _⟩ := x
  have hz : es.size = ks.length := by rw [← h5.length_eq, List.length_map, Array.length_toList]
  have hb : es.size < 4096 := h6
  refine call_len_set h1 h2 h3 h7 (by omega) ?_
  exact ⟨.int ks.length, H, I.tok _, ⟨_, by rw [hz]⟩, q⟩
end
end Bd

namespace Bd
open PySem PySem.Spec
def bst : Option Int → Int → Option Int
  | none, n => some n
  | some m, n => if m < n then some n else some m
def maxOpt (ns : List Int) : Option Int := ns.foldl bst none
/-- what the loop keeps of the best so far -/
def BestIs (b : Option Int) (acc : Array Value) : Prop := (b = none ∧ acc = #[]) ∨ ∃ m t, b = some m ∧ acc = #[.int m t, .int m t]
def BestVal (dv : Value) (b : Option Int) (v : Value) : Prop := (b = none ∧ v = dv) ∨ ∃ m t, b = some m ∧ v = .int m t
section
variable {prog : Program} {w : World} {A : Around} {R : Result → Shared → Prop} {I : Addr} {fp wr : List Addr} {G : Array GenState → Array GenState → Prop} {P : Nat → Value → Prop} {St : Nat → Shared → Prop}
theorem gt_ints {s : Shared} {E : Value → Shared → Prop} {Q : Value → Shared → Prop} {x y : Int} {t u : Tok} (h : Q (.bool (decide (x > y))) s) : wpAny (model prog w) A (richCompare .Gt (.int x t) (.int y u)) Q E s :=
  richCompare_gives (op := .Gt) (typeIs_int s _ t) (typeIs_int s _ u) PySem.F.slot_int_gt PySem.F.entry_int_gt (PySem.F.args_int_gt_2 _ _) (gives_int_gt _ _ t u) (fun x => nomatch x) h
theorem maxd_loop {ns : List Int} {dv : Value} (W : WalksS prog w A.in1 I fp wr G ns.length P St) (S : Addr) (hSf : S ∉ fp) (hv : ∀ i v, P i v → ∃ t, v = .int (ns.getD i 0) t) :
    ∀ (k i : Nat) (s : Shared) (acc : Array Value) (c : Nat) (b : Option Int), ns.length - i = k → i ≤ ns.length → St i s → BestIs b acc → s.heap.get? S = some { cls := .type "list", dict := none, data := .seq acc c, slots := #[] } →
      (∀ v s', BestVal dv ((ns.drop i).foldl bst b) v → Moved (S :: wr) G s s' → R (.ok (.ret v)) s') → codeAny (model prog w) A (.builtin "max.loop" ⟨[.ref I, .none, .ref S], [("default", dv)]⟩) R s := by
  have nSw : S ∉ wr := fun h => hSf (W.sub _ h)
  have sub : ∀ c ∈ wr, c ∈ S :: wr := fun c hc => List.mem_cons_of_mem _ hc
  have name : (toString "max" ++ toString ".loop" : String) = "max.loop" := by decide
  have notS : ∀ {c : Addr}, c ∉ S :: wr → S ≠ c := fun hc h => hc (by rw [h]; exact List.mem_cons_self)
  intro k
  induction k with
  | zero =>
    intro i s acc c b hk hi st hb hS hR
    have e : i = ns.length := by omega
    subst e
    rw [List.drop_length] at hR
    refine codeAny_builtin PySem.F.entry_max_loop ?_
    rw [Around.under_plainId PySem.F.plain_max_loop _]; show wpAny _ A.in1 (seqItems? (.ref S) >>= _) _ _ s
    refine wpAny_bind (wpAny_seqItems hS rfl ?_); show wpAny _ A.in1 (tryCatch (pyNext (.ref I)) _ >>= _) _ _ s
    refine wpAny_bind (wpAny_tryCatch (W.done s _ _ st fun s' hm => ?_))
    have hS' := hm.heap S _ nSw hS
    rcases hb with ⟨rfl, rfl⟩ | ⟨m, t, rfl, rfl⟩
    · show wpAny _ A.in1 (rule _ >>= fun _ => ret dv) _ _ _
      refine wpAny_bind (wpAny_rule (wpAny_pure ?_))
      exact hR dv s' (.inl ⟨rfl, rfl⟩) (hm.mono sub)
    · show wpAny _ A.in1 (updateSeq S (fun _ => #[]) >>= _) _ _ _
      refine wpAny_bind (wpAny_updateSeq hS' rfl (wpAny_bind (wpAny_letGo (wpAny_pure ?_))))
      exact hR _ _ (.inr ⟨m, t, rfl, rfl⟩) ((hm.mono sub).then_heap (tk := s'.toks) (Nat.le_refl _) fun c o hc e => (Heap.get?_update_other _ _ (notS hc)).trans e)
  | succ k ih =>
    intro i s acc c b hk hi st hb hS hR
    have lt : i < ns.length := by omega
    have hd : ns.drop i = ns.getD i 0 :: ns.drop (i + 1) := by
      rw [List.drop_eq_getElem_cons lt]; simp [lt]
    rw [hd, List.foldl_cons] at hR
    refine codeAny_builtin PySem.F.entry_max_loop ?_
    rw [Around.under_plainId PySem.F.plain_max_loop _]; show wpAny _ A.in1 (seqItems? (.ref S) >>= _) _ _ s
    refine wpAny_bind (wpAny_seqItems hS rfl ?_); show wpAny _ A.in1 (tryCatch (pyNext (.ref I)) _ >>= _) _ _ s
    refine wpAny_bind (wpAny_tryCatch (W.item i s _ _ lt st fun v s' hP st' hm => ?_))
    obtain ⟨tv, rfl⟩ := hv i v hP
    generalize ns.getD i 0 = n at hR ⊢
    have hS' := hm.heap S _ nSw hS
    have frame : ∀ (f : Array Value → Array Value), St (i + 1) { s' with heap := s'.heap.update S (Obj.mapSeq f) } := fun f => W.frame _ s' _ s'.toks st' (Nat.le_refl _) fun c hc o e => (Heap.get?_update_other _ _ (fun h : S = c => hSf (by rw [h]; exact hc))).trans e
    have moved : ∀ (f : Array Value → Array Value) (s'' : Shared), Moved (S :: wr) G { s' with heap := s'.heap.update S (Obj.mapSeq f) } s'' → Moved (S :: wr) G s s'' := fun f s'' hm'' =>
      Moved.trans W.gtrans ((hm.mono sub).then_heap (tk := s'.toks) (Nat.le_refl _) fun c o hc e => (Heap.get?_update_other _ _ (notS hc)).trans e) hm''
    rcases hb with ⟨rfl, rfl⟩ | ⟨m, t, rfl, rfl⟩
    · show wpAny _ A.in1 (updateSeq S (fun _ => #[Value.int n tv, Value.int n tv]) >>= _) _ _ _
      refine wpAny_bind (wpAny_updateSeq hS' rfl ?_)
      rw [name]
      exact wpAny_pure ⟨plainId_quiet PySem.F.plain_max_loop _, ih (i + 1) _ _ _ (some n) (by omega) lt (frame _) (.inr ⟨n, tv, rfl, rfl⟩) (Heap.get?_update_self _ hS' rfl) fun v s'' hq hm'' => hR v s'' hq (moved _ s'' hm'')⟩
    · show wpAny _ A.in1 (tryCatch (holding [Value.int n tv, Value.int n tv] (richCompare .Gt (Value.int n tv) (Value.int m t) >>= _)) _ >>= _) _ _ _
      refine wpAny_bind (wpAny_tryCatch (wpAny_holding (wpAny_bind (gt_ints (wpAny_bind (wpAny_holding (wpAny_truthy_bool (wpAny_bind (wpAny_letGo (wpAny_pure ?_))))))))))
      by_cases hc : m < n
      · rw [show decide (n > m) = true from decide_eq_true hc]
        simp only [if_true]
        refine wpAny_bind (wpAny_updateSeq hS' rfl (wpAny_bind (wpAny_letGo ?_)))
        rw [name]
        refine wpAny_pure ⟨plainId_quiet PySem.F.plain_max_loop _, ih (i + 1) _ _ _ (some n) (by omega) lt (frame _) (.inr ⟨n, tv, rfl, rfl⟩) (Heap.get?_update_self _ hS' rfl) fun v s'' hq hm'' => hR v s'' ?_ (moved _ s'' hm'')⟩
        rw [show bst (some m) n = some n from if_pos hc]; exact hq
      · rw [show decide (n > m) = false from decide_eq_false hc]
        simp only [Bool.false_eq_true, if_false]
        refine wpAny_bind (wpAny_letGo ?_)
        rw [name]
        refine wpAny_pure ⟨plainId_quiet PySem.F.plain_max_loop _, ih (i + 1) _ _ c (some m) (by omega) lt st' (.inr ⟨m, t, rfl, rfl⟩) hS' fun v s'' hq hm'' => hR v s'' ?_ (Moved.trans W.gtrans (hm.mono sub) hm'')⟩
        rw [show bst (some m) n = some m from if_neg hc]; exact hq
end
end Bd

namespace Bd
open PySem PySem.Spec
section
variable {prog : Program} {w : World} {A : Around} {E : Value → Shared → Prop} {s : Shared}
theorem args_maxd (a d : Value) : argsOk "max" ⟨[a], [("default", d)]⟩ := by unfold argsOk; kernel_rfl
theorem call_maxd {l : Addr} {items : Array Value} {ns : List Int} {dv : Value} {Q : Value → Shared → Prop} (hh : A.handled = none) (hl : s.heap.IsList l items) (hi : PyProof.Rows.IntsAre items.toList ns)
    (h : ∀ v (h' : Heap) (tk : Nat), BestVal dv (maxOpt ns) v → (∀ c o, s.heap.get? c = some o → h'.get? c = some o) → Q v { s with heap := h', toks := tk }) :
    wpAny (model prog w) A (call (.builtin "max") [.ref l] [("default", dv)]) Q E s := by
  have hsz : items.size = ns.length := by rw [← Array.length_toList]; exact hi.length
  have name : (toString "max" ++ toString ".loop" : String) = "max.loop" := by decide
  refine wpAny_call (codeAny_call_builtin PySem.F.plain_max PySem.F.entry_max ?_)
  simp only [checkBuiltinCall, PySem.F.kind_max]
  have key : wpAny (model prog w) A.in1 (Builtin.«max» ⟨[.ref l], [("default", dv)]⟩) (fun fin s' => match fin with
      | .done f => (match (Except.ok f : Result) with | .ok (.ret v) => Q v s' | .ok _ => False | .error e => E e s')
      | .again c' => c'.quiet = true ∧ codeAny (model prog w) A c' (fun r s' => match r with | .ok (.ret v) => Q v s' | .ok _ => False | .error e => E e s') s') E s := by
    show wpAny _ A.in1 (Builtin.Builtins.bindParams "max" ["key", "default"] 0 ⟨[], [("default", dv)]⟩ >>= _) _ _ s
    refine wpAny_bind (wpAny_of_eq (show Builtin.Builtins.bindParams "max" ["key", "default"] 0 ⟨[], [("default", dv)]⟩ = pure [none, some dv] from rfl) (wpAny_bind (wpAny_pure ?_)))
    refine wpAny_bind (wpAny_pyIter_list hl ?_)
    refine wpAny_bind (wpAny_newObj_type ?_)
    rw [name]
    have lt : l < s.heap.objs.size := let ⟨o, e, _⟩ := hl; Heap.lt_size e
    have W := (Walks.list (prog := prog) (w := w) (A := A.in1) hh s.heap.objs.size l (Nat.ne_of_lt lt) items).toS
    rw [hsz] at W
    have nf : (s.heap.push { cls := .type "list_iterator", data := .fields #[.ref l, .int 0 0] }).objs.size ∉ [s.heap.objs.size, l] := by
      rw [Heap.size_push]
      simp only [List.mem_cons, List.not_mem_nil, or_false, not_or]
      exact ⟨Nat.ne_of_gt (Nat.lt_succ_self _), Nat.ne_of_gt (Nat.lt_succ_of_lt lt)⟩
    refine wpAny_pure ⟨plainId_quiet PySem.F.plain_max_loop _, maxd_loop W _ nf (fun i v hv => PyProof.Rows.IntsAre.int_at hi i v (by rw [Array.getElem?_toList]; exact hv)) _ 0 _ #[] 0 none rfl (Nat.zero_le _)
      ⟨⟨_, Heap.get?_push_of_some _ (Heap.get?_push_size _ rfl), rfl, rfl⟩, (hl.push _).push _⟩ (.inl ⟨rfl, rfl⟩) (Heap.get?_push_size _ rfl) fun v s' hq hm => ?_⟩
    obtain ⟨h', g', d', tk', os'⟩ := s'
    obtain rfl : g' = s.gens := hm.gens
    obtain rfl : d' = s.drawn := hm.drawn
    obtain rfl : os' = s.os := hm.os
    refine h v h' tk' hq fun c o e => ?_
    have lc := Heap.lt_size e
    refine hm.heap c o ?_ (Heap.get?_push_of_some _ (Heap.get?_push_of_some _ e))
    rw [Heap.size_push]
    simp only [List.mem_cons, List.not_mem_nil, or_false, not_or]
    exact ⟨Nat.ne_of_lt (Nat.lt_succ_of_lt lc), Nat.ne_of_lt lc⟩
  have ha := args_maxd (.ref l) dv
  cases hsig : Manifest.signature? "max" with
  | none => exact wpAny_pure key
  | some sig =>
    simp only [argsOk, hsig] at ha
    have h2 : Bind.checkArgs "max" sig ⟨[.ref l], [("default", dv)]⟩ = pure () := ha
    show wpAny _ A.in1 (Bind.checkArgs "max" sig ⟨[.ref l], [("default", dv)]⟩) _ _ s
    rw [h2]; exact wpAny_pure key
end
end Bd
namespace Bd
open PySem L2
section
variable {X : Cx}
/-- max(xs, default=d): ints -/
def tMaxD (K : PySem.W.Frag) (ta td : TE) : TE := fun σ H Q => ta σ H fun x H1 => td σ H1 fun d H2 => ∃ (a : Addr) (ns : List Int), x = .ref a ∧ SqL K H2 a (ns.map V.int) ∧ Q (match maxOpt ns with | none => d | some m => .int m) H2
def maxEnd (K : PySem.W.Frag) (v : V) (Q : VK) : List V → Hp → Prop := fun zs H2 => match zs with
  | [d] => ∃ (a : Addr) (ns : List Int), v = .ref a ∧ SqL K H2 a (ns.map V.int) ∧ Q (match maxOpt ns with | none => d | some m => .int m) H2
  | _ => False
def maxCont (K : PySem.W.Frag) (td : TE) (σ : St) (Q : VK) : List V → Hp → Prop := fun vs H1 => match vs with
  | [v] => tCons td tNil σ H1 (maxEnd K v Q)
  | _ => False
theorem pe_maxd {e ed : Expr} {p pos kp : Pos} {ta td : TE} (hm : X.mg "max" = none) (hg : Gl X "max") (hc : X.calm = true) (ha : PE X e ta) (hd : PE X ed td) (he : starEach [e] X.env = (false, eval e X.env) :: starEach [] X.env := by rfl) :
    PE X (.Call (.Name "max" p) [e] [⟨some "default", ed, kp⟩] pos) (tMaxD X.K ta td) := by
  intro pins s σ H Q I h
  refine wpAny_Call_Name_kw (ld_blt (u := .builtin "max") I hg hm (by decide +kernel) ?_)
  refine PyProof.Rows.callWith_kw (id := "max") (e := e) (rest := []) (thn (pa_cons ha pa_nil he pos pins s σ H (maxCont X.K td σ Q) I h) fun us s1 ⟨vs, H1, I1, r1, q1⟩ => ?_) (by rw [he]; rfl) (by rw [he]; rfl)
  match vs, r1, q1 with
  | [v], .cons rv .nil, q1 =>
    refine thn (pk_cons hd pk_nil pos pins s1 σ H1 (maxEnd X.K v Q) I1 q1) fun ws s2 ⟨zs, H2, I2, r2, q2⟩ => ?_
    match zs, r2, q2 with
    | [d], .cons rd .nil, ⟨a, ns, ev, hs, q⟩ =>
      subst ev
      cases rv
      obtain ⟨its, rvs, hl, _⟩ := I2.list hs
      refine call_maxd (I2.ok.hd hc) hl.isList (by simpa using rvs.ints) fun v h' tk hb k => ?_
      rcases hb with ⟨e1, rfl⟩ | ⟨m, t, e1, rfl⟩
      · rw [e1] at q
        exact ⟨d, H2, I2.kept k, rd, q⟩
      · rw [e1] at q
        exact ⟨.int m, H2, I2.kept k, ⟨t, rfl⟩, q⟩
end
end Bd

namespace L2
open PySem
/-! ### data that is read in a heap -/
theorem same_sqT {K : PySem.W.Frag} {H H' : Hp} {a : Addr} {xs : List V} (e : Same H H') (h : SqT K H a xs) : SqT K H' a xs := by
  rcases h with (h | ⟨o, h⟩) | h
  · exact .inl (.inl (e _ _ h))
  · exact .inl (.inr ⟨o, e _ _ h⟩)
  · exact .inr h
mutual
theorem dp_mono {K : PySem.W.Frag} {H H' : Hp} (e : Same H H') : ∀ {v : V} {d : PyData}, Dp K H v d → Dp K H' v d
  | _, _, .non => .non
  | _, _, .bl b => .bl b
  | _, _, .int i => .int i
  | _, _, .str x => .str x
  | _, _, .lst h ha => .lst (e.seq h) (dpAll_mono e ha)
  | _, _, .tup h ha => .tup (same_sqT e h) (dpAll_mono e ha)
theorem dpAll_mono {K : PySem.W.Frag} {H H' : Hp} (e : Same H H') : ∀ {vs : List V} {ds : List PyData}, DpAll K H vs ds → DpAll K H' vs ds
  | _, _, .nil => .nil
  | _, _, .cons h ha => .cons (dp_mono e h) (dpAll_mono e ha)
end
theorem DpAll.length {K : PySem.W.Frag} {H : Hp} : ∀ {vs : List V} {ds : List PyData}, DpAll K H vs ds → vs.length = ds.length
  | _, _, .nil => rfl
  | _, _, .cons _ h => by rw [List.length_cons, List.length_cons, DpAll.length h]
theorem DpAll.get {K : PySem.W.Frag} {H : Hp} : ∀ {vs : List V} {ds : List PyData} {i : Nat} {v : V}, DpAll K H vs ds → vs[i]? = some v → ∃ d, ds[i]? = some d ∧ Dp K H v d
  | _, _, _, _, .nil, e => by simp at e
  | _, _, 0, _, .cons h _, e => by simp at e; subst e; exact ⟨_, rfl, h⟩
  | _, _, i + 1, v, .cons _ t, e => by
    obtain ⟨d, h1, h2⟩ := DpAll.get (i := i) (v := v) t (by simpa using e)
    exact ⟨d, by simpa using h1, h2⟩
theorem DpAll.get' {K : PySem.W.Frag} {H : Hp} : ∀ {vs : List V} {ds : List PyData} {i : Nat} {d : PyData}, DpAll K H vs ds → ds[i]? = some d → ∃ v, vs[i]? = some v ∧ Dp K H v d
  | _, _, _, _, .nil, e => by simp at e
  | _, _, 0, _, .cons h _, e => by simp at e; subst e; exact ⟨_, rfl, h⟩
  | _, _, i + 1, v, .cons _ t, e => by
    obtain ⟨d, h1, h2⟩ := DpAll.get' (i := i) (d := v) t (by simpa using e)
    exact ⟨d, by simpa using h1, h2⟩
theorem DpAll.append {K : PySem.W.Frag} {H : Hp} : ∀ {vs ws : List V} {ds es : List PyData}, DpAll K H vs ds → DpAll K H ws es → DpAll K H (vs ++ ws) (ds ++ es)
  | _, _, _, _, .nil, h => h
  | _, _, _, _, .cons a b, h => .cons a (DpAll.append b h)
theorem DpAll.snoc {K : PySem.W.Frag} {H : Hp} {vs : List V} {ds : List PyData} {v : V} {d : PyData} (h : DpAll K H vs ds) (k : Dp K H v d) : DpAll K H (vs ++ [v]) (ds ++ [d]) := h.append (.cons k .nil)
theorem DpAll.take {K : PySem.W.Frag} {H : Hp} : ∀ {vs : List V} {ds : List PyData} (n : Nat), DpAll K H vs ds → DpAll K H (vs.take n) (ds.take n)
  | _, _, 0, _ => .nil
  | _, _, _ + 1, .nil => .nil
  | _, _, n + 1, .cons r t => .cons r (DpAll.take n t)
theorem DpAll.drop {K : PySem.W.Frag} {H : Hp} : ∀ {vs : List V} {ds : List PyData} (n : Nat), DpAll K H vs ds → DpAll K H (vs.drop n) (ds.drop n)
  | _, _, 0, r => r
  | _, _, _ + 1, .nil => .nil
  | _, _, n + 1, .cons _ t => DpAll.drop n t
theorem DpAll.set {K : PySem.W.Frag} {H : Hp} {v : V} {d : PyData} (k : Dp K H v d) : ∀ {vs : List V} {ds : List PyData} (i : Nat), DpAll K H vs ds → DpAll K H (vs.set i v) (ds.set i d)
  | _, _, _, .nil => .nil
  | _, _, 0, .cons _ t => .cons k t
  | _, _, i + 1, .cons q t => .cons q (DpAll.set k i t)
theorem DpAll.ints {K : PySem.W.Frag} {H : Hp} : ∀ {vs : List V} {ns : List Int}, DpAll K H vs (ns.map PyData.int) → vs = ns.map V.int
  | _, [], .nil => rfl
  | _, n :: ns, .cons h t => by cases h; rw [DpAll.ints t]; rfl
theorem DpAll.bls {K : PySem.W.Frag} {H : Hp} : ∀ {vs : List V} {ns : List Bool}, DpAll K H vs (ns.map PyData.bool) → vs = ns.map V.bl
  | _, [], .nil => rfl
  | _, n :: ns, .cons h t => by cases h; rw [DpAll.bls t]; rfl
theorem dpAll_ints {K : PySem.W.Frag} {H : Hp} : ∀ (ns : List Int), DpAll K H (ns.map V.int) (ns.map PyData.int)
  | [] => .nil
  | n :: ns => .cons (.int n) (dpAll_ints ns)

end L2
namespace Bd
open PySem L2
noncomputable section
theorem big_ex (n : Nat) : ∃ x, x = n := ⟨n, rfl⟩
/-- a bound that no computation looks into -/
def big (n : Nat) : Nat := Classical.choose (big_ex n)
theorem big_eq (n : Nat) : big n = n := Classical.choose_spec (big_ex n)

/-! ### slots -/
inductive Sl where
  | fz (d : PyData) | ow (xs : List PyData)
abbrev En := List (Option Sl)
def Sl.d : Sl → PyData
  | .fz d => d
  | .ow xs => .list xs
def SlV (K : PySem.W.Frag) (F H : Hp) : Sl → V → Prop
  | .fz d, v => Dp K F v d
  | .ow xs, v => ∃ a vs, v = .ref a ∧ F a = none ∧ H a = some (.lst vs) ∧ DpAll K F vs xs
/-- what is read: its root in H, its parts in F -/
def LkV (K : PySem.W.Frag) (F H : Hp) (v : V) (d : PyData) : Prop := Dp K F v d ∨ ∃ a vs xs, v = .ref a ∧ d = .list xs ∧ F a = none ∧ H a = some (.lst vs) ∧ DpAll K F vs xs
/-- F the part that stays as it is, H all; the others keep what they own -/
structure Sub (F H F' H' : Hp) : Prop where
  f : Same F F'
  h : Same H H'
  fh : Same F' H'
  o : ∀ a o, H a = some o → F a = none → F' a = none
theorem Sub.refl {F H : Hp} (h : Same F H) : Sub F H F H := ⟨.refl _, .refl _, h, fun _ _ _ h => h⟩
theorem Sub.trans {F H F1 H1 F2 H2 : Hp} (a : Sub F H F1 H1) (b : Sub F1 H1 F2 H2) : Sub F H F2 H2 :=
  ⟨a.f.trans b.f, a.h.trans b.h, b.fh, fun c o h1 h2 => b.o c o (a.h c o h1) (a.o c o h1 h2)⟩
theorem same_upd {F H : Hp} {p : Addr} {o : HO} (h : Same F H) : Same (upd F p o) (upd H p o) := fun b u e => by
  by_cases hb : b = p
  · subst hb; rw [upd_same] at e ⊢; exact e
  · rw [upd_ne hb] at e ⊢; exact h b u e
theorem same_new {H : Hp} {p : Addr} {o : HO} (h : H p = none) : Same H (upd H p o) := fun b u e => by
  rw [upd_ne (ne_of_none e h)]; exact e
/-- a new object that stays as it is -/
theorem Sub.newF {F H : Hp} {p : Addr} {o : HO} (h : Same F H) (hp : H p = none) : Sub F H (upd F p o) (upd H p o) :=
  ⟨same_new (h.free hp), same_new hp, same_upd h, fun a u h1 h2 => by rw [upd_ne (ne_of_none h1 hp)]; exact h2⟩
/-- a new object that may yet change -/
theorem Sub.newO {F H : Hp} {p : Addr} {o : HO} (h : Same F H) (hp : H p = none) : Sub F H F (upd H p o) :=
  ⟨.refl _, same_new hp, h.trans (same_new hp), fun a u h1 h2 => h2⟩
theorem SlV.mono {K : PySem.W.Frag} {F H F' H' : Hp} {s : Sl} {v : V} (u : Sub F H F' H') (h : SlV K F H s v) : SlV K F' H' s v := by
  cases s with
  | fz d => exact dp_mono u.f h
  | ow xs =>
    obtain ⟨a, vs, rfl, h1, h2, h3⟩ := h
    exact ⟨a, vs, rfl, u.o a _ h2 h1, u.h _ _ h2, dpAll_mono u.f h3⟩
theorem LkV.mono {K : PySem.W.Frag} {F H F' H' : Hp} {d : PyData} {v : V} (u : Sub F H F' H') (h : LkV K F H v d) : LkV K F' H' v d := by
  rcases h with h | ⟨a, vs, xs, rfl, rfl, h1, h2, h3⟩
  · exact .inl (dp_mono u.f h)
  · exact .inr ⟨a, vs, xs, rfl, rfl, u.o a _ h2 h1, u.h _ _ h2, dpAll_mono u.f h3⟩
theorem SlV.lk {K : PySem.W.Frag} {F H : Hp} {s : Sl} {v : V} (h : SlV K F H s v) : LkV K F H v s.d := by
  cases s with
  | fz d => exact .inl h
  | ow xs =>
    obtain ⟨a, vs, rfl, h1, h2, h3⟩ := h
    exact .inr ⟨a, vs, xs, rfl, rfl, h1, h2, h3⟩
theorem LkV.list {K : PySem.W.Frag} {F H : Hp} {v : V} {xs : List PyData} (fh : Same F H) (h : LkV K F H v (.list xs)) : ∃ a vs, v = .ref a ∧ SqL K H a vs ∧ DpAll K F vs xs := by
  rcases h with h | ⟨a, vs, ys, rfl, e, h1, h2, h3⟩
  · cases h with
    | lst h ha => exact ⟨_, _, rfl, fh.seq h, ha⟩
  · cases e; exact ⟨a, vs, rfl, SqL.of h2, h3⟩
theorem LkV.tuple {K : PySem.W.Frag} {F H : Hp} {v : V} {xs : List PyData} (fh : Same F H) (h : LkV K F H v (.tuple xs)) : ∃ a vs, v = .ref a ∧ SqT K H a vs ∧ DpAll K F vs xs := by
  rcases h with h | ⟨a, vs, ys, rfl, e, h1, h2, h3⟩
  · cases h with
    | tup h ha => exact ⟨_, _, rfl, same_sqT fh h, ha⟩
  · cases e
theorem LkV.dp {K : PySem.W.Frag} {F H : Hp} {v : V} {d : PyData} (fh : Same F H) (h : LkV K F H v d) : Dp K H v d := by
  rcases h with h | ⟨a, vs, ys, rfl, rfl, h1, h2, h3⟩
  · exact dp_mono fh h
  · exact .lst (SqL.of h2) (dpAll_mono fh h3)
theorem LkV.int {K : PySem.W.Frag} {F H : Hp} {v : V} {i : Int} (h : LkV K F H v (.int i)) : v = .int i := by
  rcases h with h | ⟨a, vs, ys, rfl, e, _⟩
  · cases h; rfl
  · cases e
theorem LkV.bl {K : PySem.W.Frag} {F H : Hp} {v : V} {i : Bool} (h : LkV K F H v (.bool i)) : v = .bl i := by
  rcases h with h | ⟨a, vs, ys, rfl, e, _⟩
  · cases h; rfl
  · cases e
theorem LkV.str {K : PySem.W.Frag} {F H : Hp} {v : V} {i : Str} (h : LkV K F H v (.str i)) : v = .str i := by
  rcases h with h | ⟨a, vs, ys, rfl, e, _⟩
  · cases h; rfl
  · cases e
theorem LkV.non {K : PySem.W.Frag} {F H : Hp} {v : V} (h : LkV K F H v .none) : v = .non := by
  rcases h with h | ⟨a, vs, ys, rfl, e, _⟩
  · cases h; rfl
  · cases e

/-- the names' values: H0 the heap at the def's entry -/
structure EnR (K : PySem.W.Frag) (H0 F H : Hp) (Γ : En) (σ : St) : Prop where
  fh : Same F H
  sl : ∀ (i : Nat) (s : Sl), Γ[i]? = some (some s) → ∃ v, σ[i]? = some (some v) ∧ SlV K F H s v
  nw : ∀ (i : Nat) (xs : List PyData) (a : Addr), Γ[i]? = some (some (.ow xs)) → σ[i]? = some (some (.ref a)) → H0 a = none
  ds : ∀ (i j : Nat) (xs ys : List PyData) (a : Addr), Γ[i]? = some (some (.ow xs)) → Γ[j]? = some (some (.ow ys)) → σ[i]? = some (some (.ref a)) → σ[j]? = some (some (.ref a)) → i = j
  ln : Γ.length = σ.length
theorem EnR.mono {K : PySem.W.Frag} {H0 F H F' H' : Hp} {Γ : En} {σ : St} (E : EnR K H0 F H Γ σ) (u : Sub F H F' H') : EnR K H0 F' H' Γ σ :=
  ⟨u.fh, fun i s h => by obtain ⟨v, h1, h2⟩ := E.sl i s h; exact ⟨v, h1, h2.mono u⟩, E.nw, E.ds, E.ln⟩

/-! ### the static side of a context -/
structure Sx where
  P : Program
  w : World
  K : PySem.W.Frag
  mg : Str → Option Value
  base : Heap
  N : List Str
  sc : Scope
  k : Nat
  fn : Str → Bool
structure Sx.Ok (S : Sx) (X : Cx) : Prop where
  P : X.prog = S.P
  w : X.w = S.w
  K : X.K = S.K
  mg : X.mg = S.mg
  base : X.base = S.base
  N : X.N = S.N
  sc : X.env.scope = S.sc
  room : Room S.k X.A
  calm : X.calm = true
  nd : S.N.Nodup
  fn : X.fn = S.fn
  pass : PassesOwn (model X.prog X.w) X.A X.env X.xe
def visB (sc : Scope) (x : Str) : Bool := match sc.names.lookup x with
  | some .local => true
  | some .cell => true
  | some .free => true
  | _ => false
theorem vis_of {sc : Scope} {x : Str} (h : visB sc x = true) : Vis sc x := by
  unfold visB at h
  split at h
  · exact .inl (by assumption)
  · exact .inr (.inl (by assumption))
  · exact .inr (.inr (by assumption))
  · cases h
def locB (sc : Scope) (x : Str) : Bool := match sc.names.lookup x with
  | some .local => true
  | some .cell => true
  | _ => false
theorem loc_of {sc : Scope} {x : Str} (h : locB sc x = true) : Loc sc x := by
  unfold locB at h
  split at h
  · exact .inl (by assumption)
  · exact .inr (by assumption)
  · cases h
def glB (sc : Scope) (x : Str) : Bool := match sc.names.lookup x with
  | some .globalImplicit => true
  | _ => false
theorem Sx.Ok.gl {S : Sx} {X : Cx} (ok : S.Ok X) {x : Str} (h : glB S.sc x = true) : Gl X x := by
  show X.env.scope.names.lookup x = some .globalImplicit
  rw [ok.sc]
  unfold glB at h
  split at h
  · assumption
  · cases h

/-! ### judgements -/
def SlN (K : PySem.W.Frag) (H F' H' : Hp) (s : Sl) (v : V) : Prop := SlV K F' H' s v ∧ ∀ xs a, s = .ow xs → v = .ref a → H a = none
def SE (S : Sx) (e : Expr) (f : En → Option Sl) : Prop :=
  ∃ t : TE, (∀ X, S.Ok X → PE X e t) ∧ ∀ Γ σ H0 F H Q s, EnR S.K H0 F H Γ σ → f Γ = some s → (∀ v F' H', Sub F H F' H' → SlN S.K H F' H' s v → Q v H') → t σ H Q
def SL (S : Sx) (e : Expr) (f : En → Option PyData) : Prop :=
  ∃ t : TE, (∀ X, S.Ok X → PE X e t) ∧ ∀ Γ σ H0 F H Q d, EnR S.K H0 F H Γ σ → f Γ = some d → (∀ v F' H', Sub F H F' H' → LkV S.K F' H' v d → Q v H') → t σ H Q
def SV (S : Sx) (e : Expr) (f : En → Option PyData) : Prop :=
  ∃ t : TE, (∀ X, S.Ok X → PE X e t) ∧ ∀ Γ σ H0 F H Q d, EnR S.K H0 F H Γ σ → f Γ = some d → (∀ v F' H', Sub F H F' H' → Dp S.K F' v d → Q v H') → t σ H Q
def ST (S : Sx) (e : Expr) (f : En → Option Bool) : Prop :=
  ∃ t : TT, (∀ X, S.Ok X → PT X e t) ∧ ∀ Γ σ H0 F H Q b, EnR S.K H0 F H Γ σ → f Γ = some b → (∀ F' H', Sub F H F' H' → Q b H') → t σ H Q
def SW (S : Sx) (e : Expr) (f : En → Option Bool) : Prop :=
  ∃ t : TT, (∀ X, S.Ok X → PW X e t) ∧ ∀ Γ σ H0 F H Q b, EnR S.K H0 F H Γ σ → f Γ = some b → (∀ F' H', Sub F H F' H' → Q b H') → t σ H Q
/-- arguments: each looked at -/
inductive LkA (K : PySem.W.Frag) (F H : Hp) : List V → List PyData → Prop
  | nil : LkA K F H [] []
  | cons {v : V} {vs : List V} {d : PyData} {ds : List PyData} : LkV K F H v d → LkA K F H vs ds → LkA K F H (v :: vs) (d :: ds)
def SAL (S : Sx) (es : List Expr) (f : En → Option (List PyData)) : Prop :=
  ∃ t : TA, (∀ X, S.Ok X → PA X es t) ∧ ∀ Γ σ H0 F H Q ds, EnR S.K H0 F H Γ σ → f Γ = some ds → (∀ vs F' H', Sub F H F' H' → LkA S.K F' H' vs ds → Q vs H') → t σ H Q
def SAV (S : Sx) (es : List Expr) (f : En → Option (List PyData)) : Prop :=
  ∃ t : TA, (∀ X, S.Ok X → PA X es t) ∧ ∀ Γ σ H0 F H Q ds, EnR S.K H0 F H Γ σ → f Γ = some ds → (∀ vs F' H', Sub F H F' H' → DpAll S.K F' vs ds → Q vs H') → t σ H Q

/-! ### from one judgement to another -/
def dOf (f : En → Option Sl) : En → Option PyData := fun Γ => (f Γ).map Sl.d
def fzOf (f : En → Option PyData) : En → Option Sl := fun Γ => (f Γ).map Sl.fz
section
variable {S : Sx} {e : Expr}
theorem SE.l {f : En → Option Sl} (h : SE S e f) : SL S e (dOf f) := by
  obtain ⟨t, h1, h2⟩ := h
  refine ⟨t, h1, fun Γ σ H0 F H Q d E hf k => ?_⟩
  unfold dOf at hf
  cases q : f Γ with
  | none => rw [q] at hf; cases hf
  | some s =>
    rw [q] at hf; cases hf
    exact h2 Γ σ H0 F H Q s E q fun v F' H' u r => k v F' H' u r.1.lk
theorem SE.v {f : En → Option Sl} (h : SE S e f) : SV S e (dOf f) := by
  obtain ⟨t, h1, h2⟩ := h
  refine ⟨t, h1, fun Γ σ H0 F H Q d E hf k => ?_⟩
  unfold dOf at hf
  cases q : f Γ with
  | none => rw [q] at hf; cases hf
  | some s =>
    rw [q] at hf; cases hf
    refine h2 Γ σ H0 F H Q s E q fun v F' H' u r => ?_
    cases s with
    | fz d => exact k v F' H' u r.1
    | ow xs =>
      obtain ⟨⟨a, vs, rfl, r1, r2, r3⟩, r4⟩ := r
      have ha := r4 xs a rfl rfl
      refine k _ (upd F' a (.lst vs)) H' ⟨u.f.trans (same_new r1), u.h, fun b o e => ?_, fun b o e1 e2 => ?_⟩ (.lst (SqL.of upd_same) (dpAll_mono (same_new r1) r3))
      · by_cases hb : b = a
        · subst hb; rw [upd_same] at e; cases e; exact r2
        · rw [upd_ne hb] at e; exact u.fh b o e
      · rw [upd_ne (ne_of_none e1 ha)]; exact u.o b o e1 e2
theorem SV.l {f : En → Option PyData} (h : SV S e f) : SL S e f := by
  obtain ⟨t, h1, h2⟩ := h
  exact ⟨t, h1, fun Γ σ H0 F H Q d E hf k => h2 Γ σ H0 F H Q d E hf fun v F' H' u r => k v F' H' u (.inl r)⟩
theorem SV.en {f : En → Option PyData} (h : SV S e f) : SE S e (fzOf f) := by
  obtain ⟨t, h1, h2⟩ := h
  refine ⟨t, h1, fun Γ σ H0 F H Q s E hf k => ?_⟩
  unfold fzOf at hf
  cases q : f Γ with
  | none => rw [q] at hf; cases hf
  | some d =>
    rw [q] at hf; cases hf
    exact h2 Γ σ H0 F H Q d E q fun v F' H' u r => k v F' H' u ⟨r, fun _ _ z => by cases z⟩

/-! ### names and constants -/
def gSl (i : Nat) : En → Option PyData := fun Γ => match Γ[i]? with
  | some (some s) => some s.d
  | _ => none
def gFz (i : Nat) : En → Option PyData := fun Γ => match Γ[i]? with
  | some (some (.fz d)) => some d
  | _ => none
theorem sl_var (i : Nat) {x : Str} {pos : Pos} (hN : S.N[i]? = some x := by rfl) (hv : visB S.sc x = true := by kernel_rfl) (hd : (x == ("__debug__" : Str)) = false := by decide) (hcd : (x == ("__classdict__" : Str)) = false := by decide) : SL S (.Name x pos) (gSl i) := by
  refine ⟨tVar i, fun X ok => pe_var (by rw [ok.N]; exact hN) (by rw [ok.sc]; exact vis_of hv) hd hcd, fun Γ σ H0 F H Q d E hf k => ?_⟩
  unfold gSl at hf
  split at hf
  · next s q =>
    cases hf
    obtain ⟨v, h1, h2⟩ := E.sl i s q
    exact ⟨v, h1, k v F H (.refl E.fh) h2.lk⟩
  · cases hf
theorem sv_var (i : Nat) {x : Str} {pos : Pos} (hN : S.N[i]? = some x := by rfl) (hv : visB S.sc x = true := by kernel_rfl) (hd : (x == ("__debug__" : Str)) = false := by decide) (hcd : (x == ("__classdict__" : Str)) = false := by decide) : SV S (.Name x pos) (gFz i) := by
  refine ⟨tVar i, fun X ok => pe_var (by rw [ok.N]; exact hN) (by rw [ok.sc]; exact vis_of hv) hd hcd, fun Γ σ H0 F H Q d E hf k => ?_⟩
  unfold gFz at hf
  split at hf
  · next s q =>
    cases hf
    obtain ⟨v, h1, h2⟩ := E.sl i _ q
    exact ⟨v, h1, k v F H (.refl E.fh) h2⟩
  · cases hf
def kC (d : PyData) : En → Option PyData := fun _ => some d
theorem sv_int {i j pos} : SV S (.Constant (.int i) j pos) (kC (.int i)) := ⟨_, fun X _ => pe_int, fun Γ σ H0 F H Q d E hf k => by cases hf; exact k _ F H (.refl E.fh) (.int _)⟩
theorem sv_bl {b j pos} : SV S (.Constant (.bool b) j pos) (kC (.bool b)) := ⟨_, fun X _ => pe_bl, fun Γ σ H0 F H Q d E hf k => by cases hf; exact k _ F H (.refl E.fh) (.bl _)⟩
theorem sv_non {j pos} : SV S (.Constant .none j pos) (kC .none) := ⟨_, fun X _ => pe_non, fun Γ σ H0 F H Q d E hf k => by cases hf; exact k _ F H (.refl E.fh) .non⟩
theorem sv_str {x j pos} : SV S (.Constant (.str x) j pos) (kC (.str x)) := ⟨_, fun X _ => pe_str, fun Γ σ H0 F H Q d E hf k => by cases hf; exact k _ F H (.refl E.fh) (.str _)⟩

/-! ### arguments -/
def aNil : En → Option (List PyData) := fun _ => some []
def aCons (f : En → Option PyData) (g : En → Option (List PyData)) : En → Option (List PyData) := fun Γ => (f Γ).bind fun d => (g Γ).map (d :: ·)
theorem LkA.mono {K : PySem.W.Frag} {F H F' H' : Hp} (u : Sub F H F' H') : ∀ {vs : List V} {ds : List PyData}, LkA K F H vs ds → LkA K F' H' vs ds
  | _, _, .nil => .nil
  | _, _, .cons h t => .cons (h.mono u) (LkA.mono u t)
theorem sal_nil : SAL S [] aNil := ⟨tNil, fun X _ => pa_nil, fun Γ σ H0 F H Q d E hf k => by cases hf; exact k _ F H (.refl E.fh) .nil⟩
theorem sav_nil : SAV S [] aNil := ⟨tNil, fun X _ => pa_nil, fun Γ σ H0 F H Q d E hf k => by cases hf; exact k _ F H (.refl E.fh) .nil⟩
theorem sal_cons {es : List Expr} {f g} (h1 : SL S e f) (h2 : SAL S es g) (hs : ∀ X : Cx, starEach (e :: es) X.env = (false, eval e X.env) :: starEach es X.env := by intro _; rfl) : SAL S (e :: es) (aCons f g) := by
  obtain ⟨t, a1, a2⟩ := h1
  obtain ⟨u, b1, b2⟩ := h2
  refine ⟨tCons t u, fun X ok => pa_cons (a1 X ok) (b1 X ok) (hs X), fun Γ σ H0 F H Q ds E hf k => ?_⟩
  unfold aCons at hf
  cases q : f Γ with
  | none => rw [q] at hf; cases hf
  | some d =>
    rw [q] at hf
    cases q2 : g Γ with
    | none => rw [q2] at hf; cases hf
    | some r =>
      rw [q2] at hf; cases hf
      refine a2 Γ σ H0 F H _ d E q fun v F1 H1 u1 l1 => ?_
      exact b2 Γ σ H0 F1 H1 _ r (E.mono u1) q2 fun vs F2 H2 u2 l2 => k _ F2 H2 (u1.trans u2) (.cons (l1.mono u2) l2)
theorem sav_cons {es : List Expr} {f g} (h1 : SV S e f) (h2 : SAV S es g) (hs : ∀ X : Cx, starEach (e :: es) X.env = (false, eval e X.env) :: starEach es X.env := by intro _; rfl) : SAV S (e :: es) (aCons f g) := by
  obtain ⟨t, a1, a2⟩ := h1
  obtain ⟨u, b1, b2⟩ := h2
  refine ⟨tCons t u, fun X ok => pa_cons (a1 X ok) (b1 X ok) (hs X), fun Γ σ H0 F H Q ds E hf k => ?_⟩
  unfold aCons at hf
  cases q : f Γ with
  | none => rw [q] at hf; cases hf
  | some d =>
    rw [q] at hf
    cases q2 : g Γ with
    | none => rw [q2] at hf; cases hf
    | some r =>
      rw [q2] at hf; cases hf
      refine a2 Γ σ H0 F H _ d E q fun v F1 H1 u1 l1 => ?_
      exact b2 Γ σ H0 F1 H1 _ r (E.mono u1) q2 fun vs F2 H2 u2 l2 => k _ F2 H2 (u1.trans u2) (.cons (dp_mono u2.f l1) l2)

/-! ### displays -/
def cap : Nat := big 65536
theorem cap_eq : cap = 65536 := big_eq _
theorem cap_le {n : Nat} (h : n ≤ cap) : n ≤ sizeLine := Nat.le_trans h (by rw [cap_eq]; decide)
theorem cap_lt {n : Nat} (h : n < cap) : n < sizeLine := Nat.lt_of_lt_of_le h (by rw [cap_eq]; decide)
def dLst (f : En → Option (List PyData)) : En → Option Sl := fun Γ => (f Γ).bind fun ds => if ds.length ≤ cap then some (.ow ds) else none
def dTup (f : En → Option (List PyData)) : En → Option Sl := fun Γ => (f Γ).bind fun ds => if ds.length ≤ cap then some (.fz (.tuple ds)) else none
/-- a new list is laid -/
theorem SlN.lst {K : PySem.W.Frag} {F H : Hp} {p : Addr} {vs : List V} {xs : List PyData} (fh : Same F H) (hp : H p = none) (h : DpAll K F vs xs) : SlN K H F (upd H p (.lst vs)) (.ow xs) (.ref p) :=
  ⟨⟨p, vs, rfl, fh.free hp, upd_same, h⟩, fun _ a _ e => by cases e; exact hp⟩
theorem SlN.weak {K : PySem.W.Frag} {H H1 F' H' : Hp} {s : Sl} {v : V} (e : Same H H1) (h : SlN K H1 F' H' s v) : SlN K H F' H' s v := ⟨h.1, fun xs a h1 h2 => e.free (h.2 xs a h1 h2)⟩
theorem se_lst {es : List Expr} {pos f} (h : SAV S es f) : SE S (.List es pos) (dLst f) := by
  obtain ⟨t, a1, a2⟩ := h
  refine ⟨tLst t, fun X ok => pe_lst (a1 X ok), fun Γ σ H0 F H Q s E hf k => ?_⟩
  unfold dLst at hf
  cases q : f Γ with
  | none => rw [q] at hf; cases hf
  | some ds =>
    rw [q] at hf
    simp only [Option.bind_some] at hf
    split at hf
    · next hl =>
      cases hf
      refine a2 Γ σ H0 F H _ ds E q fun vs F1 H1 u1 l1 => ⟨by rw [l1.length]; exact cap_le hl, fun p hp => ?_⟩
      exact k _ F1 _ (u1.trans (.newO u1.fh hp)) ((SlN.lst u1.fh hp l1).weak u1.h)
    · cases hf
theorem se_tup {es : List Expr} {j pos f} (h : SAV S es f) : SE S (.Tuple es j pos) (dTup f) := by
  obtain ⟨t, a1, a2⟩ := h
  refine ⟨tTup t, fun X ok => pe_tup (a1 X ok), fun Γ σ H0 F H Q s E hf k => ?_⟩
  unfold dTup at hf
  cases q : f Γ with
  | none => rw [q] at hf; cases hf
  | some ds =>
    rw [q] at hf
    simp only [Option.bind_some] at hf
    split at hf
    · next hl =>
      cases hf
      refine a2 Γ σ H0 F H _ ds E q fun vs F1 H1 u1 l1 => ⟨by rw [l1.length]; exact cap_le hl, fun p hp => ?_⟩
      exact k _ (upd F1 p (.tup vs)) _ (u1.trans (.newF u1.fh hp)) ⟨.tup (SqT.of upd_same) (dpAll_mono (same_new (u1.fh.free hp)) l1), fun _ _ z => by cases z⟩
    · cases hf

/-! ### operators -/
/-- what an operation of two values gives -/
def OpS (S : Sx) (f : Value → Value → Sem Value) (p : PyData → PyData → Option Sl) : Prop :=
  ∃ r : R2, (∀ X, S.Ok X → OpR X f r) ∧ ∀ F H x y d e Q s, Same F H → LkV S.K F H x d → LkV S.K F H y e → p d e = some s → (∀ v F' H', Sub F H F' H' → SlN S.K H F' H' s v → Q v H') → r x y H Q
def b2 (p : PyData → PyData → Option Sl) (f g : En → Option PyData) : En → Option Sl := fun Γ => (f Γ).bind fun x => (g Γ).bind fun y => p x y
theorem op2 {f : Value → Value → Sem Value} {a b : Expr} {p fa fb} (ho : OpS S f p) (ha : SL S a fa) (hb : SL S b fb) : ∃ (r : R2) (ta tb : TE), (∀ X, S.Ok X → OpR X f r) ∧ (∀ X, S.Ok X → PE X a ta) ∧ (∀ X, S.Ok X → PE X b tb) ∧
    ∀ Γ σ H0 F H Q s, EnR S.K H0 F H Γ σ → b2 p fa fb Γ = some s → (∀ v F' H', Sub F H F' H' → SlN S.K H F' H' s v → Q v H') → tOp r ta tb σ H Q := by
  obtain ⟨r, o1, o2⟩ := ho
  obtain ⟨ta, a1, a2⟩ := ha
  obtain ⟨tb, b1, b2⟩ := hb
  refine ⟨r, ta, tb, o1, a1, b1, fun Γ σ H0 F H Q s E hf k => ?_⟩
  unfold Bd.b2 at hf
  cases q : fa Γ with
  | none => rw [q] at hf; cases hf
  | some d =>
    rw [q] at hf
    cases q2 : fb Γ with
    | none => rw [q2] at hf; cases hf
    | some e' =>
      rw [q2] at hf
      refine a2 Γ σ H0 F H _ d E q fun v F1 H1 u1 l1 => ?_
      refine b2 Γ σ H0 F1 H1 _ e' (E.mono u1) q2 fun v2 F2 H2 u2 l2 => ?_
      exact o2 F2 H2 v v2 d e' Q s u2.fh (l1.mono u2) l2 hf fun v3 F3 H3 u3 l3 => k v3 F3 H3 ((u1.trans u2).trans u3) (l3.weak (u1.h.trans u2.h))
theorem se_bin {op : Operator} {a b : Expr} {pos p fa fb} (ho : OpS S (binaryOp op) p) (ha : SL S a fa) (hb : SL S b fb) : SE S (.BinOp a op b pos) (b2 p fa fb) := by
  obtain ⟨r, ta, tb, h1, h2, h3, h4⟩ := op2 ho ha hb
  exact ⟨_, fun X ok => pe_op (h1 X ok) (h2 X ok) (h3 X ok), h4⟩
theorem se_cmp {op : CmpOp} {a b : Expr} {pos p fa fb} (ho : OpS S (compareOp op) p) (ha : SL S a fa) (hb : SL S b fb) (hm : behindInMarks op b = false) : SE S (.Compare a [op] [b] pos) (b2 p fa fb) := by
  obtain ⟨r, ta, tb, h1, h2, h3, h4⟩ := op2 ho ha hb
  exact ⟨_, fun X ok => pe_cmpR (h1 X ok) (h2 X ok) (h3 X ok) hm, h4⟩
def bOf (f : En → Option Sl) : En → Option Bool := fun Γ => match f Γ with
  | some (.fz (.bool b)) => some b
  | _ => none
theorem st_cmp {op : CmpOp} {a b : Expr} {pos p fa fb} (ho : OpS S (compareOp op) p) (ha : SL S a fa) (hb : SL S b fb) (hm : behindInMarks op b = false) : ST S (.Compare a [op] [b] pos) (bOf (b2 p fa fb)) := by
  obtain ⟨r, ta, tb, h1, h2, h3, h4⟩ := op2 ho ha hb
  refine ⟨_, fun X ok => pt_cmpR (h1 X ok) (h2 X ok) (h3 X ok) hm, fun Γ σ H0 F H Q c E hf k => ?_⟩
  unfold bOf at hf
  split at hf
  · next b q =>
    cases hf
    refine h4 Γ σ H0 F H _ _ E q fun v F' H' u l => ?_
    cases l.1
    exact ⟨_, rfl, k F' H' u⟩
  · cases hf
theorem OpS.or {f : Value → Value → Sem Value} {p q : PyData → PyData → Option Sl} (h1 : OpS S f p) (h2 : OpS S f q) : OpS S f (fun x y => (p x y).or (q x y)) := by
  obtain ⟨r1, a1, a2⟩ := h1
  obtain ⟨r2, b1, b2⟩ := h2
  refine ⟨fun x y H Q => r1 x y H Q ∨ r2 x y H Q, fun X ok pins s σ H x y v u Q I rx ry h => h.elim (fun h => a1 X ok pins s σ H x y v u Q I rx ry h) fun h => b1 X ok pins s σ H x y v u Q I rx ry h, fun F H x y d e Q s fh lx ly hp k => ?_⟩
  replace hp : (p d e).or (q d e) = some s := hp
  cases e1 : p d e with
  | some s' => rw [e1] at hp; cases hp; exact .inl (a2 F H x y d e Q s fh lx ly e1 k)
  | none => rw [e1] at hp; exact .inr (b2 F H x y d e Q s fh lx ly hp k)
def pI (g : Int → Int → PyData) (C : Int → Int → Bool) : PyData → PyData → Option Sl
  | .int i, .int j => if C i j = true then some (.fz (g i j)) else none
  | _, _ => none
theorem os_rI {f : Value → Value → Sem Value} {C : Int → Int → Prop} {g : Int → Int → V} {g' : Int → Int → PyData} {B : Int → Int → Bool} (h : ∀ X, S.Ok X → OpR X f (rI C g)) (hB : ∀ i j, B i j = true → C i j) (hg : ∀ F i j, Dp S.K F (g i j) (g' i j)) : OpS S f (pI g' B) := by
  refine ⟨_, h, fun F H x y d e Q s fh lx ly hp k => ?_⟩
  unfold pI at hp
  split at hp
  · rw [lx.int, ly.int]
    split at hp
    · next hc =>
      cases hp
      exact ⟨_, _, rfl, rfl, hB _ _ hc, k _ F H (.refl fh) ⟨hg _ _ _, fun _ _ z => by cases z⟩⟩
    · cases hp
  · cases hp
theorem os_rI0 {f : Value → Value → Sem Value} {g : Int → Int → V} {g' : Int → Int → PyData} (h : ∀ X, S.Ok X → OpR X f (rI0 g)) (hg : ∀ F i j, Dp S.K F (g i j) (g' i j)) : OpS S f (pI g' fun _ _ => true) := by
  refine ⟨_, h, fun F H x y d e Q s fh lx ly hp k => ?_⟩
  unfold pI at hp
  split at hp
  · rw [lx.int, ly.int]
    cases hp
    exact ⟨_, _, rfl, rfl, k _ F H (.refl fh) ⟨hg _ _ _, fun _ _ z => by cases z⟩⟩
  · cases hp
def pCat : PyData → PyData → Option Sl
  | .list xs, .list ys => if xs.length + ys.length ≤ cap then some (.ow (xs ++ ys)) else none
  | _, _ => none
end
end
end Bd

namespace Bd
open PySem L2
noncomputable section
section
variable {S : Sx}
/-! ### the operators -/
theorem os_add_i : OpS S (binaryOp .Add) (pI (fun i j => .int (i + j)) fun _ _ => true) := os_rI0 (fun X _ => op_add) fun _ _ _ => .int _
theorem os_sub : OpS S (binaryOp .Sub) (pI (fun i j => .int (i - j)) fun _ _ => true) := os_rI0 (fun X _ => op_sub) fun _ _ _ => .int _
def mulB (i j : Int) : Bool := (decide (-(big (2 ^ 64) : Int) < i) && decide (i < (big (2 ^ 64) : Int))) || (decide (-(big (2 ^ 64) : Int) < j) && decide (j < (big (2 ^ 64) : Int)))
theorem os_mul : OpS S (binaryOp .Mult) (pI (fun i j => .int (i * j)) mulB) := os_rI (fun X _ => op_mul) (fun i j h => by
  unfold mulB at h
  rw [big_eq] at h
  simp only [Bool.or_eq_true, Bool.and_eq_true, decide_eq_true_eq] at h
  exact h) fun _ _ _ => .int _
def divB (_ j : Int) : Bool := decide (0 < j) && decide (j < (big 1073741824 : Int))
theorem os_div : OpS S (binaryOp .FloorDiv) (pI (fun i j => .int (i / j)) divB) := os_rI (fun X _ => op_fdiv) (fun i j h => by
  unfold divB at h
  rw [big_eq] at h
  simp only [Bool.and_eq_true, decide_eq_true_eq] at h
  exact h) fun _ _ _ => .int _
def modB (_ j : Int) : Bool := decide (0 < j)
theorem os_mod : OpS S (binaryOp .Mod) (pI (fun i j => .int (i % j)) modB) := os_rI (fun X _ => op_mod) (fun i j h => by
  unfold modB at h
  exact of_decide_eq_true h) fun _ _ _ => .int _
def powB (i j : Int) : Bool := decide (0 ≤ j) && decide (j ≤ (big 1000000 : Int)) && decide (i.natAbs < big (2 ^ 64))
theorem os_pow : OpS S (binaryOp .Pow) (pI (fun i j => .int (i ^ j.toNat)) powB) := os_rI (fun X _ => op_pow) (fun i j h => by
  unfold powB at h
  rw [big_eq, big_eq] at h
  simp only [Bool.and_eq_true, decide_eq_true_eq] at h
  exact ⟨h.1.1, h.1.2, h.2⟩) fun _ _ _ => .int _
theorem os_lt : OpS S (compareOp .Lt) (pI (fun i j => .bool (decide (i < j))) fun _ _ => true) := os_rI0 (fun X _ => op_lt) fun _ _ _ => .bl _
theorem os_le : OpS S (compareOp .LtE) (pI (fun i j => .bool (decide (i ≤ j))) fun _ _ => true) := os_rI0 (fun X _ => op_le) fun _ _ _ => .bl _
theorem os_gt : OpS S (compareOp .Gt) (pI (fun i j => .bool (decide (j < i))) fun _ _ => true) := os_rI0 (fun X _ => op_gt) fun _ _ _ => .bl _
theorem os_ge : OpS S (compareOp .GtE) (pI (fun i j => .bool (decide (j ≤ i))) fun _ _ => true) := os_rI0 (fun X _ => op_ge) fun _ _ _ => .bl _
/-- list + list -/
def rCatS (K : PySem.W.Frag) : R2 := fun x y H Q => ∃ l b xs zs, x = .ref l ∧ y = .ref b ∧ SqL K H l xs ∧ SqL K H b zs ∧ xs.length + zs.length ≤ sizeLine ∧ ∀ p, H p = none → Q (.ref p) (upd H p (.lst (xs ++ zs)))
theorem op_catS {X : Cx} : OpR X (binaryOp .Add) (rCatS X.K) := by
  intro pins s σ H x y v u Q I rx ry h
  obtain ⟨l, b, xs, zs, rfl, rfl, hH, hB, hz, q⟩ := h
  cases rx
  cases ry
  obtain ⟨its, r, ⟨⟨cl, dd, data, sl⟩, n, e, c, d, dt⟩, z⟩ := I.list hH
  obtain ⟨its2, r2, ⟨⟨cl2, dd2, data2, sl2⟩, n2, e2, c2, d2, dt2⟩, z2⟩ := I.list hB
  have l1 := r.length
  have l2 := r2.length
  dsimp only at c d dt c2 d2 dt2
  subst c d dt c2 d2 dt2
  have ea : its.toArray ++ its2.toArray = (its ++ its2).toArray := by simp
  refine PySem.concat_meets ⟨_, e, rfl⟩ ⟨_, e2, rfl⟩ PySem.noFill_list_add PySem.seq_list_add PySem.F.slot_list_add PySem.F.entry_list_add (PySem.F.args_list_add_2 _ _) (PyProof.Rows.list_addW l b its.toArray its2.toArray n n2 _ _ sl sl2 (by simp only [List.size_toArray]; omega)) ⟨e, e2, ?_⟩
  rw [ea]
  exact ⟨.ref _, _, I.lnew (t' := s.toks) (r.append r2) (by rw [List.length_append]; omega), rfl, q _ I.fresh⟩
theorem os_cat : OpS S (binaryOp .Add) pCat := by
  refine ⟨rCatS S.K, fun X ok => ok.K ▸ op_catS, fun F H x y d e Q s fh lx ly hp k => ?_⟩
  unfold pCat at hp
  split at hp
  · split at hp
    · next hz =>
      cases hp
      obtain ⟨a, vs, rfl, q1, q2⟩ := lx.list fh
      obtain ⟨b, us, rfl, q3, q4⟩ := ly.list fh
      refine ⟨a, b, vs, us, rfl, rfl, q1, q3, by rw [q2.length, q4.length]; exact cap_le hz, fun p hp => ?_⟩
      exact k _ F _ (.newO fh hp) (SlN.lst fh hp (q2.append q4))
    · cases hp
  · cases hp
def pAdd (x y : PyData) : Option Sl := (pI (fun i j => .int (i + j)) (fun _ _ => true) x y).or (pCat x y)
theorem os_add : OpS S (binaryOp .Add) pAdd := OpS.or os_add_i os_cat
/-! ### ==, != -/
def pEq (d e : PyData) : Option Sl := if (SeqAt.shaped d && SeqAt.shaped e) = true then some (.fz (.bool (PyData.eqv d e))) else none
def pNe (d e : PyData) : Option Sl := if (SeqAt.shaped d && SeqAt.shaped e) = true then some (.fz (.bool (!PyData.eqv d e))) else none
theorem os_eq : OpS S (compareOp .Eq) pEq := by
  refine ⟨rEqD S.K, fun X ok => ok.K ▸ op_eqD ok.room.units, fun F H x y d e Q s fh lx ly hp k => ?_⟩
  unfold pEq at hp
  split at hp
  · next hz =>
    cases hp
    rw [Bool.and_eq_true] at hz
    exact ⟨d, e, lx.dp fh, ly.dp fh, hz.1, hz.2, k _ F H (.refl fh) ⟨.bl _, fun _ _ z => by cases z⟩⟩
  · cases hp
theorem os_ne : OpS S (compareOp .NotEq) pNe := by
  refine ⟨rNeD S.K, fun X ok => ok.K ▸ op_neD ok.room.units, fun F H x y d e Q s fh lx ly hp k => ?_⟩
  unfold pNe at hp
  split at hp
  · next hz =>
    cases hp
    rw [Bool.and_eq_true] at hz
    exact ⟨d, e, lx.dp fh, ly.dp fh, hz.1, hz.2, k _ F H (.refl fh) ⟨.bl _, fun _ _ z => by cases z⟩⟩
  · cases hp
/-! ### in, not in -/
def flatD : PyData → Bool
  | .none => true
  | .bool _ => true
  | .int _ => true
  | .str _ => true
  | _ => false
def vOf : PyData → V
  | .bool b => .bl b
  | .int i => .int i
  | .str x => .str x
  | _ => .non
theorem Dp.flat {K : PySem.W.Frag} {F : Hp} {v : V} {d : PyData} (h : Dp K F v d) (hf : flatD d = true) : v = vOf d ∧ flatV v = true := by
  cases h <;> first | exact ⟨rfl, rfl⟩ | cases hf
theorem LkV.flat {K : PySem.W.Frag} {F H : Hp} {v : V} {d : PyData} (h : LkV K F H v d) (hf : flatD d = true) : v = vOf d ∧ flatV v = true := by
  rcases h with h | ⟨a, vs, xs, rfl, rfl, _⟩
  · exact Dp.flat h hf
  · cases hf
theorem DpAll.flat {K : PySem.W.Frag} {F : Hp} : ∀ {vs : List V} {ds : List PyData}, DpAll K F vs ds → ds.all flatD = true → vs = ds.map vOf ∧ vs.all flatV = true
  | _, _, .nil, _ => ⟨rfl, rfl⟩
  | _, _, .cons h t, hf => by
    rw [List.all_cons, Bool.and_eq_true] at hf
    obtain ⟨e1, e2⟩ := Dp.flat h hf.1
    obtain ⟨e3, e4⟩ := DpAll.flat t hf.2
    subst e3
    exact ⟨by rw [List.map_cons, ← e1], by rw [List.all_cons, e2, e4]; rfl⟩
def pIn (neg : Bool) (d e : PyData) : Option Sl := match e with
  | .list ds => if (flatD d && ds.all flatD) = true then some (.fz (.bool (if neg then !inV (vOf d) (ds.map vOf) else inV (vOf d) (ds.map vOf)))) else none
  | .tuple ds => if (flatD d && ds.all flatD) = true then some (.fz (.bool (if neg then !inV (vOf d) (ds.map vOf) else inV (vOf d) (ds.map vOf)))) else none
  | _ => none
theorem pIn_ok {neg : Bool} {F H : Hp} {x y : V} {d e : PyData} {Q : VK} {s : Sl} (fh : Same F H) (lx : LkV S.K F H x d) (ly : LkV S.K F H y e) (hp : pIn neg d e = some s) (k : ∀ v F' H', Sub F H F' H' → SlN S.K H F' H' s v → Q v H') : rIn S.K neg x y H Q := by
  unfold pIn at hp
  split at hp
  · split at hp
    · next hz =>
      cases hp
      rw [Bool.and_eq_true] at hz
      obtain ⟨a, vs, rfl, q1, q2⟩ := ly.list fh
      obtain ⟨rfl, f1⟩ := lx.flat hz.1
      obtain ⟨rfl, f2⟩ := DpAll.flat q2 hz.2
      exact ⟨a, _, rfl, .inl q1, f1, f2, k _ F H (.refl fh) ⟨.bl _, fun _ _ z => by cases z⟩⟩
    · cases hp
  · split at hp
    · next hz =>
      cases hp
      rw [Bool.and_eq_true] at hz
      obtain ⟨a, vs, rfl, q1, q2⟩ := ly.tuple fh
      obtain ⟨rfl, f1⟩ := lx.flat hz.1
      obtain ⟨rfl, f2⟩ := DpAll.flat q2 hz.2
      exact ⟨a, _, rfl, .inr q1, f1, f2, k _ F H (.refl fh) ⟨.bl _, fun _ _ z => by cases z⟩⟩
    · cases hp
  · cases hp
theorem os_in : OpS S (compareOp .In) (pIn false) := ⟨rIn S.K false, fun X ok => ok.K ▸ op_in_seq, fun F H x y d e Q s fh lx ly hp k => pIn_ok fh lx ly hp k⟩
theorem os_notin : OpS S (compareOp .NotIn) (pIn true) := ⟨rIn S.K true, fun X ok => ok.K ▸ op_notIn_seq, fun F H x y d e Q s fh lx ly hp k => pIn_ok fh lx ly hp k⟩
/-! ### subscripts -/
def pIx (d e : PyData) : Option Sl := match d, e with
  | .list xs, .int i => (atI xs i).map Sl.fz
  | .tuple xs, .int i => (atI xs i).map Sl.fz
  | _, _ => none
theorem atI_dp {K : PySem.W.Frag} {F : Hp} {vs : List V} {xs : List PyData} {i : Int} {d : PyData} (h : DpAll K F vs xs) (e : atI xs i = some d) : ∃ v, atI vs i = some v ∧ Dp K F v d := by
  unfold atI at e ⊢
  rw [h.length]
  cases q : ixN xs.length i with
  | none => rw [q] at e; cases e
  | some j =>
    rw [q] at e
    simp only [Option.bind_some] at e ⊢
    exact h.get' e
theorem se_ix {a b : Expr} {pos fa fb} (ha : SL S a fa) (hb : SL S b fb) (hs : PlainIx b := by intro _ _; rfl) : SE S (.Subscript a b pos) (b2 pIx fa fb) := by
  obtain ⟨ta, a1, a2⟩ := ha
  obtain ⟨tb, b1, b2⟩ := hb
  refine ⟨tOp (fun x y H Q => rIxL S.K x y H Q ∨ rIxT S.K x y H Q) ta tb, fun X ok => pe_ix (IxR.or (ok.K ▸ ix_list) (ok.K ▸ ix_tup)) (a1 X ok) (b1 X ok) hs, fun Γ σ H0 F H Q s E hf k => ?_⟩
  unfold Bd.b2 at hf
  cases q : fa Γ with
  | none => rw [q] at hf; cases hf
  | some d =>
    rw [q] at hf
    cases q2 : fb Γ with
    | none => rw [q2] at hf; cases hf
    | some e' =>
      rw [q2] at hf
      simp only [Option.bind_some] at hf
      refine a2 Γ σ H0 F H _ d E q fun v F1 H1 u1 l1 => ?_
      refine b2 Γ σ H0 F1 H1 _ e' (E.mono u1) q2 fun v2 F2 H2 u2 l2 => ?_
      have l1 := l1.mono u2
      unfold pIx at hf
      split at hf
      · cases e3 : atI ‹List PyData› ‹Int› with
        | none => rw [e3] at hf; cases hf
        | some z =>
          rw [e3] at hf; cases hf
          obtain ⟨a, vs, rfl, q3, q4⟩ := l1.list u2.fh
          obtain ⟨w, q5, q6⟩ := atI_dp q4 e3
          exact .inl ⟨a, vs, _, w, rfl, l2.int, q3, q5, k w F2 H2 (u1.trans u2) ⟨q6, fun _ _ z => by cases z⟩⟩
      · cases e3 : atI ‹List PyData› ‹Int› with
        | none => rw [e3] at hf; cases hf
        | some z =>
          rw [e3] at hf; cases hf
          obtain ⟨a, vs, rfl, q3, q4⟩ := l1.tuple u2.fh
          obtain ⟨w, q5, q6⟩ := atI_dp q4 e3
          exact .inr ⟨a, vs, _, w, rfl, l2.int, q3, q5, k w F2 H2 (u1.trans u2) ⟨q6, fun _ _ z => by cases z⟩⟩
      · cases hf
/-! ### slices -/
def SO (S : Sx) (o : Option Expr) (f : En → Option (Option Int)) : Prop :=
  ∃ t : TO, (∀ X, S.Ok X → PO X o t) ∧ ∀ Γ σ H0 F H Q i, EnR S.K H0 F H Γ σ → f Γ = some i → (∀ F' H', Sub F H F' H' → Q i H') → t σ H Q
theorem so_none : SO S none (fun _ => some none) := ⟨tNoPart, fun X _ => po_none, fun Γ σ H0 F H Q i E hf k => by cases hf; exact k F H (.refl E.fh)⟩
def oInt (f : En → Option PyData) : En → Option (Option Int) := fun Γ => match f Γ with
  | some (.int i) => some (some i)
  | _ => none
theorem so_some {e : Expr} {f} (h : SL S e f) : SO S (some e) (oInt f) := by
  obtain ⟨t, a1, a2⟩ := h
  refine ⟨tPart t, fun X ok => po_some (a1 X ok), fun Γ σ H0 F H Q i E hf k => ?_⟩
  unfold oInt at hf
  split at hf
  · next j q =>
    cases hf
    refine a2 Γ σ H0 F H _ _ E q fun v F' H' u l => ?_
    exact ⟨j, l.int, k F' H' u⟩
  · cases hf
def cutD (xs : List PyData) (lo hi : Option Int) : List PyData := (xs.drop (HT.sIx xs.length 0 lo)).take (HT.sIx xs.length xs.length hi - HT.sIx xs.length 0 lo)
def dSl (f : En → Option PyData) (g h : En → Option (Option Int)) : En → Option Sl := fun Γ => match f Γ, g Γ, h Γ with
  | some (.list xs), some lo, some hi => some (.ow (cutD xs lo hi))
  | _, _, _ => none
theorem se_slice {e : Expr} {lo hi : Option Expr} {p2 pos : Pos} {f g h} (he : SL S e f) (hl : SO S lo g) (hh : SO S hi h) : SE S (.Subscript e (.Slice lo hi none p2) pos) (dSl f g h) := by
  obtain ⟨t, a1, a2⟩ := he
  obtain ⟨tl, b1, b2⟩ := hl
  obtain ⟨th, c1, c2⟩ := hh
  refine ⟨tSl (rSlL S.K) t tl th, fun X ok => pe_slice (ok.K ▸ sl_list) (a1 X ok) (b1 X ok) (c1 X ok), fun Γ σ H0 F H Q s E hf k => ?_⟩
  unfold dSl at hf
  split at hf
  · next xs lo' hi' q1 q2 q3 =>
    cases hf
    refine a2 Γ σ H0 F H _ _ E q1 fun v F1 H1 u1 l1 => ?_
    refine b2 Γ σ H0 F1 H1 _ _ (E.mono u1) q2 fun F2 H2 u2 => ?_
    refine c2 Γ σ H0 F2 H2 _ _ (E.mono (u1.trans u2)) q3 fun F3 H3 u3 => ?_
    obtain ⟨a, vs, rfl, q4, q5⟩ := (l1.mono (u2.trans u3)).list u3.fh
    refine ⟨a, vs, rfl, q4, fun p hp => ?_⟩
    refine k _ F3 _ (((u1.trans u2).trans u3).trans (.newO u3.fh hp)) ((SlN.lst u3.fh hp ?_).weak ((u1.trans u2).trans u3).h)
    unfold cutV cutD
    rw [q5.length]
    exact (q5.drop _).take _
  · cases hf
/-! ### built-ins -/
def CallS (S : Sx) (f : Value) (p : List PyData → Option Sl) : Prop :=
  ∃ r : List V → Hp → VK → Prop, (∀ X, S.Ok X → CallR X f r) ∧ ∀ F H vs ds Q s, Same F H → LkA S.K F H vs ds → p ds = some s → (∀ v F' H', Sub F H F' H' → SlN S.K H F' H' s v → Q v H') → r vs H Q
theorem CallS.or {f : Value} {p q : List PyData → Option Sl} (h1 : CallS S f p) (h2 : CallS S f q) : CallS S f (fun x => (p x).or (q x)) := by
  obtain ⟨r1, a1, a2⟩ := h1
  obtain ⟨r2, b1, b2⟩ := h2
  refine ⟨fun vs H Q => r1 vs H Q ∨ r2 vs H Q, fun X ok pins s σ H vs us Q I r h => h.elim (fun h => a1 X ok pins s σ H vs us Q I r h) fun h => b1 X ok pins s σ H vs us Q I r h, fun F H vs ds Q s fh l hp k => ?_⟩
  replace hp : (p ds).or (q ds) = some s := hp
  cases e1 : p ds with
  | some s' => rw [e1] at hp; cases hp; exact .inl (a2 F H vs ds Q s fh l e1 k)
  | none => rw [e1] at hp; exact .inr (b2 F H vs ds Q s fh l hp k)
def callD (p : List PyData → Option Sl) (g : En → Option (List PyData)) : En → Option Sl := fun Γ => (g Γ).bind p
theorem se_callB {x : Str} {id : String} {e : Expr} {es : List Expr} {p pos : Pos} {q g} (hc : CallS S (.builtin id) q) (hm : S.mg x = none) (ha : SAL S (e :: es) g) (hg : glB S.sc x = true := by kernel_rfl) (hv : bootBuiltins x = some (.builtin id) := by decide +kernel)
    (hn : x ≠ "__name__" := by decide) (hdb : (x == ("__debug__" : Str)) = false := by decide) (he : ∀ X : Cx, starEach (e :: es) X.env = (false, eval e X.env) :: starEach es X.env := by intro _; rfl) (hpl : ∀ X : Cx, (backTo pos (starEach es X.env)).any (·.1) = false := by intro _; rfl) :
    SE S (.Call (.Name x p) (e :: es) [] pos) (callD q g) := by
  obtain ⟨r, c1, c2⟩ := hc
  obtain ⟨t, a1, a2⟩ := ha
  refine ⟨tCB r t, fun X ok => pe_callB (c1 X ok) (ok.gl hg) (by rw [ok.mg]; exact hm) hv (a1 X ok) hn hdb (he X) (hpl X), fun Γ σ H0 F H Q s E hf k => ?_⟩
  unfold callD at hf
  cases q1 : g Γ with
  | none => rw [q1] at hf; cases hf
  | some ds =>
    rw [q1] at hf
    refine a2 Γ σ H0 F H _ ds E q1 fun vs F1 H1 u1 l1 => ?_
    exact c2 F1 H1 vs ds Q s u1.fh l1 hf fun v F' H' u l => k v F' H' (u1.trans u) (l.weak u1.h)
theorem se_callTy {x : Str} {id : String} {e : Expr} {es : List Expr} {p pos : Pos} {q g} (hc : CallS S (.type id) q) (hm : S.mg x = none) (ha : SAL S (e :: es) g) (hg : glB S.sc x = true := by kernel_rfl) (hv : bootBuiltins x = some (.type id) := by decide +kernel)
    (hn : x ≠ "__name__" := by decide) (hdb : (x == ("__debug__" : Str)) = false := by decide) (he : ∀ X : Cx, starEach (e :: es) X.env = (false, eval e X.env) :: starEach es X.env := by intro _; rfl) (hpl : ∀ X : Cx, (backTo pos (starEach es X.env)).any (·.1) = false := by intro _; rfl) :
    SE S (.Call (.Name x p) (e :: es) [] pos) (callD q g) := by
  obtain ⟨r, c1, c2⟩ := hc
  obtain ⟨t, a1, a2⟩ := ha
  refine ⟨tCB r t, fun X ok => pe_callTy (c1 X ok) (ok.gl hg) (by rw [ok.mg]; exact hm) hv (a1 X ok) hn hdb (he X) (hpl X), fun Γ σ H0 F H Q s E hf k => ?_⟩
  unfold callD at hf
  cases q1 : g Γ with
  | none => rw [q1] at hf; cases hf
  | some ds =>
    rw [q1] at hf
    refine a2 Γ σ H0 F H _ ds E q1 fun vs F1 H1 u1 l1 => ?_
    exact c2 F1 H1 vs ds Q s u1.fh l1 hf fun v F' H' u l => k v F' H' (u1.trans u) (l.weak u1.h)
theorem LkA.one {K : PySem.W.Frag} {F H : Hp} {vs : List V} {d : PyData} (h : LkA K F H vs [d]) : ∃ v, vs = [v] ∧ LkV K F H v d := by
  cases h with
  | cons h t => cases t; exact ⟨_, rfl, h⟩
theorem LkA.two {K : PySem.W.Frag} {F H : Hp} {vs : List V} {d e : PyData} (h : LkA K F H vs [d, e]) : ∃ v u, vs = [v, u] ∧ LkV K F H v d ∧ LkV K F H u e := by
  cases h with
  | cons h t =>
    obtain ⟨u, rfl, q⟩ := t.one
    exact ⟨_, u, rfl, h, q⟩
def pLen : List PyData → Option Sl
  | [.list xs] => some (.fz (.int xs.length))
  | [.tuple xs] => some (.fz (.int xs.length))
  | _ => none
theorem cs_len : CallS S (.builtin "len") pLen := by
  refine ⟨fun xs H Q => ∃ p ys, xs = [.ref p] ∧ (SqL S.K H p ys ∨ SqT S.K H p ys) ∧ Q (.int ys.length) H, fun X ok => ok.K ▸ call_len_seq, fun F H vs ds Q s fh l hp k => ?_⟩
  unfold pLen at hp
  split at hp
  · cases hp
    obtain ⟨v, rfl, m⟩ := l.one
    obtain ⟨a, us, rfl, q1, q2⟩ := m.list fh
    refine ⟨a, us, rfl, .inl q1, ?_⟩
    rw [q2.length]
    exact k _ F H (.refl fh) ⟨.int _, fun _ _ z => by cases z⟩
  · cases hp
    obtain ⟨v, rfl, m⟩ := l.one
    obtain ⟨a, us, rfl, q1, q2⟩ := m.tuple fh
    refine ⟨a, us, rfl, .inr q1, ?_⟩
    rw [q2.length]
    exact k _ F H (.refl fh) ⟨.int _, fun _ _ z => by cases z⟩
  · cases hp
def pAbs : List PyData → Option Sl
  | [.int i] => some (.fz (.int (if i < 0 then -i else i)))
  | _ => none
theorem cs_abs : CallS S (.builtin "abs") pAbs := by
  refine ⟨_, fun X ok => call_abs, fun F H vs ds Q s fh l hp k => ?_⟩
  unfold pAbs at hp
  split at hp
  · cases hp
    obtain ⟨v, rfl, m⟩ := l.one
    exact ⟨_, by rw [m.int], k _ F H (.refl fh) ⟨.int _, fun _ _ z => by cases z⟩⟩
  · cases hp
def pListOf : List PyData → Option Sl
  | [.list xs] => some (.ow xs)
  | [.tuple xs] => some (.ow xs)
  | _ => none
theorem cs_list : CallS S (.type "list") pListOf := by
  refine ⟨fun xs H Q => ∃ p ys, xs = [.ref p] ∧ (SqL S.K H p ys ∨ SqT S.K H p ys) ∧ ∀ l, H l = none → Q (.ref l) (upd H l (.lst ys)), fun X ok => ok.K ▸ call_list_of, fun F H vs ds Q s fh l hp k => ?_⟩
  unfold pListOf at hp
  split at hp
  · cases hp
    obtain ⟨v, rfl, m⟩ := l.one
    obtain ⟨a, us, rfl, q1, q2⟩ := m.list fh
    exact ⟨a, us, rfl, .inl q1, fun p hp => k _ F _ (.newO fh hp) (SlN.lst fh hp q2)⟩
  · cases hp
    obtain ⟨v, rfl, m⟩ := l.one
    obtain ⟨a, us, rfl, q1, q2⟩ := m.tuple fh
    exact ⟨a, us, rfl, .inr q1, fun p hp => k _ F _ (.newO fh hp) (SlN.lst fh hp q2)⟩
  · cases hp
/-! ### lists of ints -/
def toInts : List PyData → Option (List Int)
  | [] => some []
  | .int i :: ds => (toInts ds).map (i :: ·)
  | _ :: _ => none
theorem toInts_eq : ∀ {ds : List PyData} {ns : List Int}, toInts ds = some ns → ds = ns.map PyData.int
  | [], ns, h => by cases h; rfl
  | d :: ds, ns, h => by
    unfold toInts at h
    split at h
    · next e => cases e
    · next i ds' e =>
      cases e
      cases q : toInts ds with
      | none => rw [q] at h; cases h
      | some ms => rw [q] at h; cases h; rw [toInts_eq q]; rfl
    · cases h
theorem toInts_map : ∀ (ns : List Int), toInts (ns.map PyData.int) = some ns
  | [] => rfl
  | n :: ns => by show (toInts (ns.map PyData.int)).map (n :: ·) = _; rw [toInts_map ns]; rfl
def sortI (ns : List Int) : List Int := ns.mergeSort (fun a b => decide (a ≤ b))
theorem sorted_eq : ∀ {l m : List Int}, l.Perm m → l.Pairwise (· ≤ ·) → m.Pairwise (· ≤ ·) → l = m
  | [], m, p, _, _ => by rw [List.nil_perm.mp p]
  | a :: l, [], p, _, _ => by cases List.perm_nil.mp p
  | a :: l, b :: m, p, h1, h2 => by
    rw [List.pairwise_cons] at h1 h2
    have e : a = b := by
      have ha : a ∈ b :: m := p.mem_iff.mp List.mem_cons_self
      have hb : b ∈ a :: l := p.mem_iff.mpr List.mem_cons_self
      rcases List.mem_cons.mp ha with q | q
      · exact q
      · rcases List.mem_cons.mp hb with r | r
        · exact r.symm
        · exact Int.le_antisymm (h1.1 b r) (h2.1 a q)
    subst e
    rw [sorted_eq (List.Perm.cons_inv p) h1.2 h2.2]
theorem sortI_perm (ns : List Int) : (sortI ns).Perm ns := List.mergeSort_perm ns _
theorem sortI_sorted (ns : List Int) : (sortI ns).Pairwise (· ≤ ·) := by
  have h := List.pairwise_mergeSort (le := fun a b : Int => decide (a ≤ b)) (fun a b c h1 h2 => by simp at *; omega) (fun a b => by simp; omega) ns
  exact h.imp fun h => by simpa using h
theorem sortI_eq {l ns : List Int} (p : l.Perm ns) (h : l.Pairwise (· ≤ ·)) : l = sortI ns := sorted_eq (p.trans (sortI_perm ns).symm) h (sortI_sorted ns)
def pSorted : List PyData → Option Sl
  | [.list xs] => (toInts xs).bind fun ns => if ns.length < 64 then some (.ow ((sortI ns).map PyData.int)) else none
  | _ => none
theorem cs_sorted : CallS S (.builtin "sorted") pSorted := by
  refine ⟨rSorted S.K, fun X ok => ok.K ▸ cr_sorted, fun F H vs ds Q s fh l hp k => ?_⟩
  unfold pSorted at hp
  split at hp
  · cases q : toInts ‹List PyData› with
    | none => rw [q] at hp; cases hp
    | some ns =>
      rw [q] at hp
      simp only [Option.bind_some] at hp
      split at hp
      · next hz =>
        cases hp
        obtain ⟨v, rfl, m⟩ := l.one
        obtain ⟨a, us, rfl, q1, q2⟩ := m.list fh
        rw [toInts_eq q] at q2
        rw [q2.ints] at q1
        refine ⟨a, ns, rfl, q1, hz, fun ns' p hp hs hn => ?_⟩
        rw [sortI_eq hp hs]
        exact k _ F _ (.newO fh hn) (SlN.lst fh hn (dpAll_ints _))
      · cases hp
  · cases hp
/-- sorted(set(..)) -/
def sortU (ns : List Int) : List Int := sortI (uniq ns)
def pSortedSet : List PyData → Option Sl
  | [.list xs] => (toInts xs).bind fun ns => if ns.length < big 4000 ∧ (uniq ns).length < 64 then some (.ow ((sortU ns).map PyData.int)) else none
  | _ => none
theorem se_sortedSet {e : Expr} {p1 p2 pos1 pos2 : Pos} {g} (ha : SL S e g) (hm1 : S.mg "sorted" = none) (hm2 : S.mg "set" = none) (hg1 : glB S.sc "sorted" = true := by kernel_rfl) (hg2 : glB S.sc "set" = true := by kernel_rfl)
    (he : ∀ X : Cx, starEach [e] X.env = (false, eval e X.env) :: starEach [] X.env := by intro _; rfl) (hpl : ∀ X : Cx, (backTo pos1 (starEach [] X.env)).any (·.1) = false := by intro _; rfl) (hpl2 : ∀ X : Cx, (backTo pos2 (starEach [] X.env)).any (·.1) = false := by intro _; rfl) :
    SE S (.Call (.Name "sorted" p1) [.Call (.Name "set" p2) [e] [] pos2] [] pos1) (callD pSortedSet (aCons g aNil)) := by
  obtain ⟨t, a1, a2⟩ := ha
  refine ⟨tCB (fun vs H Q => ∃ (a : Addr) (ks : List Int), vs = [V.ref a] ∧ H a = some (SetO S.w a ks) ∧ ks.length < 64 ∧ ∀ (ns : List Int) (p : Addr), ns.Perm ks → ns.Pairwise (· ≤ ·) → H p = none → Q (.ref p) (upd H p (.lst (ns.map V.int))))
    (tCons (tCB (fun vs H Q => ∃ (a : Addr) (ns : List Int), vs = [V.ref a] ∧ SqL S.K H a (ns.map V.int) ∧ ns.length < 4000 ∧ ∀ p, H p = none → Q (.ref p) (upd H p (SetO S.w p (uniq ns)))) (tCons t tNil)) tNil), fun X ok => ?_, fun Γ σ H0 F H Q s E hf k => ?_⟩
  · refine pe_callB (ok.w ▸ cr_sortedSet ok.calm) (ok.gl hg1) (by rw [ok.mg]; exact hm1) (by decide +kernel) (pa_cons ?_ pa_nil) (hpl := hpl X)
    exact pe_callTy (T := "set") (ok.w ▸ ok.K ▸ cr_set ok.calm) (ok.gl hg2) (by rw [ok.mg]; exact hm2) (by decide +kernel) (pa_cons (a1 X ok) pa_nil (he X)) (he := he X) (hpl := hpl2 X)
  · unfold callD aCons aNil at hf
    cases q : g Γ with
    | none => rw [q] at hf; cases hf
    | some d =>
      rw [q] at hf
      simp only [Option.bind_some, Option.map_some] at hf
      unfold pSortedSet at hf
      split at hf
      · next xs e0 =>
        cases e0
        cases q2 : toInts xs with
        | none => rw [q2] at hf; cases hf
        | some ns =>
          rw [q2] at hf
          simp only [Option.bind_some] at hf
          split at hf
          · next hz =>
            cases hf
            refine a2 Γ σ H0 F H _ _ E q fun v F1 H1 u1 l1 => ?_
            obtain ⟨a, us, rfl, q3, q4⟩ := l1.list u1.fh
            rw [toInts_eq q2] at q4
            rw [q4.ints] at q3
            refine ⟨a, ns, rfl, q3, by have := hz.1; rw [big_eq] at this; exact this, fun p hp => ?_⟩
            have u2 : Sub F1 H1 F1 (upd H1 p (SetO S.w p (uniq ns))) := .newO u1.fh hp
            refine ⟨p, uniq ns, rfl, upd_same, hz.2, fun ns' p' h1 h2 hn => ?_⟩
            rw [show ns' = sortU ns from sortI_eq h1 h2]
            exact k _ F1 _ ((u1.trans u2).trans (.newO u2.fh hn)) ((SlN.lst u2.fh hn (dpAll_ints _)).weak (u1.trans u2).h)
          · cases hf
      · cases hf
end
end
end Bd

namespace Bd
open PySem L2
noncomputable section
section
variable {S : Sx}
/-! ### tests -/
def truD : PyData → Option Bool
  | .none => some false
  | .bool b => some b
  | .int i => some (i != 0)
  | .list xs => some (!xs.isEmpty)
  | .tuple xs => some (!xs.isEmpty)
  | _ => none
def bTru (f : En → Option PyData) : En → Option Bool := fun Γ => (f Γ).bind truD
theorem emp_eq {K : PySem.W.Frag} {F : Hp} {vs : List V} {xs : List PyData} (h : DpAll K F vs xs) : (!xs.isEmpty) = !vs.isEmpty := by cases h <;> rfl
theorem st_truth {e : Expr} {f} (h : SL S e f) (he : ∀ (X : Cx) whole, isTrue e X.env whole = (do let v ← whole; standAt e.pos; holding [v] (truthy v)) := by intro _ _; rfl) : ST S e (bTru f) := by
  obtain ⟨t, a1, a2⟩ := h
  refine ⟨fun σ H Q => t σ H fun x H' => ∃ k, TruV S.K x H' k ∧ Q k H', fun X ok => ok.K ▸ pt_truth (a1 X ok) (he X), fun Γ σ H0 F H Q b E hf k => ?_⟩
  unfold bTru at hf
  cases q : f Γ with
  | none => rw [q] at hf; cases hf
  | some d =>
    rw [q] at hf
    simp only [Option.bind_some] at hf
    refine a2 Γ σ H0 F H _ d E q fun v F' H' u l => ⟨b, ?_, k F' H' u⟩
    unfold truD at hf
    split at hf
    · cases hf; rw [l.non]; exact rfl
    · cases hf; rw [l.bl]; exact rfl
    · cases hf; rw [l.int]; exact rfl
    · cases hf
      obtain ⟨a, vs, rfl, q1, q2⟩ := l.list u.fh
      exact .inl ⟨vs, q1, emp_eq q2⟩
    · cases hf
      obtain ⟨a, vs, rfl, q1, q2⟩ := l.tuple u.fh
      exact .inr (.inl ⟨vs, q1, emp_eq q2⟩)
    · cases hf
def bNot (f : En → Option Bool) : En → Option Bool := fun Γ => (f Γ).map (!·)
theorem st_not {e : Expr} {pos f} (h : ST S e f) : ST S (.UnaryOp .Not e pos) (bNot f) := by
  obtain ⟨t, a1, a2⟩ := h
  refine ⟨tNot t, fun X ok => pt_not (a1 X ok), fun Γ σ H0 F H Q b E hf k => ?_⟩
  unfold bNot at hf
  cases q : f Γ with
  | none => rw [q] at hf; cases hf
  | some c => rw [q] at hf; cases hf; exact a2 Γ σ H0 F H _ c E q k
def bAnd (f g : En → Option Bool) : En → Option Bool := fun Γ => match f Γ with
  | some true => g Γ
  | some false => some false
  | none => none
def bOr (f g : En → Option Bool) : En → Option Bool := fun Γ => match f Γ with
  | some true => some true
  | some false => g Γ
  | none => none
theorem SW.t {e : Expr} {f} (h : SW S e f) : ST S e f := by
  obtain ⟨t, a1, a2⟩ := h
  exact ⟨t, fun X ok => (a1 X ok).pt, a2⟩
theorem sw_and1 {e : Expr} {pos f} (h : ST S e f) : SW S (.BoolOp .And [e] pos) f := by
  obtain ⟨t, a1, a2⟩ := h
  exact ⟨t, fun X ok => pw_and1 (a1 X ok), a2⟩
theorem sw_or1 {e : Expr} {pos f} (h : ST S e f) : SW S (.BoolOp .Or [e] pos) f := by
  obtain ⟨t, a1, a2⟩ := h
  exact ⟨t, fun X ok => pw_or1 (a1 X ok), a2⟩
theorem sw_and {a b : Expr} {rest : List Expr} {pos f g} (h : ST S a f) (h2 : SW S (.BoolOp .And (b :: rest) pos) g) : SW S (.BoolOp .And (a :: b :: rest) pos) (bAnd f g) := by
  obtain ⟨t, a1, a2⟩ := h
  obtain ⟨u, b1, b2⟩ := h2
  refine ⟨tAnd t u, fun X ok => pw_and (a1 X ok) (b1 X ok), fun Γ σ H0 F H Q c E hf k => ?_⟩
  unfold bAnd at hf
  split at hf
  · next q => exact a2 Γ σ H0 F H _ true E q fun F1 H1 u1 => iteT (b2 Γ σ H0 F1 H1 Q c (E.mono u1) hf fun F2 H2 u2 => k F2 H2 (u1.trans u2))
  · next q => cases hf; exact a2 Γ σ H0 F H _ false E q fun F1 H1 u1 => iteF (k F1 H1 u1)
  · cases hf
theorem sw_or {a b : Expr} {rest : List Expr} {pos f g} (h : ST S a f) (h2 : SW S (.BoolOp .Or (b :: rest) pos) g) : SW S (.BoolOp .Or (a :: b :: rest) pos) (bOr f g) := by
  obtain ⟨t, a1, a2⟩ := h
  obtain ⟨u, b1, b2⟩ := h2
  refine ⟨tOr t u, fun X ok => pw_or (a1 X ok) (b1 X ok), fun Γ σ H0 F H Q c E hf k => ?_⟩
  unfold bOr at hf
  split at hf
  · next q => cases hf; exact a2 Γ σ H0 F H _ true E q fun F1 H1 u1 => iteT (k F1 H1 u1)
  · next q => exact a2 Γ σ H0 F H _ false E q fun F1 H1 u1 => iteF (b2 Γ σ H0 F1 H1 Q c (E.mono u1) hf fun F2 H2 u2 => k F2 H2 (u1.trans u2))
  · cases hf
/-! ### and, or, not as values -/
theorem se_one {op} {e : Expr} {pos f} (h : SE S e f) : SE S (.BoolOp op [e] pos) f := by
  obtain ⟨t, a1, a2⟩ := h
  exact ⟨t, fun X ok => pe_one (a1 X ok), a2⟩
def vAnd (f g : En → Option Sl) : En → Option Sl := fun Γ => match f Γ with
  | some (.fz (.bool true)) => g Γ
  | some (.fz (.bool false)) => some (.fz (.bool false))
  | _ => none
def vOr (f g : En → Option Sl) : En → Option Sl := fun Γ => match f Γ with
  | some (.fz (.bool true)) => some (.fz (.bool true))
  | some (.fz (.bool false)) => g Γ
  | _ => none
def vNot (f : En → Option Sl) : En → Option Sl := fun Γ => match f Γ with
  | some (.fz (.bool b)) => some (.fz (.bool (!b)))
  | _ => none
theorem SlN.bl {K : PySem.W.Frag} {H F' H' : Hp} {b : Bool} {v : V} (h : SlN K H F' H' (.fz (.bool b)) v) : v = .bl b := by cases h.1; rfl
theorem slN_bl {K : PySem.W.Frag} {H F' H' : Hp} (b : Bool) : SlN K H F' H' (.fz (.bool b)) (.bl b) := ⟨.bl b, fun _ _ z => by cases z⟩
theorem se_and {a b : Expr} {rest : List Expr} {pos f g} (h : SE S a f) (h2 : SE S (.BoolOp .And (b :: rest) pos) g) : SE S (.BoolOp .And (a :: b :: rest) pos) (vAnd f g) := by
  obtain ⟨t, a1, a2⟩ := h
  obtain ⟨u, b1, b2⟩ := h2
  refine ⟨tAndV t u, fun X ok => pe_and (a1 X ok) (b1 X ok), fun Γ σ H0 F H Q s E hf k => ?_⟩
  unfold vAnd at hf
  split at hf
  · next q => exact a2 Γ σ H0 F H _ _ E q fun v F1 H1 u1 l1 => ⟨true, l1.bl, iteT (b2 Γ σ H0 F1 H1 Q s (E.mono u1) hf fun v2 F2 H2 u2 l2 => k v2 F2 H2 (u1.trans u2) (l2.weak u1.h))⟩
  · next q => cases hf; exact a2 Γ σ H0 F H _ _ E q fun v F1 H1 u1 l1 => ⟨false, l1.bl, iteF (k _ F1 H1 u1 (slN_bl _))⟩
  · cases hf
theorem se_or {a b : Expr} {rest : List Expr} {pos f g} (h : SE S a f) (h2 : SE S (.BoolOp .Or (b :: rest) pos) g) : SE S (.BoolOp .Or (a :: b :: rest) pos) (vOr f g) := by
  obtain ⟨t, a1, a2⟩ := h
  obtain ⟨u, b1, b2⟩ := h2
  refine ⟨tOrV t u, fun X ok => pe_or (a1 X ok) (b1 X ok), fun Γ σ H0 F H Q s E hf k => ?_⟩
  unfold vOr at hf
  split at hf
  · next q => cases hf; exact a2 Γ σ H0 F H _ _ E q fun v F1 H1 u1 l1 => ⟨true, l1.bl, iteT (k _ F1 H1 u1 (slN_bl _))⟩
  · next q => exact a2 Γ σ H0 F H _ _ E q fun v F1 H1 u1 l1 => ⟨false, l1.bl, iteF (b2 Γ σ H0 F1 H1 Q s (E.mono u1) hf fun v2 F2 H2 u2 l2 => k v2 F2 H2 (u1.trans u2) (l2.weak u1.h))⟩
  · cases hf
theorem se_not {e : Expr} {pos f} (h : SE S e f) : SE S (.UnaryOp .Not e pos) (vNot f) := by
  obtain ⟨t, a1, a2⟩ := h
  refine ⟨tNotV t, fun X ok => pe_not (a1 X ok), fun Γ σ H0 F H Q s E hf k => ?_⟩
  unfold vNot at hf
  split at hf
  · next b q => cases hf; exact a2 Γ σ H0 F H _ _ E q fun v F1 H1 u1 l1 => ⟨b, l1.bl, k _ F1 H1 u1 (slN_bl _)⟩
  · cases hf
/-! ### isinstance -/
def tyName : PyData → String
  | .none => "NoneType"
  | .bool _ => "bool"
  | .int _ => "int"
  | .str _ => "str"
  | .list _ => "list"
  | .tuple _ => "tuple"
  | .dict _ => "dict"
/-- bool is under int -/
def isTy (T : String) (d : PyData) : Bool := tyName d == T || (T == "int" && tyName d == "bool")
theorem kit_ok (K : PySem.W.Frag) (T : String) (hT : T ∈ ["list", "int", "bool", "tuple", "str"]) (d : PyData) (hd : ∀ kvs, d ≠ .dict kvs) : PySem.W.kitOne K (.type (tyName d)) (.type T) = some (isTy T d) := by
  simp only [List.mem_cons, List.not_mem_nil, or_false] at hT
  cases d with
  | dict kvs => exact absurd rfl (hd kvs)
  | _ => rcases hT with rfl | rfl | rfl | rfl | rfl <;> kernel_rfl
def rIsi (K : PySem.W.Frag) : List V → Hp → VK → Prop := fun vs H Q => ∃ v d T, vs = [v, .ty T] ∧ Dp K H v d ∧ T ∈ ["list", "int", "bool", "tuple", "str"] ∧ Q (.bl (isTy T d)) H
theorem cr_isi {X : Cx} : CallR X (.builtin "isinstance") (rIsi X.K) := by
  intro pins s σ H vs us Q I r h
  obtain ⟨v, d, T, rfl, hd, hT, q⟩ := h
  cases r with
  | cons rv t =>
    cases t with
    | cons rt t =>
      cases t
      cases rt
      have fin : ∀ tk, EP X pins σ Q (.bool (isTy T d)) { s with toks := tk } := fun tk => ⟨.bl _, H, I.tok tk, rfl, q⟩
      have kk := kit_ok X.K T hT d
      cases hd with
      | non => cases rv; exact PySem.W.kia_one PySem.W.kitx_none I.kIn True.intro (kk (fun _ z => by cases z)) (fun z => nomatch z) fin
      | bl b => cases rv; exact PySem.W.kia_one PySem.W.kitx_bool I.kIn True.intro (kk (fun _ z => by cases z)) (fun z => nomatch z) fin
      | int i => obtain ⟨t, rfl⟩ := rv; exact PySem.W.kia_one PySem.W.kitx_int I.kIn True.intro (kk (fun _ z => by cases z)) (fun z => nomatch z) fin
      | str i => obtain ⟨t, rfl⟩ := rv; exact PySem.W.kia_one PySem.W.kitx_str I.kIn True.intro (kk (fun _ z => by cases z)) (fun z => nomatch z) fin
      | lst hs ha =>
        cases rv
        obtain ⟨its, _, ⟨o, n, e, c, _, _⟩, _⟩ := I.list hs
        exact PySem.W.kia_one PySem.W.kitx_list I.kIn ⟨o, e, c⟩ (kk (fun _ z => by cases z)) (fun z => nomatch z) fin
      | tup hs ha =>
        cases rv
        obtain ⟨its, _, ⟨o, e, c, _⟩, _⟩ := I.tuple hs
        exact PySem.W.kia_one PySem.W.kitx_tuple I.kIn ⟨o, e, c⟩ (kk (fun _ z => by cases z)) (fun z => nomatch z) fin
def vIsi (T : String) (f : En → Option PyData) : En → Option Sl := fun Γ => (f Γ).map fun d => .fz (.bool (isTy T d))
theorem se_isi {e : Expr} {p p2 pos : Pos} {x : Str} {T : String} {f} (ha : SL S e f) (hm : S.mg "isinstance" = none) (hm2 : S.mg x = none) (hT : T ∈ ["list", "int", "bool", "tuple", "str"] := by decide +kernel) (hv : bootBuiltins x = some (.type T) := by decide +kernel) (hg : glB S.sc "isinstance" = true := by kernel_rfl) (hg2 : glB S.sc x = true := by kernel_rfl)
    (hn : x ≠ "__name__" := by decide) (hdb : (x == ("__debug__" : Str)) = false := by decide) (he : ∀ X : Cx, starEach [e, .Name x p2] X.env = (false, eval e X.env) :: starEach [.Name x p2] X.env := by intro _; rfl) (hpl : ∀ X : Cx, (backTo pos (starEach [.Name x p2] X.env)).any (·.1) = false := by intro _; rfl) :
    SE S (.Call (.Name "isinstance" p) [e, .Name x p2] [] pos) (vIsi T f) := by
  obtain ⟨t, a1, a2⟩ := ha
  refine ⟨tCB (rIsi S.K) (tCons t (tCons (tC (.ty T)) tNil)), fun X ok => pe_callB (ok.K ▸ cr_isi) (ok.gl hg) (by rw [ok.mg]; exact hm) (by decide +kernel) (pa_cons (a1 X ok) (pa_cons (pe_bltn (ok.gl hg2) (by rw [ok.mg]; exact hm2) hv rfl hn hdb) pa_nil) (he X)) (he := he X) (hpl := hpl X), fun Γ σ H0 F H Q s E hf k => ?_⟩
  unfold vIsi at hf
  cases q : f Γ with
  | none => rw [q] at hf; cases hf
  | some d =>
    rw [q] at hf; cases hf
    refine a2 Γ σ H0 F H _ d E q fun v F1 H1 u1 l1 => ?_
    exact ⟨v, d, T, rfl, l1.dp u1.fh, hT, k _ F1 H1 u1 (slN_bl _)⟩
/-! ### max, sum, any, all -/
def vMaxD (f g : En → Option PyData) : En → Option Sl := fun Γ => match f Γ, g Γ with
  | some (.list xs), some d => (toInts xs).map fun ns => .fz (match maxOpt ns with | none => d | some m => .int m)
  | _, _ => none
theorem se_maxd {e ed : Expr} {p pos kp : Pos} {f g} (ha : SL S e f) (hd : SV S ed g) (hm : S.mg "max" = none) (hg : glB S.sc "max" = true := by kernel_rfl) (he : ∀ X : Cx, starEach [e] X.env = (false, eval e X.env) :: starEach [] X.env := by intro _; rfl) :
    SE S (.Call (.Name "max" p) [e] [⟨some "default", ed, kp⟩] pos) (vMaxD f g) := by
  obtain ⟨t, a1, a2⟩ := ha
  obtain ⟨u, b1, b2⟩ := hd
  refine ⟨tMaxD S.K t u, fun X ok => ok.K ▸ pe_maxd (by rw [ok.mg]; exact hm) (ok.gl hg) ok.calm (a1 X ok) (b1 X ok) (he X), fun Γ σ H0 F H Q s E hf k => ?_⟩
  unfold vMaxD at hf
  split at hf
  · next xs d q1 q2 =>
    cases q3 : toInts xs with
    | none => rw [q3] at hf; cases hf
    | some ns =>
      rw [q3] at hf; cases hf
      refine a2 Γ σ H0 F H _ _ E q1 fun v F1 H1 u1 l1 => ?_
      refine b2 Γ σ H0 F1 H1 _ _ (E.mono u1) q2 fun w F2 H2 u2 l2 => ?_
      obtain ⟨a, vs, rfl, q4, q5⟩ := (l1.mono u2).list u2.fh
      rw [toInts_eq q3] at q5
      rw [q5.ints] at q4
      refine ⟨a, ns, rfl, q4, k _ F2 H2 (u1.trans u2) ?_⟩
      dsimp only
      cases maxOpt ns with
      | none => exact ⟨l2, fun _ _ z => by cases z⟩
      | some m => exact ⟨.int m, fun _ _ z => by cases z⟩
  · cases hf
theorem foldl_bst : ∀ (ns : List Int) (b : Int), ∃ m, ns.foldl bst (some b) = some m ∧ (m = b ∨ m ∈ ns) ∧ b ≤ m ∧ ∀ y ∈ ns, y ≤ m
  | [], b => ⟨b, rfl, .inl rfl, Int.le_refl _, fun y h => by cases h⟩
  | n :: ns, b => by
    rw [List.foldl_cons]
    by_cases h : b < n
    · rw [show bst (some b) n = some n from if_pos h]
      obtain ⟨m, e, h1, h2, h3⟩ := foldl_bst ns n
      refine ⟨m, e, .inr ?_, by omega, fun y hy => ?_⟩
      · rcases h1 with rfl | h1
        · exact List.mem_cons_self
        · exact List.mem_cons_of_mem _ h1
      · rcases List.mem_cons.mp hy with rfl | hy
        · exact h2
        · exact h3 y hy
    · rw [show bst (some b) n = some b from if_neg h]
      obtain ⟨m, e, h1, h2, h3⟩ := foldl_bst ns b
      refine ⟨m, e, ?_, h2, fun y hy => ?_⟩
      · rcases h1 with rfl | h1
        · exact .inl rfl
        · exact .inr (List.mem_cons_of_mem _ h1)
      · rcases List.mem_cons.mp hy with rfl | hy
        · omega
        · exact h3 y hy
theorem maxOpt_spec {ns : List Int} {m : Int} (h : maxOpt ns = some m) : m ∈ ns ∧ ∀ y ∈ ns, y ≤ m := by
  cases ns with
  | nil => cases h
  | cons n ns =>
    obtain ⟨k, e, h1, h2, h3⟩ := foldl_bst ns n
    have : maxOpt (n :: ns) = some k := e
    rw [this] at h; cases h
    refine ⟨?_, fun y hy => ?_⟩
    · rcases h1 with rfl | h1
      · exact List.mem_cons_self
      · exact List.mem_cons_of_mem _ h1
    · rcases List.mem_cons.mp hy with rfl | hy
      · exact h2
      · exact h3 y hy
def pMax : List PyData → Option Sl
  | [.list xs] => (toInts xs).bind fun ns => (maxOpt ns).map fun m => .fz (.int m)
  | _ => none
theorem cs_max1 : CallS S (.builtin "max") pMax := by
  refine ⟨rMax S.K, fun X ok => ok.K ▸ cr_max ok.calm, fun F H vs ds Q s fh l hp k => ?_⟩
  unfold pMax at hp
  split at hp
  · cases q : toInts ‹List PyData› with
    | none => rw [q] at hp; cases hp
    | some ns =>
      rw [q] at hp
      simp only [Option.bind_some] at hp
      cases q0 : maxOpt ns with
      | none => rw [q0] at hp; cases hp
      | some m =>
        rw [q0] at hp; cases hp
        obtain ⟨v, rfl, lv⟩ := l.one
        obtain ⟨a, us, rfl, q1, q2⟩ := LkV.list fh lv
        rw [toInts_eq q] at q2
        rw [q2.ints] at q1
        obtain ⟨h1, h2⟩ := maxOpt_spec q0
        refine ⟨a, ns, rfl, q1, by cases ns with | nil => cases h1 | cons _ _ => exact Nat.succ_pos _, fun m' h3 h4 => ?_⟩
        rw [show m' = m from Int.le_antisymm (h2 m' h3) (h4 m h1)]
        exact k _ F H (.refl fh) ⟨.int _, fun _ _ z => by cases z⟩
  · cases hp
def pMax2 : List PyData → Option Sl
  | [.int i, .int j] => some (.fz (.int (if j > i then j else i)))
  | _ => none
theorem cs_max2 : CallS S (.builtin "max") pMax2 := by
  refine ⟨_, fun X ok => call_max2 ok.calm, fun F H vs ds Q s fh l hp k => ?_⟩
  unfold pMax2 at hp
  split at hp
  · cases hp
    obtain ⟨v, u, rfl, l1, l2⟩ := l.two
    exact ⟨_, _, by rw [l1.int, l2.int], k _ F H (.refl fh) ⟨.int _, fun _ _ z => by cases z⟩⟩
  · cases hp
def pSum : List PyData → Option Sl
  | [.list xs] => (toInts xs).map fun ns => .fz (.int ns.sum)
  | _ => none
theorem cs_sum : CallS S (.builtin "sum") pSum := by
  refine ⟨rSum S.K, fun X ok => ok.K ▸ cr_sum ok.calm, fun F H vs ds Q s fh l hp k => ?_⟩
  unfold pSum at hp
  split at hp
  · cases q : toInts ‹List PyData› with
    | none => rw [q] at hp; cases hp
    | some ns =>
      rw [q] at hp; cases hp
      obtain ⟨v, rfl, lv⟩ := l.one
      obtain ⟨a, us, rfl, q1, q2⟩ := LkV.list fh lv
      rw [toInts_eq q] at q2
      rw [q2.ints] at q1
      exact ⟨a, ns, rfl, q1, k _ F H (.refl fh) ⟨.int _, fun _ _ z => by cases z⟩⟩
  · cases hp
def toBls : List PyData → Option (List Bool)
  | [] => some []
  | .bool i :: ds => (toBls ds).map (i :: ·)
  | _ :: _ => none
theorem toBls_eq : ∀ {ds : List PyData} {ns : List Bool}, toBls ds = some ns → ds = ns.map PyData.bool
  | [], ns, h => by cases h; rfl
  | d :: ds, ns, h => by
    unfold toBls at h
    split at h
    · next e => cases e
    · next i ds' e =>
      cases e
      cases q : toBls ds with
      | none => rw [q] at h; cases h
      | some ms => rw [q] at h; cases h; rw [toBls_eq q]; rfl
    · cases h
theorem toBls_map : ∀ (ns : List Bool), toBls (ns.map PyData.bool) = some ns
  | [] => rfl
  | n :: ns => by show (toBls (ns.map PyData.bool)).map (n :: ·) = _; rw [toBls_map ns]; rfl
def pAll : List PyData → Option Sl
  | [.list xs] => (toBls xs).map fun ns => .fz (.bool (ns.all id))
  | _ => none
def pAny : List PyData → Option Sl
  | [.list xs] => (toBls xs).map fun ns => .fz (.bool (ns.any id))
  | _ => none
theorem cs_all : CallS S (.builtin "all") pAll := by
  refine ⟨rAll S.K, fun X ok => ok.K ▸ cr_all ok.calm, fun F H vs ds Q s fh l hp k => ?_⟩
  unfold pAll at hp
  split at hp
  · cases q : toBls ‹List PyData› with
    | none => rw [q] at hp; cases hp
    | some ns =>
      rw [q] at hp; cases hp
      obtain ⟨v, rfl, lv⟩ := l.one
      obtain ⟨a, us, rfl, q1, q2⟩ := LkV.list fh lv
      rw [toBls_eq q] at q2
      rw [q2.bls] at q1
      exact ⟨a, ns, rfl, q1, k _ F H (.refl fh) (slN_bl _)⟩
  · cases hp
theorem cs_any : CallS S (.builtin "any") pAny := by
  refine ⟨rAny S.K, fun X ok => ok.K ▸ cr_any ok.calm, fun F H vs ds Q s fh l hp k => ?_⟩
  unfold pAny at hp
  split at hp
  · cases q : toBls ‹List PyData› with
    | none => rw [q] at hp; cases hp
    | some ns =>
      rw [q] at hp; cases hp
      obtain ⟨v, rfl, lv⟩ := l.one
      obtain ⟨a, us, rfl, q1, q2⟩ := LkV.list fh lv
      rw [toBls_eq q] at q2
      rw [q2.bls] at q1
      exact ⟨a, ns, rfl, q1, k _ F H (.refl fh) (slN_bl _)⟩
  · cases hp
/-! ### calls of defs -/
/-- a def's promise: of data that is read it hands back data; all that stood stays -/
def spD (K : PySem.W.Frag) (n : Nat) (m : List PyData → Option Sl) : Sp := fun vs H Q _ =>
  ∃ F ds s, Same F H ∧ ds.length = n ∧ DpAll K F vs ds ∧ m ds = some s ∧ ∀ v F' H', Sub F H F' H' → SlN K H F' H' s v → Q v H'
structure FnD (S : Sx) (x : Str) (ps : List Str) (m : List PyData → Option Sl) : Prop where
  ex : ∃ (f : Addr) (fd : FuncData) (j : Nat), FnOk S.P S.w S.K S.mg S.base CX0 j f fd ps (spD S.K ps.length m) ∧ j ≤ S.k ∧ S.mg x = some (.ref f) ∧ PySem.W.keepIn S.K (.ref f) = true ∧ Binds S.K fd ps []
theorem se_call {x : Str} {ps : List Str} {m} {e : Expr} {es : List Expr} {p pos : Pos} {g} (G : FnD S x ps m) (ha : SAV S (e :: es) g) (hl : es.length + 1 = ps.length := by rfl) (hg : glB S.sc x = true := by kernel_rfl) (hdb : (x == ("__debug__" : Str)) = false := by decide)
    (he : ∀ X : Cx, starEach (e :: es) X.env = (false, eval e X.env) :: starEach es X.env := by intro _; rfl) (hpl : ∀ X : Cx, (backTo pos (starEach es X.env)).any (·.1) = false := by intro _; rfl) (hz : ∀ Γ ds, g Γ = some ds → ds.length = ps.length) :
    SE S (.Call (.Name x p) (e :: es) [] pos) (callD m g) := by
  obtain ⟨f, fd, j, F0, hj, hm, hk, hb⟩ := G.ex
  obtain ⟨t, a1, a2⟩ := ha
  refine ⟨tCall (spD S.K ps.length m) [] E0 t, fun X ok => ?_, fun Γ σ H0 F H Q s E hf k => ?_⟩
  · have F1 : FnOk X.prog X.w X.K X.mg X.base CX0 j f fd ps (spD S.K ps.length m) := by rw [ok.P, ok.w, ok.K, ok.mg, ok.base]; exact F0
    exact pe_call F1 (ok.room.mono hj) (ok.gl hg) (by rw [ok.mg]; exact hm) (by rw [ok.K]; exact hk) (by rw [ok.K]; exact hb) .nil pass0 (a1 X ok) hdb (he X) (hpl X)
  · unfold callD at hf
    cases q1 : g Γ with
    | none => rw [q1] at hf; cases hf
    | some ds =>
      rw [q1] at hf
      refine a2 Γ σ H0 F H _ ds E q1 fun vs F1 H1 u1 l1 => ?_
      rw [List.append_nil]
      exact ⟨F1, ds, s, u1.fh, hz Γ ds q1, l1, hf, fun v F' H' u l => k v F' H' (u1.trans u) (l.weak u1.h)⟩
end
end
end Bd

namespace Bd
open PySem L2
noncomputable section
section
variable {S : Sx}
/-! ### what is walked -/
/-- from a state that keeps B, J gives the items ds -/
def ItR (K : PySem.W.Frag) (F B : Hp) (J : It) (ds : List PyData) : Prop := ∀ (i : Nat) (F1 H1 : Hp), Same F F1 → Same F1 H1 → Same B H1 →
  (i < ds.length → J.go i H1 ∧ ∀ x H2, J.yld i H1 x H2 → ∃ F2 d, ds[i]? = some d ∧ Sub F1 H1 F2 H2 ∧ Dp K F2 x d) ∧ (ds.length ≤ i → J.stop i H1)
/-- looked at: it may be a list that is yet to change, so all must stay as it is -/
def SI (S : Sx) (tg iter : Expr) (f : En → Option (List PyData)) : Prop :=
  ∃ wi : TI, (∀ X, S.Ok X → PI X tg iter wi) ∧ ∀ Γ σ H0 F H R ds, EnR S.K H0 F H Γ σ → f Γ = some ds → (∀ J F' H', Sub F H F' H' → ItR S.K F' H' J ds → R J H') → wi σ H R
/-- what stays as it is -/
def SIV (S : Sx) (tg iter : Expr) (f : En → Option (List PyData)) : Prop :=
  ∃ wi : TI, (∀ X, S.Ok X → PI X tg iter wi) ∧ ∀ Γ σ H0 F H R ds, EnR S.K H0 F H Γ σ → f Γ = some ds → (∀ J F' H', Sub F H F' H' → ItR S.K F' F' J ds → R J H') → wi σ H R
theorem SIV.l {tg iter : Expr} {f} (h : SIV S tg iter f) : SI S tg iter f := by
  obtain ⟨wi, a1, a2⟩ := h
  exact ⟨wi, a1, fun Γ σ H0 F H R ds E hf k => a2 Γ σ H0 F H R ds E hf fun J F' H' u it => k J F' H' u fun i F1 H1 h1 h2 h3 => it i F1 H1 h1 h2 (h1.trans h2)⟩
theorem itR_list {K : PySem.W.Frag} {F B : Hp} {a : Addr} {vs : List V} {ds : List PyData} (h : SqL K B a vs) (hd : DpAll K F vs ds) : ItR K F B (Itl K a) ds := by
  intro i F1 H1 h1 h2 h3
  have q := h3.seq h
  refine ⟨fun hi => ?_, fun hi => ⟨vs, q, by rw [hd.length]; exact hi⟩⟩
  have lt : i < vs.length := by rw [hd.length]; exact hi
  refine ⟨⟨vs, vs[i], q, by simp [lt]⟩, fun x H2 y => ?_⟩
  obtain ⟨rfl, y⟩ := y
  obtain ⟨d, e1, e2⟩ := hd.get (y vs q)
  exact ⟨F1, d, e1, .refl h2, dp_mono h1 e2⟩
theorem itR_tup {K : PySem.W.Frag} {F B : Hp} {a : Addr} {vs : List V} {ds : List PyData} (h : SqT K B a vs) (hd : DpAll K F vs ds) : ItR K F B (Itt K a) ds := by
  intro i F1 H1 h1 h2 h3
  have q := same_sqT h3 h
  refine ⟨fun hi => ?_, fun hi => ⟨vs, q, by rw [hd.length]; exact hi⟩⟩
  have lt : i < vs.length := by rw [hd.length]; exact hi
  refine ⟨⟨vs, vs[i], q, by simp [lt]⟩, fun x H2 y => ?_⟩
  obtain ⟨rfl, y⟩ := y
  obtain ⟨d, e1, e2⟩ := hd.get (y vs q)
  exact ⟨F1, d, e1, .refl h2, dp_mono h1 e2⟩
theorem itR_rev {K : PySem.W.Frag} {F B : Hp} {a : Addr} {vs : List V} {ds : List PyData} (h : SqL K B a vs) (hd : DpAll K F vs ds) : ItR K F B (Itv K a vs.length) ds.reverse := by
  intro i F1 H1 h1 h2 h3
  have q := h3.seq h
  refine ⟨fun hi => ?_, fun hi => by rw [List.length_reverse] at hi; show vs.length ≤ i; rw [hd.length]; exact hi⟩
  rw [List.length_reverse] at hi
  have lt : i < vs.length := by rw [hd.length]; exact hi
  refine ⟨⟨lt, vs, vs[vs.length - 1 - i], q, by simp⟩, fun x H2 y => ?_⟩
  obtain ⟨rfl, y⟩ := y
  obtain ⟨d, e1, e2⟩ := hd.get (y vs q)
  refine ⟨F1, d, ?_, .refl h2, dp_mono h1 e2⟩
  rw [List.getElem?_reverse hi, ← hd.length]; exact e1
def enumD (ds : List PyData) : List PyData := (List.range ds.length).zipWith (fun (i : Nat) d => PyData.tuple [.int (i : Int), d]) ds
theorem enumD_get {ds : List PyData} {i : Nat} {d : PyData} (h : ds[i]? = some d) : (enumD ds)[i]? = some (.tuple [.int (i : Int), d]) := by
  unfold enumD
  have lt : i < ds.length := (List.getElem?_eq_some_iff.mp h).1
  rw [List.getElem?_zipWith, List.getElem?_range lt, h]
theorem enumD_len (ds : List PyData) : (enumD ds).length = ds.length := by unfold enumD; simp
theorem itR_enum {K : PySem.W.Frag} {F B : Hp} {a : Addr} {vs : List V} {ds : List PyData} (h : SqL K B a vs) (hd : DpAll K F vs ds) : ItR K F B (Ite K a) (enumD ds) := by
  intro i F1 H1 h1 h2 h3
  have q := h3.seq h
  rw [enumD_len]
  refine ⟨fun hi => ?_, fun hi => ⟨vs, q, by rw [hd.length]; exact hi⟩⟩
  have lt : i < vs.length := by rw [hd.length]; exact hi
  refine ⟨⟨vs, vs[i], q, by simp [lt]⟩, fun v H2 y => ?_⟩
  obtain ⟨T, x, rfl, hT, rfl, y⟩ := y
  obtain ⟨d, e1, e2⟩ := hd.get (y vs q)
  refine ⟨upd F1 T (.tup [.int (i : Nat), x]), _, enumD_get e1, .newF h2 hT, .tup (SqT.of upd_same) (.cons (.int _) (.cons ?_ .nil))⟩
  exact dp_mono (h1.trans (same_new (h2.free hT))) e2
def rngD (lo : Int) (n : Nat) : List PyData := (List.range n).map fun (i : Nat) => PyData.int (lo + (i : Int))
theorem itR_rng {K : PySem.W.Frag} {F B : Hp} {lo : Int} {n : Nat} : ItR K F B (Itr lo n) (rngD lo n) := by
  intro i F1 H1 h1 h2 h3
  have hl : (rngD lo n).length = n := by unfold rngD; simp
  rw [hl]
  refine ⟨fun hi => ⟨hi, fun x H2 y => ?_⟩, fun hi => hi⟩
  obtain ⟨rfl, rfl⟩ := y
  refine ⟨F1, .int (lo + (i : Int)), ?_, .refl h2, .int _⟩
  unfold rngD
  rw [List.getElem?_map, List.getElem?_range hi]; rfl
def iLst (f : En → Option PyData) : En → Option (List PyData) := fun Γ => match f Γ with
  | some (.list xs) => some xs
  | _ => none
def iTpl (f : En → Option PyData) : En → Option (List PyData) := fun Γ => match f Γ with
  | some (.tuple xs) => some xs
  | _ => none
theorem si_list {tg e : Expr} {f} (h : SL S e f) : SI S tg e (iLst f) := by
  obtain ⟨t, a1, a2⟩ := h
  refine ⟨iList S.K t, fun X ok => ok.K ▸ pi_list (a1 X ok), fun Γ σ H0 F H R ds E hf k => ?_⟩
  unfold iLst at hf
  split at hf
  · next xs q =>
    cases hf
    refine a2 Γ σ H0 F H _ _ E q fun v F1 H1 u1 l1 => ?_
    obtain ⟨a, vs, rfl, q1, q2⟩ := l1.list u1.fh
    exact ⟨a, rfl, ⟨vs, q1⟩, k _ F1 H1 u1 (itR_list q1 q2)⟩
  · cases hf
theorem siv_list {tg e : Expr} {f} (h : SV S e f) : SIV S tg e (iLst f) := by
  obtain ⟨t, a1, a2⟩ := h
  refine ⟨iList S.K t, fun X ok => ok.K ▸ pi_list (a1 X ok), fun Γ σ H0 F H R ds E hf k => ?_⟩
  unfold iLst at hf
  split at hf
  · next xs q =>
    cases hf
    refine a2 Γ σ H0 F H _ _ E q fun v F1 H1 u1 l1 => ?_
    cases l1 with
    | lst q1 q2 => exact ⟨_, rfl, ⟨_, u1.fh.seq q1⟩, k _ F1 H1 u1 (itR_list q1 q2)⟩
  · cases hf
theorem siv_tup {tg e : Expr} {f} (h : SV S e f) : SIV S tg e (iTpl f) := by
  obtain ⟨t, a1, a2⟩ := h
  refine ⟨iTup S.K t, fun X ok => ok.K ▸ pi_tup (a1 X ok), fun Γ σ H0 F H R ds E hf k => ?_⟩
  unfold iTpl at hf
  split at hf
  · next xs q =>
    cases hf
    refine a2 Γ σ H0 F H _ _ E q fun v F1 H1 u1 l1 => ?_
    cases l1 with
    | tup q1 q2 => exact ⟨_, rfl, ⟨_, same_sqT u1.fh q1⟩, k _ F1 H1 u1 (itR_tup q1 q2)⟩
  · cases hf
def iEnm (f : En → Option PyData) : En → Option (List PyData) := fun Γ => match f Γ with
  | some (.list xs) => some (enumD xs)
  | _ => none
theorem si_enum {elts : List Expr} {kk : Nat} {tpos p pos : Pos} {e : Expr} {f} (h : SL S e f) (hm : S.mg "enumerate" = none) (hg : glB S.sc "enumerate" = true := by kernel_rfl) (hs : ∀ X : Cx, starEach [e] X.env = [(false, eval e X.env)] := by intro _; rfl) : SI S (.Tuple elts kk tpos) (.Call (.Name "enumerate" p) [e] [] pos) (iEnm f) := by
  obtain ⟨t, a1, a2⟩ := h
  refine ⟨iEnum S.K (tCons t tNil), fun X ok => ok.K ▸ pi_enum (ok.gl hg) (by rw [ok.mg]; exact hm) (pa_cons (a1 X ok) pa_nil (by rw [hs X]; rfl)) (hs X), fun Γ σ H0 F H R ds E hf k => ?_⟩
  unfold iEnm at hf
  split at hf
  · next xs q =>
    cases hf
    refine a2 Γ σ H0 F H _ _ E q fun v F1 H1 u1 l1 => ?_
    obtain ⟨a, vs, rfl, q1, q2⟩ := l1.list u1.fh
    exact ⟨a, vs, rfl, q1, k _ F1 H1 u1 (itR_enum q1 q2)⟩
  · cases hf
theorem siv_enum {elts : List Expr} {kk : Nat} {tpos p pos : Pos} {e : Expr} {f} (h : SV S e f) (hm : S.mg "enumerate" = none) (hg : glB S.sc "enumerate" = true := by kernel_rfl) (hs : ∀ X : Cx, starEach [e] X.env = [(false, eval e X.env)] := by intro _; rfl) : SIV S (.Tuple elts kk tpos) (.Call (.Name "enumerate" p) [e] [] pos) (iEnm f) := by
  obtain ⟨t, a1, a2⟩ := h
  refine ⟨iEnum S.K (tCons t tNil), fun X ok => ok.K ▸ pi_enum (ok.gl hg) (by rw [ok.mg]; exact hm) (pa_cons (a1 X ok) pa_nil (by rw [hs X]; rfl)) (hs X), fun Γ σ H0 F H R ds E hf k => ?_⟩
  unfold iEnm at hf
  split at hf
  · next xs q =>
    cases hf
    refine a2 Γ σ H0 F H _ _ E q fun v F1 H1 u1 l1 => ?_
    cases l1 with
    | lst q1 q2 => exact ⟨_, _, rfl, u1.fh.seq q1, k _ F1 H1 u1 (itR_enum q1 q2)⟩
  · cases hf
def iRev' (f : En → Option PyData) : En → Option (List PyData) := fun Γ => match f Γ with
  | some (.list xs) => some xs.reverse
  | _ => none
theorem si_rev {tg : Expr} {p pos : Pos} {e : Expr} {f} (h : SL S e f) (hm : S.mg "reversed" = none) (hg : glB S.sc "reversed" = true := by kernel_rfl) (hs : ∀ X : Cx, starEach [e] X.env = [(false, eval e X.env)] := by intro _; rfl) : SI S tg (.Call (.Name "reversed" p) [e] [] pos) (iRev' f) := by
  obtain ⟨t, a1, a2⟩ := h
  refine ⟨L2.iRev S.K (tCons t tNil), fun X ok => ok.K ▸ pi_reversed (ok.gl hg) (by rw [ok.mg]; exact hm) (pa_cons (a1 X ok) pa_nil (by rw [hs X]; rfl)) (hs X), fun Γ σ H0 F H R ds E hf k => ?_⟩
  unfold iRev' at hf
  split at hf
  · next xs q =>
    cases hf
    refine a2 Γ σ H0 F H _ _ E q fun v F1 H1 u1 l1 => ?_
    obtain ⟨a, vs, rfl, q1, q2⟩ := l1.list u1.fh
    exact ⟨a, vs, rfl, q1, k _ F1 H1 u1 (itR_rev q1 q2)⟩
  · cases hf
def iR1 (f : En → Option PyData) : En → Option (List PyData) := fun Γ => match f Γ with
  | some (.int j) => if -(big (2 ^ 62) : Int) ≤ j ∧ j < (big (2 ^ 62) : Int) then some (rngD 0 j.toNat) else none
  | _ => none
theorem siv_range1 {tg : Expr} {p pos : Pos} {e : Expr} {f} (h : SL S e f) (hm : S.mg "range" = none) (hg : glB S.sc "range" = true := by kernel_rfl) (hs : ∀ X : Cx, starEach [e] X.env = [(false, eval e X.env)] := by intro _; rfl) : SIV S tg (.Call (.Name "range" p) [e] [] pos) (iR1 f) := by
  obtain ⟨t, a1, a2⟩ := h
  refine ⟨iRng1 (tCons t tNil), fun X ok => pi_range1 (ok.gl hg) (by rw [ok.mg]; exact hm) (pa_cons (a1 X ok) pa_nil (by rw [hs X]; rfl)) (hs X), fun Γ σ H0 F H R ds E hf k => ?_⟩
  unfold iR1 at hf
  split at hf
  · next j q =>
    split at hf
    · next hj =>
      cases hf
      refine a2 Γ σ H0 F H _ _ E q fun v F1 H1 u1 l1 => ?_
      rw [big_eq] at hj
      exact ⟨j, by rw [l1.int], hj.1, hj.2, k _ F1 H1 u1 itR_rng⟩
    · cases hf
  · cases hf
def iR2 (f g : En → Option PyData) : En → Option (List PyData) := fun Γ => match f Γ, g Γ with
  | some (.int i), some (.int j) => if (-(big (2 ^ 62) : Int) ≤ i ∧ i < (big (2 ^ 62) : Int)) ∧ -(big (2 ^ 62) : Int) ≤ j ∧ j < (big (2 ^ 62) : Int) then some (rngD i (j - i).toNat) else none
  | _, _ => none
theorem siv_range2 {tg : Expr} {p pos : Pos} {e e2 : Expr} {f g} (h : SL S e f) (h2 : SL S e2 g) (hm : S.mg "range" = none) (hg : glB S.sc "range" = true := by kernel_rfl)
    (hs : ∀ X : Cx, starEach [e, e2] X.env = [(false, eval e X.env), (false, eval e2 X.env)] := by intro _; rfl) (hs2 : ∀ X : Cx, starEach [e2] X.env = [(false, eval e2 X.env)] := by intro _; rfl) : SIV S tg (.Call (.Name "range" p) [e, e2] [] pos) (iR2 f g) := by
  obtain ⟨t, a1, a2⟩ := h
  obtain ⟨u, b1, b2⟩ := h2
  refine ⟨iRng2 (tCons t (tCons u tNil)), fun X ok => pi_range2 (ok.gl hg) (by rw [ok.mg]; exact hm) (pa_cons (a1 X ok) (pa_cons (b1 X ok) pa_nil (by rw [hs2 X]; rfl)) (by rw [hs X, hs2 X])) (hs X) (hs2 X), fun Γ σ H0 F H R ds E hf k => ?_⟩
  unfold iR2 at hf
  split at hf
  · next i j q q' =>
    split at hf
    · next hj =>
      cases hf
      refine a2 Γ σ H0 F H _ _ E q fun v F1 H1 u1 l1 => ?_
      refine b2 Γ σ H0 F1 H1 _ _ (E.mono u1) q' fun v2 F2 H2 u2 l2 => ?_
      rw [big_eq] at hj
      exact ⟨i, j, by rw [l1.int, l2.int], ⟨hj.1.1, hj.1.2, hj.2.1, hj.2.2⟩, k _ F2 H2 (u1.trans u2) itR_rng⟩
    · cases hf
  · cases hf
/-! ### targets -/
/-- the slots js alone are changed -/
def Agr (js : List Nat) (σ σ' : St) : Prop := σ'.length = σ.length ∧ ∀ k, k ∉ js → σ'[k]? = σ[k]?
def SG (S : Sx) (tg : Expr) (js : List Nat) (g : PyData → En → Option En) : Prop :=
  ∃ t : TG, (∀ X, S.Ok X → PG X tg t) ∧ ∀ H0 F H Γ σ v d Γ' Q, EnR S.K H0 F H Γ σ → Dp S.K F v d → g d Γ = some Γ' → (∀ σ', Agr js σ σ' → EnR S.K H0 F H Γ' σ' → Q σ' H) → t v σ H Q
def setE (i : Nat) (s : Sl) (Γ : En) : En := Γ.set i (some s)
theorem EnR.set_fz {K : PySem.W.Frag} {H0 F H : Hp} {Γ : En} {σ : St} {v : V} {d : PyData} (i : Nat) (E : EnR K H0 F H Γ σ) (hd : Dp K F v d) : EnR K H0 F H (setE i (.fz d) Γ) (σ.set i (some v)) := by
  have ln := E.ln
  refine ⟨E.fh, fun j s h => ?_, fun j xs a h1 h2 => ?_, fun j k xs ys a h1 h2 h3 h4 => ?_, by unfold setE; rw [List.length_set, List.length_set]; exact ln⟩
  · unfold setE at h
    rw [List.getElem?_set] at h ⊢
    split at h
    · next e =>
      split at h
      · cases h
        exact ⟨v, by rw [if_pos e, if_pos (by omega)], hd⟩
      · cases h
    · next e => rw [if_neg e]; exact E.sl j s h
  · unfold setE at h1
    rw [List.getElem?_set] at h1 h2
    split at h1
    · split at h1 <;> cases h1
    · next e => rw [if_neg e] at h2; exact E.nw j xs a h1 h2
  · unfold setE at h1 h2
    rw [List.getElem?_set] at h1 h2 h3 h4
    split at h1
    · split at h1 <;> cases h1
    · next e =>
      split at h2
      · split at h2 <;> cases h2
      · next e' => rw [if_neg e] at h3; rw [if_neg e'] at h4; exact E.ds j k xs ys a h1 h2 h3 h4
theorem agr_set (σ : St) (i : Nat) (v : Option V) : Agr [i] σ (σ.set i v) := ⟨List.length_set .., fun k hk => by rw [List.getElem?_set_ne (fun e : i = k => hk (by rw [e]; exact List.mem_cons_self))]⟩
def gNm (i : Nat) : PyData → En → Option En := fun d Γ => some (setE i (.fz d) Γ)
theorem sg_name (i : Nat) {x : Str} {pos : Pos} (hN : S.N[i]? = some x := by rfl) (hx : locB S.sc x = true := by kernel_rfl) (hf : (S.fn x || (S.sc.names.lookup x == some NameKind.local)) = true := by kernel_rfl) : SG S (.Name x pos) [i] (gNm i) := by
  refine ⟨gName i, fun X ok => pg_name (by rw [ok.N]; exact ok.nd) (by rw [ok.N]; exact hN) (by rw [ok.sc]; exact loc_of hx) ?_, fun H0 F H Γ σ v d Γ' Q E hd hg k => ?_⟩
  · rw [ok.fn, ok.sc]
    rw [Bool.or_eq_true] at hf
    exact hf.imp id fun h => by simpa using h
  · cases hg
    exact k _ (agr_set σ i _) (E.set_fz i hd)
def SGs (S : Sx) (ts : List Expr) (js : List Nat) (g : List PyData → En → Option En) : Prop :=
  ∃ t : TGs, (∀ X, S.Ok X → PGs X ts t) ∧ ∀ H0 F H Γ σ vs ds Γ' Q, EnR S.K H0 F H Γ σ → DpAll S.K F vs ds → g ds Γ = some Γ' → (∀ σ', Agr js σ σ' → EnR S.K H0 F H Γ' σ' → Q σ' H) → t vs σ H Q
def gsNil : List PyData → En → Option En := fun ds Γ => match ds with
  | [] => some Γ
  | _ => none
def gsCons (g : PyData → En → Option En) (h : List PyData → En → Option En) : List PyData → En → Option En := fun ds Γ => match ds with
  | d :: r => (g d Γ).bind (h r)
  | [] => none
theorem sgs_nil : SGs S [] [] gsNil := ⟨gNil, fun X _ => pgs_nil, fun H0 F H Γ σ vs ds Γ' Q E hd hg k => by
  cases hd with
  | nil => cases hg; exact ⟨rfl, k σ ⟨rfl, fun _ _ => rfl⟩ E⟩
  | cons _ _ => cases hg⟩
theorem sgs_cons {e : Expr} {es : List Expr} {js ks : List Nat} {g h} (h1 : SG S e js g) (h2 : SGs S es ks h) (hs : ∀ X : Cx, (assignEach (e :: es) X.env).map (·.2) = assign e X.env :: (assignEach es X.env).map (·.2) := by intro _; rfl) : SGs S (e :: es) (js ++ ks) (gsCons g h) := by
  obtain ⟨t, a1, a2⟩ := h1
  obtain ⟨u, b1, b2⟩ := h2
  refine ⟨gCons t u, fun X ok => pgs_cons (a1 X ok) (b1 X ok) (hs X), fun H0 F H Γ σ vs ds Γ' Q E hd hg k => ?_⟩
  cases hd with
  | nil => cases hg
  | cons d1 d2 =>
    unfold gsCons at hg
    simp only at hg
    cases q : g _ Γ with
    | none => rw [q] at hg; cases hg
    | some Γ1 =>
      rw [q] at hg
      refine ⟨_, _, rfl, a2 H0 F H Γ σ _ _ Γ1 _ E d1 q fun σ1 r1 E1 => ?_⟩
      refine b2 H0 F H Γ1 σ1 _ _ Γ' Q E1 d2 hg fun σ2 r2 E2 => k σ2 ⟨r2.1.trans r1.1, fun j hj => ?_⟩ E2
      rw [List.mem_append, not_or] at hj
      exact (r2.2 j hj.2).trans (r1.2 j hj.1)
def gTpl (n : Nat) (h : List PyData → En → Option En) : PyData → En → Option En := fun d Γ => match d with
  | .tuple ds => if ds.length = n then h ds Γ else none
  | _ => none
theorem sg_tup {es : List Expr} {kk : Nat} {pos : Pos} {js : List Nat} {n : Nat} {h} (h1 : SGs S es js h) (hn : ∀ X : Cx, (assignEach es X.env).length = n := by intro _; rfl) (hst : ∀ X : Cx, (assignEach es X.env).findIdx? (·.1) = none := by intro _; rfl) : SG S (.Tuple es kk pos) js (gTpl n h) := by
  obtain ⟨t, a1, a2⟩ := h1
  refine ⟨gTup S.K n t, fun X ok => ok.K ▸ pg_tup ok.calm (a1 X ok) (hn X) (hst X), fun H0 F H Γ σ v d Γ' Q E hd hg k => ?_⟩
  unfold gTpl at hg
  split at hg
  · split at hg
    · next hl =>
      cases hd with
      | tup q1 q2 => exact ⟨_, _, rfl, same_sqT E.fh q1, by rw [q2.length]; exact hl, a2 H0 F H Γ σ _ _ Γ' Q E q2 hg k⟩
    · cases hg
  · cases hg
/-! ### comprehensions -/
def wipeE (Γ : En) : List Nat → En
  | [] => Γ
  | v :: vs => (wipeE Γ vs).set v none
theorem wipeE_len (Γ : En) : ∀ vs, (wipeE Γ vs).length = Γ.length
  | [] => rfl
  | v :: vs => by unfold wipeE; rw [List.length_set, wipeE_len Γ vs]
theorem wipe_get (σ : St) : ∀ (vs : List Nat) (k : Nat), (wipe σ vs)[k]? = if k ∈ vs then (if k < σ.length then some none else none) else σ[k]?
  | [], k => by simp [wipe]
  | v :: vs, k => by
    unfold wipe
    rw [List.getElem?_set, wipe_length, wipe_get σ vs k]
    by_cases e : v = k
    · subst e; simp
    · rw [if_neg e]
      by_cases h : k ∈ vs
      · rw [if_pos h, if_pos (List.mem_cons_of_mem _ h)]
      · rw [if_neg h, if_neg (fun q => (List.mem_cons.mp q).elim (fun z => e z.symm) h)]
theorem wipeE_get (Γ : En) : ∀ (vs : List Nat) (k : Nat), (wipeE Γ vs)[k]? = if k ∈ vs then (if k < Γ.length then some none else none) else Γ[k]?
  | [], k => by simp [wipeE]
  | v :: vs, k => by
    unfold wipeE
    rw [List.getElem?_set, wipeE_len, wipeE_get Γ vs k]
    by_cases e : v = k
    · subst e; simp
    · rw [if_neg e]
      by_cases h : k ∈ vs
      · rw [if_pos h, if_pos (List.mem_cons_of_mem _ h)]
      · rw [if_neg h, if_neg (fun q => (List.mem_cons.mp q).elim (fun z => e z.symm) h)]
theorem wipe_agr {σ σ' : St} {js vs : List Nat} (h : Agr js (wipe σ vs) σ') (hj : ∀ j ∈ js, j ∈ vs) : wipe σ' vs = wipe σ vs := by
  apply List.ext_getElem?
  intro k
  rw [wipe_get σ' vs k, h.1, wipe_length]
  by_cases e : k ∈ vs
  · rw [if_pos e, wipe_get σ vs k, if_pos e]
  · rw [if_neg e, h.2 k fun q => e (hj k q)]
theorem EnR.wipe {K : PySem.W.Frag} {H0 F H : Hp} {Γ : En} {σ : St} (E : EnR K H0 F H Γ σ) (vs : List Nat) : EnR K H0 F H (wipeE Γ vs) (L2.wipe σ vs) := by
  have some_of : ∀ {k : Nat} {s : Sl}, (wipeE Γ vs)[k]? = some (some s) → k ∉ vs ∧ Γ[k]? = some (some s) := fun {k s} h => by
    rw [wipeE_get] at h
    split at h
    · split at h <;> cases h
    · next e => exact ⟨e, h⟩
  have get : ∀ {k : Nat}, k ∉ vs → (L2.wipe σ vs)[k]? = σ[k]? := fun {k} h => by rw [wipe_get, if_neg h]
  refine ⟨E.fh, fun i s h => ?_, fun i xs a h1 h2 => ?_, fun i j xs ys a h1 h2 h3 h4 => ?_, by rw [wipeE_len, wipe_length]; exact E.ln⟩
  · obtain ⟨h1, h2⟩ := some_of h
    obtain ⟨v, h3, h4⟩ := E.sl i s h2
    exact ⟨v, by rw [get h1]; exact h3, h4⟩
  · obtain ⟨q1, q2⟩ := some_of h1
    rw [get q1] at h2
    exact E.nw i xs a q2 h2
  · obtain ⟨q1, q2⟩ := some_of h1
    obtain ⟨q3, q4⟩ := some_of h2
    rw [get q1] at h3
    rw [get q3] at h4
    exact E.ds i j xs ys a q2 q4 h3 h4
/-- the static side of a block -/
def Sx.blk (S : Sx) (scope : Scope) : Sx := { S with sc := relS scope S.sc, fn := fun x => scope.names.lookup x == some .cell }
theorem Sx.Ok.blk {S : Sx} {X : Cx} (ok : S.Ok X) (s : Shared) (H : Hp) (scope : Scope) (C : Addr) (cl : List (Str × Addr)) (fp : List Addr) : (S.blk scope).Ok (X.blk s H scope (compEnvC scope cl C X.env) fp) where
  P := ok.P
  w := ok.w
  K := ok.K
  mg := ok.mg
  base := ok.base
  N := ok.N
  sc := by
    show relabel scope X.env = relS scope S.sc
    rw [← ok.sc]; rfl
  room := ok.room
  calm := ok.calm
  nd := ok.nd
  fn := rfl
  pass := PassesOwn.never
def SC (S : Sx) (ifs : List Expr) (f : En → Option Bool) : Prop :=
  ∃ t : TT, (∀ X, S.Ok X → PTs X ifs t) ∧ ∀ Γ σ H0 F H Q b, EnR S.K H0 F H Γ σ → f Γ = some b → (∀ F' H', Sub F H F' H' → Q b H') → t σ H Q
def bYes : En → Option Bool := fun _ => some true
theorem sc_nil : SC S [] bYes := ⟨tYes, fun X _ => pts_nil, fun Γ σ H0 F H Q b E hf k => by cases hf; exact k F H (.refl E.fh)⟩
theorem sc_one {c : Expr} {f} (h : ST S c f) : SC S [c] f := by
  obtain ⟨t, a1, a2⟩ := h
  exact ⟨t, fun X ok => pts_one (a1 X ok), a2⟩
def lcD (g : PyData → En → Option En) (c : En → Option Bool) (fe : En → Option PyData) (Γ : En) : List PyData → Option (List PyData)
  | [] => some []
  | x :: xs => (g x Γ).bind fun Γ1 => (c Γ1).bind fun b => if b = true then (fe Γ1).bind fun y => (lcD g c fe Γ xs).map (y :: ·) else lcD g c fe Γ xs
theorem lcD_len {g c fe Γ} : ∀ {xs ys : List PyData}, lcD g c fe Γ xs = some ys → ys.length ≤ xs.length
  | [], ys, h => by cases h; exact Nat.le_refl _
  | x :: xs, ys, h => by
    unfold lcD at h
    cases q1 : g x Γ with
    | none => rw [q1] at h; cases h
    | some Γ1 =>
      rw [q1] at h
      simp only [Option.bind_some] at h
      cases q2 : c Γ1 with
      | none => rw [q2] at h; cases h
      | some b =>
        rw [q2] at h
        simp only [Option.bind_some] at h
        split at h
        · cases q3 : fe Γ1 with
          | none => rw [q3] at h; cases h
          | some y =>
            rw [q3] at h
            simp only [Option.bind_some] at h
            cases q4 : lcD g c fe Γ xs with
            | none => rw [q4] at h; cases h
            | some r =>
              rw [q4] at h; cases h
              have := lcD_len q4
              simp; omega
        · have := lcD_len h
          simp; omega
def vLc (items : En → Option (List PyData)) (g : PyData → En → Option En) (c : En → Option Bool) (fe : En → Option PyData) (vs : List Nat) : En → Option Sl := fun Γ =>
  (items Γ).bind fun ds => if ds.length < cap then (lcD g c fe (wipeE Γ vs) ds).map Sl.ow else none
theorem lc_sem {scope : Scope} {vs js : List Nat} {wi : TI} {t : TG} {tt : TT} {te : TE} {fi g c fe}
    (hi : ∀ Γ σ H0 F H R ds, EnR S.K H0 F H Γ σ → fi Γ = some ds → (∀ J F' H', Sub F H F' H' → ItR S.K F' H' J ds → R J H') → wi σ H R)
    (hg : ∀ H0 F H Γ σ v d Γ' Q, EnR S.K H0 F H Γ σ → Dp S.K F v d → g d Γ = some Γ' → (∀ σ', Agr js σ σ' → EnR S.K H0 F H Γ' σ' → Q σ' H) → t v σ H Q)
    (hc : ∀ Γ σ H0 F H Q b, EnR S.K H0 F H Γ σ → c Γ = some b → (∀ F' H', Sub F H F' H' → Q b H') → tt σ H Q)
    (he : ∀ Γ σ H0 F H Q d, EnR S.K H0 F H Γ σ → fe Γ = some d → (∀ v F' H', Sub F H F' H' → Dp S.K F' v d → Q v H') → te σ H Q) (hj : ∀ j ∈ js, j ∈ vs) :
    ∀ Γ σ H0 F H Q s, EnR S.K H0 F H Γ σ → vLc fi g c fe vs Γ = some s → (∀ v F' H', Sub F H F' H' → SlN S.K H F' H' s v → Q v H') → tLc wi t tt te vs σ H Q := by
  intro Γ σ H0 F H Q s E hf k
  unfold vLc at hf
  cases q : fi Γ with
  | none => rw [q] at hf; cases hf
  | some ds =>
    rw [q] at hf
    simp only [Option.bind_some] at hf
    split at hf
    · next hz =>
      cases q2 : lcD g c fe (wipeE Γ vs) ds with
      | none => rw [q2] at hf; cases hf
      | some out =>
        rw [q2] at hf; cases hf
        refine hi Γ σ H0 F H _ ds E q fun J F1 H1 u1 it D hD => ?_
        refine ⟨fun i m H2 => m = ds.length - i ∧ i ≤ ds.length ∧ ∃ F2 acc ys rest, Same F1 F2 ∧ Same F2 H2 ∧ Same H1 H2 ∧ (∀ a o, H1 a = some o → F1 a = none → F2 a = none) ∧ F2 D = none ∧ H2 D = some (.lst acc) ∧ DpAll S.K F2 acc ys ∧ acc.length ≤ i ∧
          lcD g c fe (wipeE Γ vs) (ds.drop i) = some rest ∧ ys ++ rest = out, ⟨ds.length, by simp, Nat.zero_le _, F1, [], [], out, .refl _, u1.fh.trans (same_new hD), same_new hD, fun _ _ _ h => h, u1.fh.free hD, upd_same, .nil, Nat.le_refl _, by simpa using q2, rfl⟩, ?_⟩
        rintro i m H2 ⟨rfl, hi', F2, acc, ys, rest, s1, s2, s3, own, fD, hacc, hda, hal, hr, hout⟩
        have u2 : Sub F H F2 H2 := ⟨u1.f.trans s1, u1.h.trans s3, s2, fun a o h1 h2 => own a o (u1.h a o h1) (u1.o a o h1 h2)⟩
        have E2 : EnR S.K H0 F2 H2 (wipeE Γ vs) (L2.wipe σ vs) := (E.wipe vs).mono u2
        obtain ⟨go, stop⟩ := it i F2 H2 s1 s2 s3
        by_cases hlt : i < ds.length
        · obtain ⟨g1, g2⟩ := go hlt
          refine .inr ⟨g1, fun H' => ∃ F3 acc' ys' rest', Same F1 F3 ∧ Same F3 H' ∧ Same H1 H' ∧ (∀ a o, H1 a = some o → F1 a = none → F3 a = none) ∧ F3 D = none ∧ H' D = some (.lst acc') ∧ DpAll S.K F3 acc' ys' ∧ acc'.length ≤ i + 1 ∧
            lcD g c fe (wipeE Γ vs) (ds.drop (i + 1)) = some rest' ∧ ys' ++ rest' = out, fun H' z => ⟨ds.length - (i + 1), by omega, rfl, hlt, z⟩, fun x H3 yl => ?_⟩
          obtain ⟨F3, d, hd, u3, hx⟩ := g2 x H3 yl
          have hdr : ds.drop i = d :: ds.drop (i + 1) := by
            obtain ⟨h1, h2⟩ := List.getElem?_eq_some_iff.mp hd
            rw [List.drop_eq_getElem_cons h1, h2]
          rw [hdr] at hr
          unfold lcD at hr
          cases r1 : g d (wipeE Γ vs) with
          | none => rw [r1] at hr; cases hr
          | some Γ1 =>
            rw [r1] at hr
            simp only [Option.bind_some] at hr
            cases r2 : c Γ1 with
            | none => rw [r2] at hr; cases hr
            | some b =>
              rw [r2] at hr
              simp only [Option.bind_some] at hr
              refine hg H0 F3 H3 _ _ x d Γ1 _ (E2.mono u3) hx r1 fun σ2 ag E3 => ⟨wipe_agr ag hj, ?_⟩
              refine hc Γ1 σ2 H0 F3 H3 _ b E3 r2 fun F4 H4 u4 => ?_
              have u34 := u3.trans u4
              have D4 : H4 D = some (.lst acc) := u34.h D _ hacc
              have fD4 : F4 D = none := u34.o D _ hacc fD
              cases b with
              | false =>
                rw [if_neg Bool.false_ne_true] at hr
                refine iteF ⟨F4, acc, ys, rest, s1.trans u34.f, u34.fh, s3.trans u34.h, fun a o h1 h2 => u34.o a o (s3 a o h1) (own a o h1 h2), fD4, D4, dpAll_mono u34.f hda, Nat.le_succ_of_le hal, hr, hout⟩
              | true =>
                rw [if_pos rfl] at hr
                cases r3 : fe Γ1 with
                | none => rw [r3] at hr; cases hr
                | some y =>
                  rw [r3] at hr
                  simp only [Option.bind_some] at hr
                  cases r4 : lcD g c fe (wipeE Γ vs) (ds.drop (i + 1)) with
                  | none => rw [r4] at hr; cases hr
                  | some rest' =>
                    rw [r4] at hr; cases hr
                    refine iteT (he Γ1 σ2 H0 F4 H4 _ y (E3.mono u4) r3 fun v F5 H5 u5 hv => ?_)
                    have D5 : H5 D = some (.lst acc) := u5.h D _ D4
                    have fD5 : F5 D = none := u5.o D _ D4 fD4
                    refine ⟨acc, D5, cap_lt (Nat.lt_of_le_of_lt hal (Nat.lt_trans hlt hz)), F5, acc ++ [v], ys ++ [y], rest', (s1.trans u34.f).trans u5.f, fun b o e => ?_, fun b o e => ?_, fun a o h1 h2 => u5.o a o (u34.h a o (s3 a o h1)) (u34.o a o (s3 a o h1) (own a o h1 h2)), fD5, upd_same, (dpAll_mono (u34.f.trans u5.f) hda).snoc hv, by rw [List.length_append]; exact Nat.succ_le_succ hal, rfl, by rw [List.append_assoc]; exact hout⟩
                    · rw [upd_ne (fun z => by rw [z, fD5] at e; cases e)]; exact u5.fh b o e
                    · rw [upd_ne (ne_of_none e hD)]; exact u5.h b o (u34.h b o (s3 b o e))
        · have e : i = ds.length := by omega
          subst e
          rw [List.drop_length] at hr
          cases hr
          rw [List.append_nil] at hout
          subst hout
          refine .inl ⟨stop (Nat.le_refl _), k _ F2 H2 u2 ⟨⟨D, acc, rfl, fD, hacc, hda⟩, fun _ a _ e => ?_⟩⟩
          cases e
          exact u1.h.free hD
    · cases hf
theorem se_lc {elt tg iter : Expr} {ifs : List Expr} {scope : Scope} {pos : Pos} (own : List (Str × Nat)) {js : List Nat} {fi g c fe} (hi : SI S tg iter fi) (ok : blkC S.N S.sc scope own = true) (hg : SG (S.blk scope) tg js g) (hc : SC (S.blk scope) ifs c) (he : SV (S.blk scope) elt fe) (hj : ∀ j ∈ js, j ∈ own.map (·.2))
    (hs : ∀ (X : Cx) x, foldedSetIterable iter X.env x = pure x := by intro _ _; rfl) : SE S (.ListComp elt [⟨tg, iter, ifs, 0⟩] scope pos) (vLc fi g c fe (own.map (·.2))) := by
  obtain ⟨wi, i1, i2⟩ := hi
  obtain ⟨t, g1, g2⟩ := hg
  obtain ⟨tt, c1, c2⟩ := hc
  obtain ⟨te, e1, e2⟩ := he
  refine ⟨tLc wi t tt te (own.map (·.2)), fun X okx => ?_, lc_sem (scope := scope) i2 g2 c2 e2 hj⟩
  exact pe_lc okx.calm (by rw [okx.N]; exact okx.nd) (i1 X okx) (by rw [okx.N, okx.sc]; exact blkOk_by ok) (fun s H C cl fp => g1 _ (okx.blk s H scope C cl fp)) (fun s H C cl fp => c1 _ (okx.blk s H scope C cl fp)) (fun s H C cl fp => e1 _ (okx.blk s H scope C cl fp)) (hs X)
theorem FnD.blk {S : Sx} {x : Str} {ps : List Str} {m} (scope : Scope) (G : FnD S x ps m) : FnD (S.blk scope) x ps m := ⟨G.ex⟩
def ALen (g : En → Option (List PyData)) (n : Nat) : Prop := ∀ Γ ds, g Γ = some ds → ds.length = n
theorem alen_nil : ALen aNil 0 := fun Γ ds h => by cases h; rfl
theorem alen_cons {f g} {n : Nat} (h : ALen g n) : ALen (aCons f g) (n + 1) := fun Γ ds e => by
  unfold aCons at e
  cases q : f Γ with
  | none => rw [q] at e; cases e
  | some d =>
    rw [q] at e
    cases q2 : g Γ with
    | none => rw [q2] at e; cases e
    | some r => rw [q2] at e; cases e; rw [List.length_cons, h Γ r q2]
end
end
end Bd

namespace Bd
open PySem L2
noncomputable section
section
variable {X : Cx}
def rExtS (K : PySem.W.Frag) : V → List V → Hp → VK → Prop := fun x vs H Q => ∃ l b xs zs, x = .ref l ∧ vs = [.ref b] ∧ H l = some (.lst xs) ∧ SqL K H b zs ∧ xs.length + zs.length ≤ sizeLine ∧ Q .non (upd H l (.lst (xs ++ zs)))
theorem mt_extS : MtR X "list.extend" (rExtS X.K) := by
  intro pins s σ H x vs v us Q I rx rv h
  obtain ⟨l, b, xs, zs, rfl, rfl, hH, hB, hz, q⟩ := h
  cases rx
  obtain ⟨u, rfl, ru⟩ := rv.one
  cases ru
  obtain ⟨z, its, n, r, hl, e⟩ := I.lstM hH
  obtain ⟨its2, r2, ⟨o2, n2, e2, c2, d2, dt2⟩, z2⟩ := I.list hB
  have l1 := r.length
  have l2 := r2.length
  refine wpAny_call_entry PySem.F.slot_list_extend ⟨_, e, rfl⟩ PySem.F.entry_list_extend ?_ (PySem.F.args_list_extend_2 _ _)
  show wpAny _ _ (Builtin.List.listExtendWith (.ref l) (.ref b) .none) _ _ _
  unfold Builtin.List.listExtendWith
  refine wpAny_bind (wpAny_typeOf (T := "list") ⟨o2, e2, c2⟩ ?_)
  rw [if_pos (by rw [show (Value.type "list" == Value.type "list") = true from rfl]; simp)]
  refine wpAny_bind (PyProof.Rows.listItems_at e2 dt2 ?_)
  refine wpAny_bind (PyProof.Rows.listItems_at e rfl ?_)
  dsimp only
  rw [if_neg (by rw [notLongL (by simp only [List.size_toArray]; omega), Bool.and_false]; exact Bool.false_ne_true)]
  refine wpAny_bind (PyProof.Rows.listUpdate_at (hsz := by rw [List.size_toArray]; omega) (hsz2 := by simp only [Array.size_append, List.size_toArray]; omega) e rfl ?_)
  refine wpAny_pure ⟨_, rfl, .non, _, I.lset (its' := its ++ its2) (t' := s.toks) hH e (by simp) (r.append r2) ?_, rfl, q⟩
  rw [List.length_append]; exact hz
end

/-! ### statements -/
inductive Out where
  | nx (Γ : En) | rt (s : Sl) | bk (Γ : En) | ct (Γ : En)
/-- F0, H0: the heap at the entry -/
structure StR (K : PySem.W.Frag) (F0 H0 F H : Hp) (Γ : En) (σ : St) : Prop where
  en : EnR K H0 F H Γ σ
  su : Sub F0 H0 F H
/-- of the slots that aren't in T nothing is changed -/
def Kp (T : List Nat) (Γ : En) (σ : St) (H : Hp) (Γ' : En) (σ' : St) (H' : Hp) : Prop :=
  ∀ (j : Nat), j ∉ T → Γ'[j]? = Γ[j]? ∧ σ'[j]? = σ[j]? ∧ ∀ xs a, Γ[j]? = some (some (.ow xs)) → σ[j]? = some (some (.ref a)) → H' a = H a
theorem Kp.trans {T U : List Nat} {Γ Γ1 Γ2 : En} {σ σ1 σ2 : St} {H H1 H2 : Hp} (a : Kp T Γ σ H Γ1 σ1 H1) (b : Kp U Γ1 σ1 H1 Γ2 σ2 H2) : Kp (T ++ U) Γ σ H Γ2 σ2 H2 := fun j hj => by
  rw [List.mem_append, not_or] at hj
  obtain ⟨a1, a2, a3⟩ := a j hj.1
  obtain ⟨b1, b2, b3⟩ := b j hj.2
  exact ⟨b1.trans a1, b2.trans a2, fun xs x h1 h2 => (b3 xs x (a1.trans h1) (a2.trans h2)).trans (a3 xs x h1 h2)⟩
theorem Kp.mono {T U : List Nat} {Γ Γ1 : En} {σ σ1 : St} {H H1 : Hp} (a : Kp T Γ σ H Γ1 σ1 H1) (h : ∀ j ∈ T, j ∈ U) : Kp U Γ σ H Γ1 σ1 H1 := fun j hj => a j fun q => hj (h j q)
theorem Kp.refl {Γ : En} {σ : St} {H : Hp} : Kp [] Γ σ H Γ σ H := fun j _ => ⟨rfl, rfl, fun _ _ _ _ => rfl⟩
theorem EnR.kp {K : PySem.W.Frag} {H0 F H H' : Hp} {Γ : En} {σ : St} (E : EnR K H0 F H Γ σ) (s : Same H H') : Kp [] Γ σ H Γ σ H' := fun j _ => ⟨rfl, rfl, fun xs a h1 h2 => by
  obtain ⟨v, e1, b, vs, rfl, _, e2, _⟩ := E.sl j _ h1
  rw [h2] at e1; cases e1
  rw [e2, s _ _ e2]⟩
def EndR (K : PySem.W.Frag) (F0 H0 : Hp) (T : List Nat) (Γ0 : En) (σ0 : St) (Hs : Hp) (D : Ends) : Out → Prop
  | .nx Γ => ∀ σ F H, StR K F0 H0 F H Γ σ → Kp T Γ0 σ0 Hs Γ σ H → D.nx σ H
  | .bk Γ => ∀ σ F H, StR K F0 H0 F H Γ σ → Kp T Γ0 σ0 Hs Γ σ H → D.bk σ H
  | .ct Γ => ∀ σ F H, StR K F0 H0 F H Γ σ → Kp T Γ0 σ0 Hs Γ σ H → D.ct σ H
  | .rt s => ∀ v F H, Sub F0 H0 F H → SlN K H0 F H s v → D.rt v H
def SS (S : Sx) (st : Stmt) (T : List Nat) (g : En → Option Out) : Prop :=
  ∃ t : TS, (∀ X, S.Ok X → PS X st t) ∧ ∀ F0 H0 F H Γ σ D o, StR S.K F0 H0 F H Γ σ → g Γ = some o → EndR S.K F0 H0 T Γ σ H D o → t D σ H
def SSs (S : Sx) (sts : List Stmt) (T : List Nat) (g : En → Option Out) : Prop :=
  ∃ t : TS, (∀ X, S.Ok X → PSs X sts t) ∧ ∀ F0 H0 F H Γ σ D o, StR S.K F0 H0 F H Γ σ → g Γ = some o → EndR S.K F0 H0 T Γ σ H D o → t D σ H
theorem EndR.step {K : PySem.W.Frag} {F0 H0 Hs H1 : Hp} {T U : List Nat} {Γ0 Γ1 : En} {σ0 σ1 : St} {D : Ends} {o : Out} (k : EndR K F0 H0 (T ++ U) Γ0 σ0 Hs D o) (a : Kp T Γ0 σ0 Hs Γ1 σ1 H1) : EndR K F0 H0 U Γ1 σ1 H1 D o := by
  cases o with
  | nx Γ => exact fun σ F H R z => k σ F H R (a.trans z)
  | bk Γ => exact fun σ F H R z => k σ F H R (a.trans z)
  | ct Γ => exact fun σ F H R z => k σ F H R (a.trans z)
  | rt s => exact k
theorem EndR.wide {K : PySem.W.Frag} {F0 H0 Hs : Hp} {T U : List Nat} {Γ0 : En} {σ0 : St} {D : Ends} {o : Out} (k : EndR K F0 H0 U Γ0 σ0 Hs D o) (h : ∀ j ∈ T, j ∈ U) : EndR K F0 H0 T Γ0 σ0 Hs D o := by
  cases o with
  | nx Γ => exact fun σ F H R z => k σ F H R (z.mono h)
  | bk Γ => exact fun σ F H R z => k σ F H R (z.mono h)
  | ct Γ => exact fun σ F H R z => k σ F H R (z.mono h)
  | rt s => exact k
theorem StR.mono {K : PySem.W.Frag} {F0 H0 F H F' H' : Hp} {Γ : En} {σ : St} (R : StR K F0 H0 F H Γ σ) (u : Sub F H F' H') : StR K F0 H0 F' H' Γ σ := ⟨R.en.mono u, R.su.trans u⟩
section
variable {S : Sx}
def oNil : En → Option Out := fun Γ => some (.nx Γ)
theorem ss_nil : SSs S [] [] oNil := ⟨tNext, fun X _ => pss_nil, fun F0 H0 F H Γ σ D o R hg k => by cases hg; exact k σ F H R .refl⟩
def oSeq (g h : En → Option Out) : En → Option Out := fun Γ => match g Γ with
  | some (.nx Γ') => h Γ'
  | r => r
theorem ss_cons {st : Stmt} {rest : List Stmt} {T U : List Nat} {g h} (h1 : SS S st T g) (h2 : SSs S rest U h) : SSs S (st :: rest) (T ++ U) (oSeq g h) := by
  obtain ⟨t, a1, a2⟩ := h1
  obtain ⟨u, b1, b2⟩ := h2
  refine ⟨tSeq t u, fun X ok => pss_cons (a1 X ok) (b1 X ok), fun F0 H0 F H Γ σ D o R hg k => ?_⟩
  unfold oSeq at hg
  cases q : g Γ with
  | none => rw [q] at hg; cases hg
  | some o1 =>
    rw [q] at hg
    refine a2 F0 H0 F H Γ σ _ o1 R q ?_
    cases o1 with
    | nx Γ' => exact fun σ1 F1 H1 R1 z => b2 F0 H0 F1 H1 Γ' σ1 D o R1 hg (k.step z)
    | rt s => cases hg; exact k
    | bk Γ' => cases hg; exact k.wide fun j h => List.mem_append_left _ h
    | ct Γ' => cases hg; exact k.wide fun j h => List.mem_append_left _ h
def oRet (f : En → Option Sl) : En → Option Out := fun Γ => (f Γ).map Out.rt
theorem ss_ret {e : Expr} {pos f} (h : SE S e f) : SS S (.Return (some e) pos) [] (oRet f) := by
  obtain ⟨t, a1, a2⟩ := h
  refine ⟨tRet t, fun X ok => ps_ret (a1 X ok), fun F0 H0 F H Γ σ D o R hg k => ?_⟩
  unfold oRet at hg
  cases q : f Γ with
  | none => rw [q] at hg; cases hg
  | some s =>
    rw [q] at hg; cases hg
    exact a2 Γ σ H0 F H _ s R.en q fun v F' H' u l => k v F' H' (R.su.trans u) (l.weak R.su.h)
/-- return x, x a list that was made here -/
def oRetV (i : Nat) : En → Option Out := fun Γ => match Γ[i]? with
  | some (some s) => some (.rt s)
  | _ => none
theorem ss_retv (i : Nat) {x : Str} {p pos : Pos} (hN : S.N[i]? = some x := by rfl) (hv : visB S.sc x = true := by kernel_rfl) (hd : (x == ("__debug__" : Str)) = false := by decide) (hcd : (x == ("__classdict__" : Str)) = false := by decide) : SS S (.Return (some (.Name x p)) pos) [] (oRetV i) := by
  refine ⟨tRet (tVar i), fun X ok => ps_ret (pe_var (by rw [ok.N]; exact hN) (by rw [ok.sc]; exact vis_of hv) hd hcd), fun F0 H0 F H Γ σ D o R hg k => ?_⟩
  unfold oRetV at hg
  split at hg
  · next s q =>
    cases hg
    obtain ⟨v, h1, h2⟩ := R.en.sl i s q
    refine ⟨v, h1, k v F H R.su ⟨h2, fun xs a e1 e2 => ?_⟩⟩
    subst e1 e2
    exact R.en.nw i xs a q h1
  · cases hg
theorem EnR.set_sl {K : PySem.W.Frag} {H0 F H F' H' : Hp} {Γ : En} {σ : St} {v : V} {s : Sl} (i : Nat) (E : EnR K H0 F H Γ σ) (s0 : Same H0 H) (u : Sub F H F' H') (h : SlN K H F' H' s v) : EnR K H0 F' H' (setE i s Γ) (σ.set i (some v)) := by
  have E' := E.mono u
  have ln := E.ln
  have old : ∀ (j : Nat) (xs : List PyData) (a : Addr), Γ[j]? = some (some (.ow xs)) → σ[j]? = some (some (.ref a)) → ∃ o, H a = some o := fun j xs a h1 h2 => by
    obtain ⟨v', e1, e2⟩ := E.sl j _ h1
    rw [h2] at e1; cases e1
    obtain ⟨a', vs, e3, _, e4, _⟩ := e2
    cases e3; exact ⟨_, e4⟩
  refine ⟨E'.fh, fun j s' hj => ?_, fun j xs a h1 h2 => ?_, fun j k xs ys a h1 h2 h3 h4 => ?_, by unfold setE; rw [List.length_set, List.length_set]; exact ln⟩
  · unfold setE at hj
    rw [List.getElem?_set] at hj ⊢
    split at hj
    · next e =>
      split at hj
      · cases hj
        exact ⟨v, by rw [if_pos e, if_pos (by omega)], h.1⟩
      · cases hj
    · next e => rw [if_neg e]; exact E'.sl j s' hj
  · unfold setE at h1
    rw [List.getElem?_set] at h1 h2
    split at h1
    · next e =>
      rw [if_pos e] at h2
      split at h1
      · cases h1
        split at h2
        · cases h2; exact s0.free (h.2 xs a rfl rfl)
        · cases h2
      · cases h1
    · next e => rw [if_neg e] at h2; exact E'.nw j xs a h1 h2
  · unfold setE at h1 h2
    rw [List.getElem?_set] at h1 h2 h3 h4
    by_cases e : i = j
    · by_cases e' : i = k
      · exact e.symm.trans e'
      · exfalso
        rw [if_pos e] at h1 h3
        rw [if_neg e'] at h2 h4
        split at h1
        · cases h1
          split at h3
          · cases h3
            obtain ⟨o, q⟩ := old k ys a h2 h4
            rw [h.2 xs a rfl rfl] at q; cases q
          · cases h3
        · cases h1
    · by_cases e' : i = k
      · exfalso
        rw [if_neg e] at h1 h3
        rw [if_pos e'] at h2 h4
        split at h2
        · cases h2
          split at h4
          · cases h4
            obtain ⟨o, q⟩ := old j xs a h1 h3
            rw [h.2 ys a rfl rfl] at q; cases q
          · cases h4
        · cases h2
      · rw [if_neg e] at h1 h3
        rw [if_neg e'] at h2 h4
        exact E'.ds j k xs ys a h1 h2 h3 h4
theorem kp_set {K : PySem.W.Frag} {H0 F H H' : Hp} {Γ : En} {σ : St} {i : Nat} {s : Sl} {v : Option V} (E : EnR K H0 F H Γ σ) (sm : Same H H') : Kp [i] Γ σ H (setE i s Γ) (σ.set i v) H' := fun j hj => by
  have ne : i ≠ j := fun e => hj (by rw [e]; exact List.mem_cons_self)
  obtain ⟨_, _, q⟩ := E.kp sm j (by simp)
  exact ⟨List.getElem?_set_ne ne, List.getElem?_set_ne ne, q⟩
theorem kp_write {K : PySem.W.Frag} {H0 F H H1 : Hp} {Γ : En} {σ : St} {i : Nat} {a : Addr} {s : Sl} {xs : List PyData} {o : HO} (E : EnR K H0 F H Γ σ) (sm : Same H H1) (hi : Γ[i]? = some (some (.ow xs))) (hs : σ[i]? = some (some (.ref a))) : Kp [i] Γ σ H (setE i s Γ) σ (upd H1 a o) := fun j hj => by
  have ne : i ≠ j := fun e => hj (by rw [e]; exact List.mem_cons_self)
  obtain ⟨_, _, q⟩ := E.kp sm j (by simp)
  refine ⟨List.getElem?_set_ne ne, rfl, fun ys b h1 h2 => ?_⟩
  have nb : b ≠ a := fun z => by subst z; exact ne (E.ds i j xs ys b hi h1 hs h2)
  rw [upd_ne nb]
  exact q ys b h1 h2
def oSet (i : Nat) (f : En → Option Sl) : En → Option Out := fun Γ => (f Γ).map fun s => .nx (setE i s Γ)
theorem fn_or {X : Cx} {x : Str} (ok : S.Ok X) (hf : (S.fn x || (S.sc.names.lookup x == some NameKind.local)) = true) : X.fn x = true ∨ X.env.scope.names.lookup x = some .local := by
  rw [ok.fn, ok.sc]
  rw [Bool.or_eq_true] at hf
  exact hf.imp id fun h => by simpa using h
theorem ss_set (i : Nat) {x : Str} {e : Expr} {p pos : Pos} {f} (h : SE S e f) (hN : S.N[i]? = some x := by rfl) (hx : locB S.sc x = true := by kernel_rfl) (hf : (S.fn x || (S.sc.names.lookup x == some NameKind.local)) = true := by kernel_rfl) (hs : ∀ X : Cx, swapsWith e (some (.Name x p)) pos.line X.env = pure false := by intro _; rfl) :
    SS S (.Assign [.Name x p] e pos) [i] (oSet i f) := by
  obtain ⟨t, a1, a2⟩ := h
  refine ⟨tAsg t (gName i), fun X ok => ps_set (by rw [ok.N]; exact ok.nd) (by rw [ok.N]; exact hN) (by rw [ok.sc]; exact loc_of hx) (a1 X ok) (hs X) (fn_or ok hf), fun F0 H0 F H Γ σ D o R hg k => ?_⟩
  unfold oSet at hg
  cases q : f Γ with
  | none => rw [q] at hg; cases hg
  | some s =>
    rw [q] at hg; cases hg
    exact a2 Γ σ H0 F H _ s R.en q fun v F' H' u l => k _ F' H' ⟨R.en.set_sl i R.su.h u l, R.su.trans u⟩ (kp_set R.en u.h)
/-- x = [..] on one row, x a local that no block captures -/
theorem ss_setLc (i : Nat) {y : Str} {py : Pos} {elt tg iter : Expr} {ifs : List Expr} {scope : Scope} {pos spos : Pos} (own : List (Str × Nat)) {js : List Nat} {fi g c fe} (hi : SI S tg iter fi) (ok : blkC S.N S.sc scope own = true) (hg : SG (S.blk scope) tg js g) (hc : SC (S.blk scope) ifs c) (he : SV (S.blk scope) elt fe) (hj : ∀ j ∈ js, j ∈ own.map (·.2))
    (hN : S.N[i]? = some y := by rfl) (hyl : (S.sc.names.lookup y == some NameKind.local) = true := by kernel_rfl) (hk : (S.sc.kind == ScopeKind.function) = true := by kernel_rfl) (hl : (py.line == pos.line) = true := by rfl) (hany : (scope.names.any fun (n, k) => n == y && (k == .local || k == .cell)) = false := by kernel_rfl)
    (hs : ∀ (X : Cx) x, foldedSetIterable iter X.env x = pure x := by intro _ _; rfl) : SS S (.Assign [.Name y py] (.ListComp elt [⟨tg, iter, ifs, 0⟩] scope pos) spos) [i] (oSet i (vLc fi g c fe (own.map (·.2)))) := by
  obtain ⟨wi, i1, i2⟩ := hi
  obtain ⟨t, g1, g2⟩ := hg
  obtain ⟨tt, c1, c2⟩ := hc
  obtain ⟨te, e1, e2⟩ := he
  have sem := lc_sem (S := S) (scope := scope) i2 g2 c2 e2 hj
  refine ⟨tAsg (tLc wi t tt te (own.map (·.2))) (gName i), fun X okx => ?_, fun F0 H0 F H Γ σ D o R hg k => ?_⟩
  · have hl2 : X.env.scope.names.lookup y = some .local := by rw [okx.sc]; simpa using hyl
    have hk2 : X.env.scope.kind = .function := by
      rw [okx.sc]
      cases q : S.sc.kind <;> first | rfl | (rw [q] at hk; exact absurd hk (by decide))
    exact ps_setLc okx.calm (by rw [okx.N]; exact okx.nd) (by rw [okx.N]; exact hN) hl2 (sw_true hk2 hl2 hl hany) (i1 X okx) (by rw [okx.N, okx.sc]; exact blkOk_by ok) (fun s H C cl fp => g1 _ (okx.blk s H scope C cl fp)) (fun s H C cl fp => c1 _ (okx.blk s H scope C cl fp)) (fun s H C cl fp => e1 _ (okx.blk s H scope C cl fp)) (hs X)
  · unfold oSet at hg
    cases q : vLc fi g c fe (own.map (·.2)) Γ with
    | none => rw [q] at hg; cases hg
    | some s =>
      rw [q] at hg; cases hg
      exact sem Γ σ H0 F H _ s R.en q fun v F' H' u l => k _ F' H' ⟨R.en.set_sl i R.su.h u l, R.su.trans u⟩ (kp_set R.en u.h)
theorem semV {t : TE} {f : En → Option Sl} (h2 : ∀ Γ σ H0 F H Q s, EnR S.K H0 F H Γ σ → f Γ = some s → (∀ v F' H', Sub F H F' H' → SlN S.K H F' H' s v → Q v H') → t σ H Q) :
    ∀ Γ σ H0 F H Q s, EnR S.K H0 F H Γ σ → fzOf (dOf f) Γ = some s → (∀ v F' H', Sub F H F' H' → SlN S.K H F' H' s v → Q v H') → t σ H Q := by
  intro Γ σ H0 F H Q s E hf k
  unfold fzOf dOf at hf
  cases q : f Γ with
  | none => rw [q] at hf; cases hf
  | some s' =>
    rw [q] at hf; cases hf
    refine h2 Γ σ H0 F H Q s' E q fun v F' H' u r => ?_
    cases s' with
    | fz d => exact k v F' H' u ⟨r.1, fun _ _ z => by cases z⟩
    | ow xs =>
      obtain ⟨⟨a, vs, rfl, r1, r2, r3⟩, r4⟩ := r
      have ha := r4 xs a rfl rfl
      refine k _ (upd F' a (.lst vs)) H' ⟨u.f.trans (same_new r1), u.h, fun b o e => ?_, fun b o e1 e2 => ?_⟩ ⟨.lst (SqL.of upd_same) (dpAll_mono (same_new r1) r3), fun _ _ z => by cases z⟩
      · by_cases hb : b = a
        · subst hb; rw [upd_same] at e; cases e; exact r2
        · rw [upd_ne hb] at e; exact u.fh b o e
      · rw [upd_ne (ne_of_none e1 ha)]; exact u.o b o e1 e2
theorem ss_setLcV (i : Nat) {y : Str} {py : Pos} {elt tg iter : Expr} {ifs : List Expr} {scope : Scope} {pos spos : Pos} (own : List (Str × Nat)) {js : List Nat} {fi g c fe} (hi : SI S tg iter fi) (ok : blkC S.N S.sc scope own = true) (hg : SG (S.blk scope) tg js g) (hc : SC (S.blk scope) ifs c) (he : SV (S.blk scope) elt fe) (hj : ∀ j ∈ js, j ∈ own.map (·.2))
    (hN : S.N[i]? = some y := by rfl) (hyl : (S.sc.names.lookup y == some NameKind.local) = true := by kernel_rfl) (hk : (S.sc.kind == ScopeKind.function) = true := by kernel_rfl) (hl : (py.line == pos.line) = true := by rfl) (hany : (scope.names.any fun (n, k) => n == y && (k == .local || k == .cell)) = false := by kernel_rfl)
    (hs : ∀ (X : Cx) x, foldedSetIterable iter X.env x = pure x := by intro _ _; rfl) : SS S (.Assign [.Name y py] (.ListComp elt [⟨tg, iter, ifs, 0⟩] scope pos) spos) [i] (oSet i (fzOf (dOf (vLc fi g c fe (own.map (·.2)))))) := by
  obtain ⟨wi, i1, i2⟩ := hi
  obtain ⟨t, g1, g2⟩ := hg
  obtain ⟨tt, c1, c2⟩ := hc
  obtain ⟨te, e1, e2⟩ := he
  have sem := semV (lc_sem (S := S) (scope := scope) i2 g2 c2 e2 hj)
  refine ⟨tAsg (tLc wi t tt te (own.map (·.2))) (gName i), fun X okx => ?_, fun F0 H0 F H Γ σ D o R hg k => ?_⟩
  · have hl2 : X.env.scope.names.lookup y = some .local := by rw [okx.sc]; simpa using hyl
    have hk2 : X.env.scope.kind = .function := by
      rw [okx.sc]
      cases q : S.sc.kind <;> first | rfl | (rw [q] at hk; exact absurd hk (by decide))
    exact ps_setLc okx.calm (by rw [okx.N]; exact okx.nd) (by rw [okx.N]; exact hN) hl2 (sw_true hk2 hl2 hl hany) (i1 X okx) (by rw [okx.N, okx.sc]; exact blkOk_by ok) (fun s H C cl fp => g1 _ (okx.blk s H scope C cl fp)) (fun s H C cl fp => c1 _ (okx.blk s H scope C cl fp)) (fun s H C cl fp => e1 _ (okx.blk s H scope C cl fp)) (hs X)
  · unfold oSet at hg
    cases q : fzOf (dOf (vLc fi g c fe (own.map (·.2)))) Γ with
    | none => rw [q] at hg; cases hg
    | some s =>
      rw [q] at hg; cases hg
      exact sem Γ σ H0 F H _ s R.en q fun v F' H' u l => k _ F' H' ⟨R.en.set_sl i R.su.h u l, R.su.trans u⟩ (kp_set R.en u.h)
/-! ### a list that is changed -/
theorem EnR.write {K : PySem.W.Frag} {H0 F H : Hp} {Γ : En} {σ : St} {i : Nat} {a : Addr} {xs ys : List PyData} {vs us : List V} (E : EnR K H0 F H Γ σ) (hi : Γ[i]? = some (some (.ow xs))) (hs : σ[i]? = some (some (.ref a))) (hH : H a = some (.lst vs)) (hF : F a = none) (hd : DpAll K F us ys) :
    EnR K H0 F (upd H a (.lst us)) (setE i (.ow ys) Γ) σ := by
  have fh : Same F (upd H a (.lst us)) := fun b o e => by rw [upd_ne (fun z => by rw [z, hF] at e; cases e)]; exact E.fh b o e
  have il : i < Γ.length := (List.getElem?_eq_some_iff.mp hi).1
  refine ⟨fh, fun j s hj => ?_, fun j zs b h1 h2 => ?_, fun j k zs ws b h1 h2 h3 h4 => ?_, by unfold setE; rw [List.length_set]; exact E.ln⟩
  · unfold setE at hj
    rw [List.getElem?_set] at hj
    split at hj
    · next e =>
      subst e
      cases hj
      exact ⟨.ref a, hs, a, us, rfl, hF, upd_same, hd⟩
    · next e =>
      obtain ⟨v, h1, h2⟩ := E.sl j s hj
      refine ⟨v, h1, ?_⟩
      cases s with
      | fz d => exact h2
      | ow zs =>
        obtain ⟨b, ws, rfl, q1, q2, q3⟩ := h2
        have ne : b ≠ a := fun z => by subst z; exact e (E.ds i j xs zs b hi hj hs h1)
        exact ⟨b, ws, rfl, q1, by rw [upd_ne ne]; exact q2, q3⟩
  · unfold setE at h1
    rw [List.getElem?_set] at h1
    split at h1
    · next e => subst e; exact E.nw i xs b hi h2
    · exact E.nw j zs b h1 h2
  · unfold setE at h1 h2
    rw [List.getElem?_set] at h1 h2
    have w1 : ∃ zs, Γ[j]? = some (some (.ow zs)) := by
      split at h1
      · next e => subst e; exact ⟨xs, hi⟩
      · exact ⟨_, h1⟩
    have w2 : ∃ zs, Γ[k]? = some (some (.ow zs)) := by
      split at h2
      · next e => subst e; exact ⟨xs, hi⟩
      · exact ⟨_, h2⟩
    obtain ⟨_, w1⟩ := w1
    obtain ⟨_, w2⟩ := w2
    exact E.ds j k _ _ b w1 w2 h3 h4
theorem StR.write {K : PySem.W.Frag} {F0 H0 F H : Hp} {Γ : En} {σ : St} {i : Nat} {a : Addr} {xs ys : List PyData} {vs us : List V} (R : StR K F0 H0 F H Γ σ) (hi : Γ[i]? = some (some (.ow xs))) (hs : σ[i]? = some (some (.ref a))) (hH : H a = some (.lst vs)) (hF : F a = none) (hd : DpAll K F us ys) :
    StR K F0 H0 F (upd H a (.lst us)) (setE i (.ow ys) Γ) σ := by
  have E := R.en.write hi hs hH hF hd
  refine ⟨E, R.su.f, fun b o e => ?_, E.fh, R.su.o⟩
  rw [upd_ne (ne_of_none e (R.en.nw i xs a hi hs))]
  exact R.su.h b o e
def oApp (i : Nat) (f : En → Option PyData) : En → Option Out := fun Γ => match Γ[i]?, f Γ with
  | some (some (.ow xs)), some d => if xs.length < cap then some (.nx (setE i (.ow (xs ++ [d])) Γ)) else none
  | _, _ => none
theorem ss_append (i : Nat) {x : Str} {e : Expr} {p apos cpos pos : Pos} {f} (h : SV S e f) (hN : S.N[i]? = some x := by rfl) (hv : visB S.sc x = true := by kernel_rfl) (hd : (x == ("__debug__" : Str)) = false := by decide) (hcd : (x == ("__classdict__" : Str)) = false := by decide)
    (hbase : ∀ X : Cx, attributeBase (.Name x p) "append" X.env (eval (.Name x p) X.env) = eval (.Name x p) X.env := by intro _; rfl) (hline : (apos.endLine == cpos.line) = true := by rfl) (he : ∀ X : Cx, starEach [e] X.env = (false, eval e X.env) :: starEach [] X.env := by intro _; rfl)
    (hs : ∀ X : Cx, swapsWith (.Call (.Attribute (.Name x p) "append" apos) [e] [] cpos) none pos.line X.env = pure false := by intro _; rfl) :
    SS S (.Expr (.Call (.Attribute (.Name x p) "append" apos) [e] [] cpos) pos) [i] (oApp i f) := by
  obtain ⟨t, a1, a2⟩ := h
  refine ⟨tDrop (tBM S.K "list" rAppend (tVar i) (tCons t tNil)), fun X ok => ?_, fun F0 H0 F H Γ σ D o R hg k => ?_⟩
  · refine ps_expr (ok.K ▸ pe_bm PySem.F.plainAttrs_list PySem.F.slot_list_append PySem.F.type_list_append mt_append (pe_var (by rw [ok.N]; exact hN) (by rw [ok.sc]; exact vis_of hv) hd hcd) (pa_cons (a1 X ok) pa_nil (he X)) (hbase X) (by rw [he X]; rfl) hline (he X) rfl) (hs X)
  · unfold oApp at hg
    split at hg
    · next xs d q1 q2 =>
      split at hg
      · next hz =>
        cases hg
        obtain ⟨v, h1, a, vs, rfl, hF, hH, hda⟩ := R.en.sl i _ q1
        refine ⟨_, h1, .inl ⟨rfl, vs, SqL.of hH⟩, ?_⟩
        refine a2 Γ σ H0 F H _ d R.en q2 fun v F1 H1 u1 l1 => ?_
        have R1 := R.mono u1
        refine ⟨a, vs, v, rfl, rfl, u1.h _ _ hH, by rw [hda.length]; exact cap_lt hz, ?_⟩
        exact k _ F1 _ (R1.write q1 h1 (u1.h _ _ hH) (u1.o a _ hH hF) ((dpAll_mono u1.f hda).snoc l1)) (kp_write R.en u1.h q1 h1)
      · cases hg
    · cases hg
def oExt (i : Nat) (f : En → Option PyData) : En → Option Out := fun Γ => match Γ[i]?, f Γ with
  | some (some (.ow xs)), some (.list ys) => if xs.length + ys.length ≤ cap then some (.nx (setE i (.ow (xs ++ ys)) Γ)) else none
  | _, _ => none
theorem ss_extend (i : Nat) {x : Str} {e : Expr} {p apos cpos pos : Pos} {f} (h : SV S e f) (hN : S.N[i]? = some x := by rfl) (hv : visB S.sc x = true := by kernel_rfl) (hd : (x == ("__debug__" : Str)) = false := by decide) (hcd : (x == ("__classdict__" : Str)) = false := by decide)
    (hbase : ∀ X : Cx, attributeBase (.Name x p) "extend" X.env (eval (.Name x p) X.env) = eval (.Name x p) X.env := by intro _; rfl) (hline : (apos.endLine == cpos.line) = true := by rfl) (he : ∀ X : Cx, starEach [e] X.env = (false, eval e X.env) :: starEach [] X.env := by intro _; rfl)
    (hs : ∀ X : Cx, swapsWith (.Call (.Attribute (.Name x p) "extend" apos) [e] [] cpos) none pos.line X.env = pure false := by intro _; rfl) :
    SS S (.Expr (.Call (.Attribute (.Name x p) "extend" apos) [e] [] cpos) pos) [i] (oExt i f) := by
  obtain ⟨t, a1, a2⟩ := h
  refine ⟨tDrop (tBM S.K "list" (rExtS S.K) (tVar i) (tCons t tNil)), fun X ok => ?_, fun F0 H0 F H Γ σ D o R hg k => ?_⟩
  · refine ps_expr (ok.K ▸ pe_bm PySem.F.plainAttrs_list PySem.F.slot_list_extend PySem.F.type_list_extend mt_extS (pe_var (by rw [ok.N]; exact hN) (by rw [ok.sc]; exact vis_of hv) hd hcd) (pa_cons (a1 X ok) pa_nil (he X)) (hbase X) (by rw [he X]; rfl) hline (he X) rfl) (hs X)
  · unfold oExt at hg
    split at hg
    · next xs ys q1 q2 =>
      split at hg
      · next hz =>
        cases hg
        obtain ⟨v, h1, a, vs, rfl, hF, hH, hda⟩ := R.en.sl i _ q1
        refine ⟨_, h1, .inl ⟨rfl, vs, SqL.of hH⟩, ?_⟩
        refine a2 Γ σ H0 F H _ _ R.en q2 fun v F1 H1 u1 l1 => ?_
        have R1 := R.mono u1
        cases l1 with
        | lst qs qd =>
          have fa : F1 a = none := u1.o a _ hH hF
          have ha := u1.h _ _ hH
          rename_i b us
          refine ⟨a, _, vs, us, rfl, rfl, ha, u1.fh.seq qs, by rw [hda.length, qd.length]; exact cap_le hz, ?_⟩
          exact k _ F1 _ (R1.write q1 h1 ha fa ((dpAll_mono u1.f hda).append qd)) (kp_write R.en u1.h q1 h1)
      · cases hg
    · cases hg
end
end
end Bd

namespace Bd
open PySem L2
noncomputable section
section
variable {S : Sx}
def oIf (c : En → Option Bool) (g h : En → Option Out) : En → Option Out := fun Γ => match c Γ with
  | some true => g Γ
  | some false => h Γ
  | none => none
theorem ss_if {c : Expr} {a b : List Stmt} {pos : Pos} {f g h} {T U : List Nat} (hc : ST S c f) (ha : SSs S a T g) (hb : SSs S b U h) : SS S (.If c a b pos) (T ++ U) (oIf f g h) := by
  obtain ⟨t, c1, c2⟩ := hc
  obtain ⟨u, a1, a2⟩ := ha
  obtain ⟨v, b1, b2⟩ := hb
  refine ⟨tIfS t u v, fun X ok => ps_if (c1 X ok) (a1 X ok) (b1 X ok), fun F0 H0 F H Γ σ D o R hg k => ?_⟩
  unfold oIf at hg
  split at hg
  · next q => exact c2 Γ σ H0 F H _ true R.en q fun F1 H1 u1 => iteT (a2 F0 H0 F1 H1 Γ σ D o (R.mono u1) hg ((k.step (T := []) (R.en.kp u1.h)).wide fun j h => List.mem_append_left _ h))
  · next q => exact c2 Γ σ H0 F H _ false R.en q fun F1 H1 u1 => iteF (b2 F0 H0 F1 H1 Γ σ D o (R.mono u1) hg ((k.step (T := []) (R.en.kp u1.h)).wide fun j h => List.mem_append_right _ h))
  · cases hg
def oPass : En → Option Out := fun Γ => some (.nx Γ)
theorem ss_pass {pos : Pos} : SS S (.Pass pos) [] oPass := ⟨_, fun X _ => ps_pass, fun F0 H0 F H Γ σ D o R hg k => by cases hg; exact k σ F H R .refl⟩
def oBreak : En → Option Out := fun Γ => some (.bk Γ)
theorem ss_break {pos : Pos} : SS S (.Break pos) [] oBreak := ⟨tBreak, fun X _ => ps_break, fun F0 H0 F H Γ σ D o R hg k => by cases hg; exact k σ F H R .refl⟩
def oCont : En → Option Out := fun Γ => some (.ct Γ)
theorem ss_continue {pos : Pos} : SS S (.Continue pos) [] oCont := ⟨tCont, fun X _ => ps_continue, fun F0 H0 F H Γ σ D o R hg k => by cases hg; exact k σ F H R .refl⟩
def forD (g : PyData → En → Option En) (b : En → Option Out) : List PyData → En → Option Out
  | [], Γ => some (.nx Γ)
  | d :: ds, Γ => (g d Γ).bind fun Γ1 => match b Γ1 with
    | some (.nx Γ2) => forD g b ds Γ2
    | some (.ct Γ2) => forD g b ds Γ2
    | some (.bk Γ2) => some (.nx Γ2)
    | some (.rt s) => some (.rt s)
    | none => none
def oFor (fi : En → Option (List PyData)) (g : PyData → En → Option En) (b : En → Option Out) : En → Option Out := fun Γ => (fi Γ).bind fun ds => forD g b ds Γ
/-- from another entry: what stays has grown -/
theorem StR.rebase {K : PySem.W.Frag} {F0 H0 F1 H1 F H : Hp} {Γ : En} {σ : St} (u : Sub F0 H0 F1 H1) (R : StR K F1 H0 F H Γ σ) : StR K F0 H0 F H Γ σ :=
  ⟨R.en, u.f.trans R.su.f, R.su.h, R.su.fh, fun a o h1 h2 => R.su.o a o h1 (u.o a o h1 h2)⟩
theorem StR.base {K : PySem.W.Frag} {F0 H0 F H : Hp} {Γ : En} {σ : St} (R : StR K F0 H0 F H Γ σ) : StR K F H0 F H Γ σ :=
  ⟨R.en, .refl _, R.su.h, R.su.fh, fun a o h1 h2 => h2⟩
theorem Sub.rebase {F0 H0 F1 H1 F H : Hp} (u : Sub F0 H0 F1 H1) (v : Sub F1 H0 F H) : Sub F0 H0 F H := ⟨u.f.trans v.f, v.h, v.fh, fun a o h1 h2 => v.o a o h1 (u.o a o h1 h2)⟩
theorem EndR.rebase {K : PySem.W.Frag} {F0 H0 F1 H1 Hs : Hp} {T : List Nat} {Γ0 : En} {σ0 : St} {D : Ends} {o : Out} (u : Sub F0 H0 F1 H1) (k : EndR K F0 H0 T Γ0 σ0 Hs D o) : EndR K F1 H0 T Γ0 σ0 Hs D o := by
  cases o with
  | nx Γ => exact fun σ F H R z => k σ F H (R.rebase u) z
  | bk Γ => exact fun σ F H R z => k σ F H (R.rebase u) z
  | ct Γ => exact fun σ F H R z => k σ F H (R.rebase u) z
  | rt s => exact fun v F H R l => k v F H (u.rebase R) l
theorem Agr.kp {K : PySem.W.Frag} {H0 F H H' : Hp} {Γ : En} {σ : St} {js : List Nat} (E : EnR K H0 F H Γ σ) (sm : Same H H') {σ' : St} {Γ' : En} (ag : Agr js σ σ') (hΓ : ∀ j, j ∉ js → Γ'[j]? = Γ[j]?) : Kp js Γ σ H Γ' σ' H' := fun j hj => by
  obtain ⟨_, _, q⟩ := E.kp sm j (by simp)
  exact ⟨hΓ j hj, ag.2 j hj, q⟩
/-- the loop's turns: I tells how what is walked is known at each turn -/
theorem for_sem {js T : List Nat} {t : TG} {tb : TS} {g b} (hg : ∀ H0 F H Γ σ v d Γ' Q, EnR S.K H0 F H Γ σ → Dp S.K F v d → g d Γ = some Γ' → (∀ σ', Agr js σ σ' → EnR S.K H0 F H Γ' σ' → Q σ' H) → t v σ H Q) (hgk : ∀ d Γ Γ', g d Γ = some Γ' → ∀ j, j ∉ js → Γ'[j]? = Γ[j]?)
    (hb : ∀ F0 H0 F H Γ σ D o, StR S.K F0 H0 F H Γ σ → b Γ = some o → EndR S.K F0 H0 T Γ σ H D o → tb D σ H)
    {F0 H0 F1 H1 : Hp} {Γ : En} {σ : St} {D : Ends} {o : Out} {J : It} {ds : List PyData} (R1 : StR S.K F0 H0 F1 H1 Γ σ) (k : EndR S.K F0 H0 (js ++ T) Γ σ H1 D o) (hr : forD g b ds Γ = some o)
    (it : ∀ (i : Nat) F2 H2 Γ2 σ2, StR S.K F1 H0 F2 H2 Γ2 σ2 → Kp (js ++ T) Γ σ H1 Γ2 σ2 H2 → (i < ds.length → J.go i H2 ∧ ∀ x H3, J.yld i H2 x H3 → ∃ F3 d, ds[i]? = some d ∧ Sub F2 H2 F3 H3 ∧ Dp S.K F3 x d) ∧ (ds.length ≤ i → J.stop i H2)) :
    ∃ W : Nat → Nat → St → Hp → Prop, (∃ m, W 0 m σ H1) ∧ ∀ i m σ H, W i m σ H → (J.stop i H ∧ D.nx σ H) ∨ (J.go i H ∧ ∃ N : St → Hp → Prop, (∀ σ' H', N σ' H' → ∃ m', m' < m ∧ W (i + 1) m' σ' H') ∧ ∀ x H', J.yld i H x H' → t x σ H' fun σ2 H2 => tb { D with nx := N, ct := N, bk := D.nx } σ2 H2) := by
  have k1 : EndR S.K F1 H0 (js ++ T) Γ σ H1 D o := k.rebase R1.su
  refine ⟨fun i m σ2 H2 => m = ds.length - i ∧ i ≤ ds.length ∧ ∃ F2 Γ2, StR S.K F1 H0 F2 H2 Γ2 σ2 ∧ Kp (js ++ T) Γ σ H1 Γ2 σ2 H2 ∧ forD g b (ds.drop i) Γ2 = some o, ⟨ds.length, by simp, Nat.zero_le _, F1, Γ, R1.base, Kp.refl.mono (fun j h => by cases h), by simpa using hr⟩, ?_⟩
  rintro i m σ2 H2 ⟨rfl, hi', F2, Γ2, R2, kp, hr⟩
  obtain ⟨go, stop⟩ := it i F2 H2 Γ2 σ2 R2 kp
  by_cases hlt : i < ds.length
  · obtain ⟨go1, go2⟩ := go hlt
    refine .inr ⟨go1, fun σ' H' => ∃ F3 Γ3, StR S.K F1 H0 F3 H' Γ3 σ' ∧ Kp (js ++ T) Γ σ H1 Γ3 σ' H' ∧ forD g b (ds.drop (i + 1)) Γ3 = some o, fun σ' H' z => ⟨ds.length - (i + 1), by omega, rfl, hlt, z⟩, fun x H3 yl => ?_⟩
    obtain ⟨F3, d, hd, u3, hx⟩ := go2 x H3 yl
    have hdr : ds.drop i = d :: ds.drop (i + 1) := by
      obtain ⟨h1, h2⟩ := List.getElem?_eq_some_iff.mp hd
      rw [List.drop_eq_getElem_cons h1, h2]
    rw [hdr] at hr
    unfold forD at hr
    cases r1 : g d Γ2 with
    | none => rw [r1] at hr; cases hr
    | some Γ3 =>
      rw [r1] at hr
      simp only [Option.bind_some] at hr
      have R3 := R2.mono u3
      refine hg H0 F3 H3 Γ2 σ2 x d Γ3 _ R3.en hx r1 fun σ3 ag E3 => ?_
      have R4 : StR S.K F1 H0 F3 H3 Γ3 σ3 := ⟨E3, R3.su⟩
      have kp3 : Kp (js ++ T ++ js) Γ σ H1 Γ3 σ3 H3 := kp.trans (Agr.kp R2.en u3.h ag (hgk d Γ2 Γ3 r1))
      have fin : ∀ {Γ4 : En} {σ' : St} {H' : Hp}, Kp T Γ3 σ3 H3 Γ4 σ' H' → Kp (js ++ T) Γ σ H1 Γ4 σ' H' := fun z => (kp3.trans z).mono fun j h => by
        simp only [List.mem_append] at h ⊢
        rcases h with ((h | h) | h) | h
        · exact .inl h
        · exact .inr h
        · exact .inl h
        · exact .inr h
      cases r2 : b Γ3 with
      | none => rw [r2] at hr; cases hr
      | some o1 =>
        rw [r2] at hr
        refine hb F1 H0 F3 H3 Γ3 σ3 _ o1 R4 r2 ?_
        cases o1 with
        | nx Γ4 => exact fun σ' F' H' R' z => ⟨F', Γ4, R', fin z, hr⟩
        | ct Γ4 => exact fun σ' F' H' R' z => ⟨F', Γ4, R', fin z, hr⟩
        | bk Γ4 => cases hr; exact fun σ' F' H' R' z => k1 σ' F' H' R' (fin z)
        | rt s => cases hr; exact fun v F' H' u l => k1 v F' H' u l
  · have e : i = ds.length := by omega
    subst e
    rw [List.drop_length] at hr
    cases hr
    exact .inl ⟨stop (Nat.le_refl _), k1 σ2 F2 H2 R2 kp⟩
/-- what a target leaves -/
def GKp (js : List Nat) (g : PyData → En → Option En) : Prop := ∀ d Γ Γ', g d Γ = some Γ' → ∀ j, j ∉ js → Γ'[j]? = Γ[j]?
theorem gk_name {i : Nat} : GKp [i] (gNm i) := fun d Γ Γ' h j hj => by
  cases h
  exact List.getElem?_set_ne fun e => hj (by rw [e]; exact List.mem_cons_self)
def GsKp (js : List Nat) (g : List PyData → En → Option En) : Prop := ∀ ds Γ Γ', g ds Γ = some Γ' → ∀ j, j ∉ js → Γ'[j]? = Γ[j]?
theorem gk_nil : GsKp [] gsNil := fun ds Γ Γ' h j hj => by
  cases ds with
  | nil => cases h; rfl
  | cons _ _ => cases h
theorem gk_cons {js ks : List Nat} {g h} (a : GKp js g) (b : GsKp ks h) : GsKp (js ++ ks) (gsCons g h) := fun ds Γ Γ' e j hj => by
  rw [List.mem_append, not_or] at hj
  cases ds with
  | nil => cases e
  | cons d r =>
    unfold gsCons at e
    simp only at e
    cases q : g d Γ with
    | none => rw [q] at e; cases e
    | some Γ1 => rw [q] at e; exact (b r Γ1 Γ' e j hj.2).trans (a d Γ Γ1 q j hj.1)
theorem gk_tup {js : List Nat} {n : Nat} {h} (a : GsKp js h) : GKp js (gTpl n h) := fun d Γ Γ' e j hj => by
  unfold gTpl at e
  split at e
  · split at e
    · exact a _ Γ Γ' e j hj
    · cases e
  · cases e
theorem ss_for {tg iter : Expr} {body : List Stmt} {pos : Pos} {js T : List Nat} {fi g b} (hi : SIV S tg iter fi) (hg : SG S tg js g) (hk : GKp js g) (hb : SSs S body T b) (hs : ∀ (X : Cx) x, foldedSetIterable iter X.env x = pure x := by intro _ _; rfl) : SS S (.For tg iter body [] pos) (js ++ T) (oFor fi g b) := by
  obtain ⟨wi, i1, i2⟩ := hi
  obtain ⟨t, g1, g2⟩ := hg
  obtain ⟨tb, b1, b2⟩ := hb
  refine ⟨tFor wi t tb, fun X ok => ps_for ok.pass ok.calm (i1 X ok) (g1 X ok) (b1 X ok) (hs X), fun F0 H0 F H Γ σ D o R hg k => ?_⟩
  unfold oFor at hg
  cases q : fi Γ with
  | none => rw [q] at hg; cases hg
  | some ds =>
    rw [q] at hg
    refine i2 Γ σ H0 F H _ ds R.en q fun J F1 H1 u1 it => ?_
    exact for_sem g2 hk b2 (R.mono u1) (k.step (T := []) (R.en.kp u1.h)) hg fun i F2 H2 Γ2 σ2 R2 kp => it i F2 H2 R2.su.f R2.en.fh (R2.su.f.trans R2.en.fh)
/-- over a list that was made here and that may yet be changed behind the loop -/
def iOwn (j : Nat) : En → Option (List PyData) := fun Γ => match Γ[j]? with
  | some (some (.ow xs)) => some xs
  | _ => none
theorem own_at {K : PySem.W.Frag} {F0 H0 F H F2 H2 : Hp} {Γ Γ2 : En} {σ σ2 : St} {T : List Nat} {j : Nat} {xs : List PyData} {a : Addr} {vs : List V} (q : Γ[j]? = some (some (.ow xs))) (h1 : σ[j]? = some (some (.ref a))) (hH : H a = some (.lst vs)) (hda : DpAll K F vs xs)
    (hj : j ∉ T) (R2 : StR K F H0 F2 H2 Γ2 σ2) (kp : Kp T Γ σ H Γ2 σ2 H2) : SqL K H2 a vs ∧ DpAll K F2 vs xs := by
  obtain ⟨_, _, k3⟩ := kp j hj
  exact ⟨SqL.of (by rw [k3 xs a q h1]; exact hH), dpAll_mono R2.su.f hda⟩
theorem ss_forO (j : Nat) {tg : Expr} {x : Str} {p : Pos} {body : List Stmt} {pos : Pos} {js T : List Nat} {g b} (hg : SG S tg js g) (hk : GKp js g) (hb : SSs S body T b) (hj : j ∉ js ++ T) (hN : S.N[j]? = some x := by rfl) (hv : visB S.sc x = true := by kernel_rfl) (hd : (x == ("__debug__" : Str)) = false := by decide) (hcd : (x == ("__classdict__" : Str)) = false := by decide)
    (hs : ∀ (X : Cx) y, foldedSetIterable (.Name x p) X.env y = pure y := by intro _ _; rfl) : SS S (.For tg (.Name x p) body [] pos) (js ++ T) (oFor (iOwn j) g b) := by
  obtain ⟨t, g1, g2⟩ := hg
  obtain ⟨tb, b1, b2⟩ := hb
  refine ⟨tFor (iList S.K (tVar j)) t tb, fun X ok => ps_for ok.pass ok.calm (ok.K ▸ pi_list (pe_var (by rw [ok.N]; exact hN) (by rw [ok.sc]; exact vis_of hv) hd hcd)) (g1 X ok) (b1 X ok) (hs X), fun F0 H0 F H Γ σ D o R hg k => ?_⟩
  unfold oFor iOwn at hg
  split at hg
  · next xs q =>
    simp only [Option.bind_some] at hg
    obtain ⟨v, h1, a, vs, rfl, hF, hH, hda⟩ := R.en.sl j _ q
    refine ⟨_, h1, a, rfl, ⟨vs, SqL.of hH⟩, for_sem g2 hk b2 R k hg fun i F2 H2 Γ2 σ2 R2 kp => ?_⟩
    obtain ⟨q1, q2⟩ := own_at (F0 := F0) q h1 hH hda hj R2 kp
    exact itR_list q1 q2 i F2 H2 (.refl _) R2.en.fh (.refl _)
  · simp at hg
def iOwnE (j : Nat) : En → Option (List PyData) := fun Γ => match Γ[j]? with
  | some (some (.ow xs)) => some (enumD xs)
  | _ => none
theorem ss_forOE (j : Nat) {elts : List Expr} {kk : Nat} {tpos : Pos} {x : Str} {p pe pc : Pos} {body : List Stmt} {pos : Pos} {js T : List Nat} {g b} (hg : SG S (.Tuple elts kk tpos) js g) (hk : GKp js g) (hb : SSs S body T b) (hj : j ∉ js ++ T) (hm : S.mg "enumerate" = none) (hge : glB S.sc "enumerate" = true := by kernel_rfl) (hN : S.N[j]? = some x := by rfl) (hv : visB S.sc x = true := by kernel_rfl) (hd : (x == ("__debug__" : Str)) = false := by decide) (hcd : (x == ("__classdict__" : Str)) = false := by decide)
    (hs : ∀ (X : Cx) y, foldedSetIterable (.Call (.Name "enumerate" pe) [.Name x p] [] pc) X.env y = pure y := by intro _ _; rfl) : SS S (.For (.Tuple elts kk tpos) (.Call (.Name "enumerate" pe) [.Name x p] [] pc) body [] pos) (js ++ T) (oFor (iOwnE j) g b) := by
  obtain ⟨t, g1, g2⟩ := hg
  obtain ⟨tb, b1, b2⟩ := hb
  refine ⟨tFor (iEnum S.K (tCons (tVar j) tNil)) t tb, fun X ok => ps_for ok.pass ok.calm (ok.K ▸ pi_enum (ok.gl hge) (by rw [ok.mg]; exact hm) (pa_cons (pe_var (by rw [ok.N]; exact hN) (by rw [ok.sc]; exact vis_of hv) hd hcd) pa_nil)) (g1 X ok) (b1 X ok) (hs X), fun F0 H0 F H Γ σ D o R hg k => ?_⟩
  unfold oFor iOwnE at hg
  split at hg
  · next xs q =>
    simp only [Option.bind_some] at hg
    obtain ⟨v, h1, a, vs, rfl, hF, hH, hda⟩ := R.en.sl j _ q
    refine ⟨_, h1, a, vs, rfl, SqL.of hH, for_sem g2 hk b2 R k hg fun i F2 H2 Γ2 σ2 R2 kp => ?_⟩
    obtain ⟨q1, q2⟩ := own_at (F0 := F0) q h1 hH hda hj R2 kp
    exact itR_enum q1 q2 i F2 H2 (.refl _) R2.en.fh (.refl _)
  · simp at hg
def whileD (c : En → Option Bool) (b : En → Option Out) : Nat → En → Option Out
  | 0, _ => none
  | n + 1, Γ => match c Γ with
    | some true => (match b Γ with
      | some (.nx Γ2) => whileD c b n Γ2
      | some (.ct Γ2) => whileD c b n Γ2
      | some (.bk Γ2) => some (.nx Γ2)
      | some (.rt s) => some (.rt s)
      | none => none)
    | some false => some (.nx Γ)
    | none => none
def oWhile (n : Nat) (c : En → Option Bool) (b : En → Option Out) : En → Option Out := whileD c b n
theorem ss_while (n : Nat) {c : Expr} {body : List Stmt} {pos : Pos} {T : List Nat} {f b} (hc : ST S c f) (hb : SSs S body T b) : SS S (.While c body [] pos) T (oWhile n f b) := by
  obtain ⟨t, c1, c2⟩ := hc
  obtain ⟨tb, b1, b2⟩ := hb
  refine ⟨tWhile t tb, fun X ok => ps_while ok.pass (c1 X ok) (b1 X ok), fun F0 H0 F H Γ σ D o R hg k => ?_⟩
  refine ⟨fun m σ2 H2 => ∃ F2 Γ2, StR S.K F0 H0 F2 H2 Γ2 σ2 ∧ Kp T Γ σ H Γ2 σ2 H2 ∧ whileD f b m Γ2 = some o, ⟨n, F, Γ, R, Kp.refl.mono (fun j h => by cases h), hg⟩, ?_⟩
  rintro m σ2 H2 ⟨F2, Γ2, R2, kp, hr⟩
  cases m with
  | zero => cases hr
  | succ m =>
    unfold whileD at hr
    split at hr
    · next q =>
      refine c2 Γ2 σ2 H0 F2 H2 _ true R2.en q fun F3 H3 u3 => ?_
      have R3 := R2.mono u3
      refine ⟨fun σ' H' => ∃ F4 Γ4, StR S.K F0 H0 F4 H' Γ4 σ' ∧ Kp T Γ σ H Γ4 σ' H' ∧ whileD f b m Γ4 = some o, fun σ' H' z => ⟨m, Nat.lt_succ_self _, z⟩, ?_⟩
      have fin : ∀ {Γ4 : En} {σ' : St} {H' : Hp}, Kp T Γ2 σ2 H3 Γ4 σ' H' → Kp T Γ σ H Γ4 σ' H' := fun z => ((kp.trans (R2.en.kp u3.h)).trans z).mono fun j h => by
        simp only [List.mem_append, List.not_mem_nil, or_false] at h
        exact h.elim id id
      cases r2 : b Γ2 with
      | none => rw [r2] at hr; cases hr
      | some o1 =>
        rw [r2] at hr
        refine b2 F0 H0 F3 H3 Γ2 σ2 _ o1 R3 r2 ?_
        cases o1 with
        | nx Γ4 => exact fun σ' F' H' R' z => ⟨F', Γ4, R', fin z, hr⟩
        | ct Γ4 => exact fun σ' F' H' R' z => ⟨F', Γ4, R', fin z, hr⟩
        | bk Γ4 => cases hr; exact fun σ' F' H' R' z => k σ' F' H' R' (fin z)
        | rt s => cases hr; exact fun v F' H' u l => k v F' H' u l
    · next q =>
      cases hr
      exact c2 Γ2 σ2 H0 F2 H2 _ false R2.en q fun F3 H3 u3 => k σ2 F3 H3 (R2.mono u3) ((kp.trans (R2.en.kp u3.h)).mono fun j h => by simpa using h)
    · cases hr
/-! ### ghosts: what a name holds is to stay as it is from here on -/
def frzE (i : Nat) (Γ : En) : En := match Γ[i]? with
  | some (some (.ow xs)) => setE i (.fz (.list xs)) Γ
  | _ => Γ
theorem StR.freeze {K : PySem.W.Frag} {F0 H0 F H : Hp} {Γ : En} {σ : St} (i : Nat) (R : StR K F0 H0 F H Γ σ) : ∃ F', StR K F0 H0 F' H (frzE i Γ) σ := by
  unfold frzE
  split
  · next xs q =>
    obtain ⟨v, h1, a, vs, rfl, hF, hH, hda⟩ := R.en.sl i _ q
    have sF : Same F (upd F a (.lst vs)) := same_new hF
    have sH : Same (upd F a (.lst vs)) H := fun b o e => by
      by_cases hb : b = a
      · subst hb; rw [upd_same] at e; cases e; exact hH
      · rw [upd_ne hb] at e; exact R.en.fh b o e
    refine ⟨upd F a (.lst vs), ⟨sH, fun j s hj => ?_, fun j ys b e1 e2 => ?_, fun j k ys zs b e1 e2 e3 e4 => ?_, by unfold setE; rw [List.length_set]; exact R.en.ln⟩, R.su.f.trans sF, R.su.h, sH, fun b o e1 e2 => ?_⟩
    · unfold setE at hj
      rw [List.getElem?_set] at hj
      split at hj
      · next e =>
        subst e
        split at hj
        · cases hj; exact ⟨_, h1, .lst (SqL.of upd_same) (dpAll_mono sF hda)⟩
        · cases hj
      · next e =>
        obtain ⟨v, e1, e2⟩ := R.en.sl j s hj
        refine ⟨v, e1, ?_⟩
        cases s with
        | fz d => exact dp_mono sF e2
        | ow zs =>
          obtain ⟨b, ws, rfl, q1, q2, q3⟩ := e2
          have ne : b ≠ a := fun z => by subst z; exact e (R.en.ds i j xs zs b q hj h1 e1)
          exact ⟨b, ws, rfl, by rw [upd_ne ne]; exact q1, q2, dpAll_mono sF q3⟩
    · unfold setE at e1
      rw [List.getElem?_set] at e1
      split at e1
      · split at e1 <;> cases e1
      · exact R.en.nw j ys b e1 e2
    · unfold setE at e1 e2
      rw [List.getElem?_set] at e1 e2
      split at e1
      · split at e1 <;> cases e1
      · split at e2
        · split at e2 <;> cases e2
        · exact R.en.ds j k ys zs b e1 e2 e3 e4
    · rw [upd_ne (ne_of_none e1 (R.en.nw i xs a q h1))]; exact R.su.o b o e1 e2
  · exact ⟨F, R⟩
def oFrz (i : Nat) (g : En → Option Out) : En → Option Out := fun Γ => g (frzE i Γ)
theorem frzE_ne {i j : Nat} (h : i ≠ j) (Γ : En) : (frzE i Γ)[j]? = Γ[j]? := by
  unfold frzE
  split
  · exact List.getElem?_set_ne h
  · rfl
theorem ss_frz (i : Nat) {st : Stmt} {T : List Nat} {g} (h : SS S st T g) : SS S st ([i] ++ T) (oFrz i g) := by
  obtain ⟨t, a1, a2⟩ := h
  refine ⟨t, a1, fun F0 H0 F H Γ σ D o R hg k => ?_⟩
  obtain ⟨F', R'⟩ := R.freeze i
  refine a2 F0 H0 F' H (frzE i Γ) σ D o R' hg (k.step fun j hj => ⟨frzE_ne (fun e => hj (by rw [e]; exact List.mem_cons_self)) Γ, rfl, fun _ _ _ _ => rfl⟩)
/-! ### a def -/
def startE (n : Nat) (ds : List PyData) : En := (ds.map fun d => some (Sl.fz d)) ++ List.replicate (n - ds.length) none
def mirror (n : Nat) (g : En → Option Out) : List PyData → Option Sl := fun ds => match g (startE n ds) with
  | some (.rt s) => some s
  | some (.nx _) => some (.fz .none)
  | _ => none
theorem start_ok {K : PySem.W.Frag} {F H : Hp} {N : List Str} {vs : List V} {ds : List PyData} (fh : Same F H) (hd : DpAll K F vs ds) : EnR K H F H (startE N.length ds) (start N vs) := by
  have hl := hd.length
  have get : ∀ (i : Nat) (s : Sl), (startE N.length ds)[i]? = some (some s) → ∃ d, s = .fz d ∧ ds[i]? = some d := fun i s h => by
    unfold startE at h
    by_cases hi : i < ds.length
    · rw [List.getElem?_append_left (by rw [List.length_map]; exact hi), List.getElem?_map] at h
      cases e : ds[i]? with
      | none => rw [e] at h; cases h
      | some d => rw [e] at h; cases h; exact ⟨d, rfl, rfl⟩
    · rw [List.getElem?_append_right (by rw [List.length_map]; omega), List.getElem?_replicate] at h
      split at h <;> cases h
  refine ⟨fh, fun i s h => ?_, fun i xs a h => ?_, fun i j xs ys a h => ?_, ?_⟩
  · obtain ⟨d, rfl, e⟩ := get i s h
    obtain ⟨v, e1, e2⟩ := hd.get' e
    refine ⟨v, ?_, e2⟩
    unfold L2.start
    rw [List.getElem?_append_left (by rw [List.length_map]; exact (List.getElem?_eq_some_iff.mp e1).1), List.getElem?_map, e1]; rfl
  · obtain ⟨d, e, _⟩ := get i _ h; cases e
  · obtain ⟨d, e, _⟩ := get i _ h; cases e
  · unfold startE L2.start
    simp only [List.length_append, List.length_map, List.length_replicate, hl]
theorem passes_nox {X : Cx} : PassesOwn (model X.prog X.w) X.A X.env (X.nox).xe := PassesOwn.never
/-- the static side of a def's body -/
abbrev sxOf (P : Program) (w : World) (K : PySem.W.Frag) (mg : Str → Option Value) (base : Heap) (N : List Str) (sc : Scope) (k : Nat) : Sx := ⟨P, w, K, mg, base, N, sc, k, fun _ => true⟩
theorem fn_ok {P : Program} {w : World} {K : PySem.W.Frag} {mg : Str → Option Value} {base : Heap} {x qual : Str} {st : Stmt} {f : Addr} {fd : FuncData} {N ps : List Str} {k : Nat} {g} (F : Fun K x qual st f fd) (sc : FnScope N ps (defScope st))
    {T : List Nat} (hb : SSs (sxOf P w K mg base N (defScope st) k) (defBody st) T g) : FnOk P w K mg base CX0 (k + 1) f fd ps (spD K ps.length (mirror N.length g)) := by
  obtain ⟨t, b1, b2⟩ := hb
  refine F.ok sc (fun vs H Q E h => ?_) (fun cdv A outer s H vs Q E hr h => ?_)
  · obtain ⟨F, ds, s, _, hl, hd, _⟩ := h
    rw [hd.length]; exact hl
  · obtain ⟨F, ds, s1, fh, hl, hd, hm, kQ⟩ := h
    refine ⟨t, b1 _ ⟨rfl, rfl, rfl, rfl, rfl, rfl, rfl, hr, rfl, sc.nd, rfl, PassesOwn.never⟩, ?_⟩
    unfold mirror at hm
    cases q : g (startE N.length ds) with
    | none => rw [q] at hm; cases hm
    | some o =>
      rw [q] at hm
      refine b2 F H F H _ _ _ o ⟨start_ok fh hd, .refl fh⟩ q ?_
      cases o with
      | rt s => cases hm; exact fun v F' H' u l => kQ v F' H' u l
      | nx Γ => cases hm; exact fun σ F' H' R _ => kQ .non F' H' R.su ⟨.non, fun _ _ z => by cases z⟩
      | bk Γ => cases hm
      | ct Γ => cases hm
end
end
end Bd

namespace Bd
open PySem L2
noncomputable section
abbrev pSub : PyData → PyData → Option Sl := pI (fun i j => .int (i - j)) fun _ _ => true
abbrev pMul : PyData → PyData → Option Sl := pI (fun i j => .int (i * j)) mulB
abbrev pDiv : PyData → PyData → Option Sl := pI (fun i j => .int (i / j)) divB
abbrev pMod : PyData → PyData → Option Sl := pI (fun i j => .int (i % j)) modB
abbrev pPow : PyData → PyData → Option Sl := pI (fun i j => .int (i ^ j.toNat)) powB
abbrev pLt : PyData → PyData → Option Sl := pI (fun i j => .bool (decide (i < j))) fun _ _ => true
abbrev pLe : PyData → PyData → Option Sl := pI (fun i j => .bool (decide (i ≤ j))) fun _ _ => true
abbrev pGt : PyData → PyData → Option Sl := pI (fun i j => .bool (decide (j < i))) fun _ _ => true
abbrev pGe : PyData → PyData → Option Sl := pI (fun i j => .bool (decide (j ≤ i))) fun _ _ => true
/-! ### the functions, one step at a time -/
section
variable {f h : En → Option PyData} {fs gs : En → Option Sl} {c d : En → Option Bool} {a : En → Option (List PyData)} {g k : En → Option Out} {Γ Δ : En} {i j : Nat}
@[simp] theorem e_setE0 {s : Sl} {x : Option Sl} {l : En} : setE 0 s (x :: l) = some s :: l := id rfl
@[simp] theorem e_setES {s : Sl} {x : Option Sl} {l : En} {n : Nat} : setE (n + 1) s (x :: l) = x :: setE n s l := id rfl
@[simp] theorem e_dOf : dOf fs Γ = (fs Γ).map Sl.d := id rfl
@[simp] theorem e_fzOf : fzOf f Γ = (f Γ).map Sl.fz := id rfl
@[simp] theorem e_fz (d : PyData) : (Sl.fz d).d = d := id rfl
@[simp] theorem e_ow (xs : List PyData) : (Sl.ow xs).d = .list xs := id rfl
@[simp] theorem e_gSl0 {s : Sl} {l : En} : gSl 0 (some s :: l) = some s.d := id rfl
@[simp] theorem e_gSlS {x : Option Sl} {l : En} {n : Nat} : gSl (n + 1) (x :: l) = gSl n l := id rfl
@[simp] theorem e_gFz0 {d : PyData} {l : En} : gFz 0 (some (.fz d) :: l) = some d := id rfl
@[simp] theorem e_gFzS {x : Option Sl} {l : En} {n : Nat} : gFz (n + 1) (x :: l) = gFz n l := id rfl
@[simp] theorem e_kC (d : PyData) : kC d Γ = some d := id rfl
@[simp] theorem e_aNil : aNil Γ = some [] := id rfl
@[simp] theorem e_aCons : aCons f a Γ = (f Γ).bind fun d => (a Γ).map (d :: ·) := id rfl
@[simp] theorem e_dLst : dLst a Γ = (a Γ).bind fun ds => if ds.length ≤ cap then some (.ow ds) else none := id rfl
@[simp] theorem e_dTup : dTup a Γ = (a Γ).bind fun ds => if ds.length ≤ cap then some (.fz (.tuple ds)) else none := id rfl
@[simp] theorem e_b2 {p} : b2 p f h Γ = (f Γ).bind fun x => (h Γ).bind fun y => p x y := id rfl
@[simp] theorem e_pI {u : Int → Int → PyData} {C : Int → Int → Bool} {i j : Int} : pI u C (.int i) (.int j) = if C i j = true then some (.fz (u i j)) else none := id rfl
@[simp] theorem e_pAddI {i j : Int} : pAdd (.int i) (.int j) = some (.fz (.int (i + j))) := id rfl
@[simp] theorem e_pAddL {x y : List PyData} : pAdd (.list x) (.list y) = if x.length + y.length ≤ cap then some (.ow (x ++ y)) else none := id rfl
@[simp] theorem e_callD {p} : callD p a Γ = (a Γ).bind p := id rfl
@[simp] theorem e_bOf : bOf fs Γ = (match fs Γ with | some (.fz (.bool b)) => some b | _ => none) := id rfl
@[simp] theorem e_bNot : bNot c Γ = (c Γ).map (!·) := id rfl
@[simp] theorem e_bTru : bTru f Γ = (f Γ).bind truD := id rfl
@[simp] theorem e_truB (b : Bool) : truD (.bool b) = some b := id rfl
@[simp] theorem e_bAnd : bAnd c d Γ = (match c Γ with | some true => d Γ | some false => some false | none => none) := id rfl
@[simp] theorem e_bOr : bOr c d Γ = (match c Γ with | some true => some true | some false => d Γ | none => none) := id rfl
@[simp] theorem e_vAnd : vAnd fs gs Γ = (match fs Γ with | some (.fz (.bool true)) => gs Γ | some (.fz (.bool false)) => some (.fz (.bool false)) | _ => none) := id rfl
@[simp] theorem e_bYes : bYes Γ = some true := id rfl
@[simp] theorem e_pLenL {xs : List PyData} : pLen [.list xs] = some (.fz (.int xs.length)) := id rfl
@[simp] theorem e_pLenT {xs : List PyData} : pLen [.tuple xs] = some (.fz (.int xs.length)) := id rfl
@[simp] theorem e_pAbs {i : Int} : pAbs [.int i] = some (.fz (.int (if i < 0 then -i else i))) := id rfl
@[simp] theorem e_pListOf {xs : List PyData} : pListOf [.list xs] = some (.ow xs) := id rfl
@[simp] theorem e_pIxL {xs : List PyData} {i : Int} : pIx (.list xs) (.int i) = (atI xs i).map Sl.fz := id rfl
@[simp] theorem e_pIxT {xs : List PyData} {i : Int} : pIx (.tuple xs) (.int i) = (atI xs i).map Sl.fz := id rfl
@[simp] theorem e_vIsi {T : String} : vIsi T f Γ = (f Γ).map fun d => .fz (.bool (isTy T d)) := id rfl
@[simp] theorem e_iLst : iLst f Γ = (match f Γ with | some (.list xs) => some xs | _ => none) := id rfl
@[simp] theorem e_iEnm : iEnm f Γ = (match f Γ with | some (.list xs) => some (enumD xs) | _ => none) := id rfl
@[simp] theorem e_gNm {d : PyData} : gNm i d Γ = some (setE i (.fz d) Γ) := id rfl
@[simp] theorem e_oNil : oNil Γ = some (.nx Γ) := id rfl
@[simp] theorem e_oSeq : oSeq g k Γ = (match g Γ with | some (.nx Γ') => k Γ' | r => r) := id rfl
@[simp] theorem e_oSet : oSet i fs Γ = (fs Γ).map fun s => .nx (setE i s Γ) := id rfl
@[simp] theorem e_oRet : oRet fs Γ = (fs Γ).map Out.rt := id rfl
@[simp] theorem e_oIf : oIf c g k Γ = (match c Γ with | some true => g Γ | some false => k Γ | none => none) := id rfl
@[simp] theorem e_oFor {fi u} : oFor fi u g Γ = (fi Γ).bind fun ds => forD u g ds Γ := id rfl
@[simp] theorem e_oFrz : oFrz i g Γ = g (frzE i Γ) := id rfl
@[simp] theorem e_vLc {fi u fe vs} : vLc fi u c fe vs Γ = (fi Γ).bind fun ds => if ds.length < cap then (lcD u c fe (wipeE Γ vs) ds).map Sl.ow else none := id rfl
@[simp] theorem e_frz0w {xs : List PyData} {l : En} : frzE 0 (some (.ow xs) :: l) = some (.fz (.list xs)) :: l := id rfl
@[simp] theorem e_frz0f {d : PyData} {l : En} : frzE 0 (some (.fz d) :: l) = some (.fz d) :: l := id rfl
@[simp] theorem e_frzS {x : Option Sl} {l : En} {n : Nat} : frzE (n + 1) (x :: l) = x :: frzE n l := by
  unfold frzE
  rw [List.getElem?_cons_succ]
  cases q : l[n]? with
  | none => rfl
  | some o =>
    cases o with
    | none => rfl
    | some s => cases s <;> rfl
@[simp] theorem e_wipeN : wipeE Γ [] = Γ := id rfl
@[simp] theorem e_wipeC {v : Nat} {vs : List Nat} : wipeE Γ (v :: vs) = (wipeE Γ vs).set v none := id rfl
@[simp] theorem e_tyL {xs : List PyData} : tyName (.list xs) = "list" := id rfl
@[simp] theorem e_tyT {xs : List PyData} : tyName (.tuple xs) = "tuple" := id rfl
@[simp] theorem e_tyI {n : Int} : tyName (.int n) = "int" := id rfl
@[simp] theorem e_tyB {b : Bool} : tyName (.bool b) = "bool" := id rfl
theorem e_oRetV0 {s : Sl} {l : En} : oRetV 0 (some s :: l) = some (.rt s) := rfl
end
@[simp] theorem e_oRetV {i : Nat} {Γ : En} : oRetV i Γ = (match Γ[i]? with | some (some s) => some (.rt s) | _ => none) := id rfl
@[simp] theorem e_oApp {i : Nat} {Γ : En} {f} : oApp i f Γ = (match Γ[i]?, f Γ with | some (some (.ow xs)), some d => if xs.length < cap then some (.nx (setE i (.ow (xs ++ [d])) Γ)) else none | _, _ => none) := id rfl
@[simp] theorem e_oExt {i : Nat} {Γ : En} {f} : oExt i f Γ = (match Γ[i]?, f Γ with | some (some (.ow xs)), some (.list ys) => if xs.length + ys.length ≤ cap then some (.nx (setE i (.ow (xs ++ ys)) Γ)) else none | _, _ => none) := id rfl
@[simp] theorem e_iOwn {j : Nat} {Γ : En} : iOwn j Γ = (match Γ[j]? with | some (some (.ow xs)) => some xs | _ => none) := id rfl
@[simp] theorem e_iOwnE {j : Nat} {Γ : En} : iOwnE j Γ = (match Γ[j]? with | some (some (.ow xs)) => some (enumD xs) | _ => none) := id rfl
@[simp] theorem e_gTpl2 {g h : PyData → En → Option En} {a b : PyData} {Γ : En} : gTpl 2 (gsCons g (gsCons h gsNil)) (.tuple [a, b]) Γ = (g a Γ).bind fun Γ1 => (h b Γ1).bind fun Γ2 => some Γ2 := by
  unfold gTpl gsCons gsNil
  simp
/-! ### lists of nums, lists of lists of nums -/
abbrev nums (ns : List Int) : List PyData := ns.map PyData.int
abbrev rowD (r : List Int) : PyData := .list (nums r)
abbrev rows (o : List (List Int)) : List PyData := o.map rowD
theorem ints_len (ns : List Int) : (nums ns).length = ns.length := List.length_map ..
theorem rows_len (o : List (List Int)) : (rows o).length = o.length := List.length_map ..
theorem atI_of {α : Type} {xs : List α} {z : Int} {v : α} (h0 : 0 ≤ z) (h : xs[z.toNat]? = some v) : atI xs z = some v := by
  unfold atI ixN
  have hl := (List.getElem?_eq_some_iff.mp h).1
  rw [if_pos h0, if_pos (by omega)]
  exact h
theorem atI_ints {ns : List Int} {z v : Int} (h0 : 0 ≤ z) (h : ns[z.toNat]? = some v) : atI (nums ns) z = some (.int v) := atI_of h0 (by rw [List.getElem?_map, h]; rfl)
theorem atI_rows {o : List (List Int)} {z : Int} {r : List Int} (h0 : 0 ≤ z) (h : o[z.toNat]? = some r) : atI (rows o) z = some (rowD r) := atI_of h0 (by rw [List.getElem?_map, h]; rfl)
/-- a comprehension over nums -/
theorem lcD_ints {i : Nat} {c : En → Option Bool} {fe : En → Option PyData} {Γ : En} (p : Int → Bool) (F : Int → PyData) : ∀ (ns : List Int), (∀ n ∈ ns, c (setE i (.fz (.int n)) Γ) = some (p n)) → (∀ n ∈ ns, p n = true → fe (setE i (.fz (.int n)) Γ) = some (F n)) →
    lcD (gNm i) c fe Γ (nums ns) = some ((ns.filter p).map F)
  | [], _, _ => rfl
  | n :: ns, hc, hf => by
    have ih := lcD_ints p F ns (fun m hm => hc m (List.mem_cons_of_mem _ hm)) (fun m hm => hf m (List.mem_cons_of_mem _ hm))
    show (gNm i (.int n) Γ).bind _ = _
    rw [e_gNm, Option.bind_some, hc n List.mem_cons_self, Option.bind_some]
    by_cases hp : p n = true
    · rw [if_pos hp, hf n List.mem_cons_self hp, Option.bind_some]
      show (lcD (gNm i) c fe Γ (nums ns)).map _ = _
      rw [ih, List.filter_cons, if_pos hp]; rfl
    · rw [if_neg hp, List.filter_cons, if_neg hp]; exact ih
/-- over rows -/
theorem lcD_rows {i : Nat} {c : En → Option Bool} {fe : En → Option PyData} {Γ : En} (p : List Int → Bool) (F : List Int → PyData) : ∀ (ns : List (List Int)), (∀ n ∈ ns, c (setE i (.fz (rowD n)) Γ) = some (p n)) → (∀ n ∈ ns, p n = true → fe (setE i (.fz (rowD n)) Γ) = some (F n)) →
    lcD (gNm i) c fe Γ (rows ns) = some ((ns.filter p).map F)
  | [], _, _ => rfl
  | n :: ns, hc, hf => by
    have ih := lcD_rows p F ns (fun m hm => hc m (List.mem_cons_of_mem _ hm)) (fun m hm => hf m (List.mem_cons_of_mem _ hm))
    show (gNm i (rowD n) Γ).bind _ = _
    rw [e_gNm, Option.bind_some, hc n List.mem_cons_self, Option.bind_some]
    by_cases hp : p n = true
    · rw [if_pos hp, hf n List.mem_cons_self hp, Option.bind_some]
      show (lcD (gNm i) c fe Γ (rows ns)).map _ = _
      rw [ih, List.filter_cons, if_pos hp]; rfl
    · rw [if_neg hp, List.filter_cons, if_neg hp]; exact ih
/-- a loop by its invariant: b what is kept, y what isn't told -/
theorem forD_fold {α β γ : Type} {g : PyData → En → Option En} {body : En → Option Out} (emb : α → PyData) (I : β → γ → En) (step : β → α → β) (Pr : β → List α → Prop)
    (h : ∀ b y x xs, Pr b (x :: xs) → Pr (step b x) xs ∧ ∃ y', (g (emb x) (I b y)).bind body = some (.nx (I (step b x) y'))) :
    ∀ (xs : List α) (b : β) (y : γ), Pr b xs → ∃ y', forD g body (xs.map emb) (I b y) = some (.nx (I (xs.foldl step b) y')) ∧ Pr (xs.foldl step b) []
  | [], b, y, h0 => ⟨y, rfl, h0⟩
  | x :: xs, b, y, h0 => by
    obtain ⟨h1, y1, h2⟩ := h b y x xs h0
    obtain ⟨y2, h3, h4⟩ := forD_fold emb I step Pr h xs (step b x) y1 h1
    refine ⟨y2, ?_, h4⟩
    rw [List.map_cons]
    unfold forD
    cases q : g (emb x) (I b y) with
    | none => rw [q] at h2; cases h2
    | some Γ1 =>
      rw [q, Option.bind_some] at h2
      rw [Option.bind_some, h2]
      exact h3
theorem forD_inv {α : Type} {g : PyData → En → Option En} {body : En → Option Out} (emb : α → PyData) (Q : List α → En → Prop) (h : ∀ x xs Γ, Q (x :: xs) Γ → ∃ Γ', (g (emb x) Γ).bind body = some (.nx Γ') ∧ Q xs Γ') :
    ∀ (xs : List α) (Γ : En), Q xs Γ → ∃ Γ', forD g body (xs.map emb) Γ = some (.nx Γ') ∧ Q [] Γ'
  | [], Γ, h0 => ⟨Γ, rfl, h0⟩
  | x :: xs, Γ, h0 => by
    obtain ⟨Γ1, h1, h2⟩ := h x xs Γ h0
    obtain ⟨Γ2, h3, h4⟩ := forD_inv emb Q h xs Γ1 h2
    refine ⟨Γ2, ?_, h4⟩
    rw [List.map_cons]
    unfold forD
    cases q : g (emb x) Γ with
    | none => rw [q] at h1; cases h1
    | some Γ3 =>
      rw [q, Option.bind_some] at h1
      rw [Option.bind_some, h1]
      exact h3
theorem rng_map (n : Nat) : rngD 0 n = (List.range n).map fun (k : Nat) => PyData.int (k : Int) := by unfold rngD; simp
end
end Bd

namespace Com
open PySem L2 Bd
noncomputable section
def g_law_cell : En → Option Out :=
  (oSeq (oIf (bOf (b2 pLt (gSl 1) (dOf (callD pLen (aCons (gSl 0) aNil)))))
  (oSeq (oRet (b2 pIx (gSl 0) (gSl 1)))
  oNil)
  oNil)
  (oSeq (oRet (fzOf (kC (.int 0))))
  oNil))
def m_law_cell : List PyData → Option Sl := mirror 2 g_law_cell
def g_law_digits_b1 : En → Option Out :=
  (oSeq (oApp 3 (dOf (b2 pMod (gSl 0) (gSl 1))))
  (oSeq (oSet 0 (fzOf (dOf (b2 pDiv (gSl 0) (gSl 1)))))
  oNil))
def g_law_digits : En → Option Out :=
  (oSeq (oSet 3 (dLst aNil))
  (oSeq (oFor (iR1 (gSl 2)) (gNm 4)
  g_law_digits_b1)
  (oSeq (oRetV 3)
  oNil)))
def m_law_digits : List PyData → Option Sl := mirror 5 g_law_digits
def g_law_mixed_b1 : En → Option Out :=
  (oSeq (oSet 5 (fzOf (dOf (b2 pMod (dOf (b2 pMul (dOf (b2 pAdd (dOf (b2 pAdd (dOf (b2 pAdd (dOf (b2 pMod (gSl 0) (kC (.int 998244353)))) (dOf (b2 pMul (dOf (b2 pMul (kC (.int 31)) (gSl 4))) (gSl 4))))) (dOf (b2 pMul (kC (.int 1013)) (gSl 4))))) (kC (.int 1)))) (kC (.int 48271)))) (kC (.int 2147483647))))))
  (oSeq (oSet 6 (fzOf (dOf (b2 pMod (dOf (b2 pMul (dOf (b2 pAdd (dOf (b2 pAdd (dOf (b2 pDiv (gSl 5) (kC (.int 7)))) (dOf (b2 pMul (dOf (b2 pMod (dOf (b2 pDiv (gSl 0) (kC (.int 1009)))) (kC (.int 10007)))) (kC (.int 17)))))) (gSl 4))) (kC (.int 69621)))) (kC (.int 2147483629))))))
  (oSeq (oApp 3 (dOf (b2 pMod (dOf (b2 pDiv (gSl 6) (kC (.int 11)))) (gSl 1))))
  oNil)))
def g_law_mixed : En → Option Out :=
  (oSeq (oSet 3 (dLst aNil))
  (oSeq (oFor (iR1 (gSl 2)) (gNm 4)
  g_law_mixed_b1)
  (oSeq (oRetV 3)
  oNil)))
def m_law_mixed : List PyData → Option Sl := mirror 7 g_law_mixed
def g_law_row : En → Option Out :=
  (oSeq (oIf (bOf (b2 pGe (dOf (callD pAbs (aCons (gSl 0) aNil))) (dOf (b2 pPow (kC (.int 10)) (kC (.int 18))))))
  (oSeq (oRet (callD m_law_digits (aCons (gFz 0) (aCons (gFz 1) (aCons (gFz 2) aNil)))))
  oNil)
  oNil)
  (oSeq (oRet (callD m_law_mixed (aCons (gFz 0) (aCons (gFz 1) (aCons (gFz 2) aNil)))))
  oNil))
def m_law_row : List PyData → Option Sl := mirror 3 g_law_row
def g_law_closed_b1 : En → Option Out :=
  (oSeq (oIf (bOf (b2 pEq (dOf (b2 pIx (gSl 1) (gSl 3))) (kC (.int 0))))
  (oSeq (oApp 5 (gFz 6))
  (oSeq (oExt 5 (dOf (b2 pIx (gSl 2) (gSl 6))))
  oNil))
  oNil)
  (oSeq (oSet 3 (fzOf (dOf (b2 pAdd (gSl 3) (kC (.int 1))))))
  oNil))
def g_law_closed_b2 : En → Option Out :=
  (oSeq (oSet 5 (dLst aNil))
  (oSeq (oFor (iR1 (gSl 4)) (gNm 6)
  g_law_closed_b1)
  (oSeq (oApp 2 (dOf (callD pSortedSet (aCons (gSl 5) aNil))))
  oNil)))
def g_law_closed : En → Option Out :=
  (oSeq (oSet 2 (dLst aNil))
  (oSeq (oSet 3 (fzOf (kC (.int 0))))
  (oSeq (oFor (iR1 (gSl 0)) (gNm 4)
  g_law_closed_b2)
  (oSeq (oRetV 2)
  oNil))))
def m_law_closed : List PyData → Option Sl := mirror 7 g_law_closed
def g_law_order : En → Option Out :=
  (oSeq (oSet 1 (fzOf (dOf (b2 pMod (gSl 0) (kC (.int 10))))))
  (oSeq (oIf (bOf (b2 pEq (dOf (b2 pMod (dOf (b2 pDiv (gSl 0) (kC (.int 10)))) (kC (.int 8)))) (kC (.int 1))))
  (oSeq (oSet 1 (fzOf (dOf (b2 pMod (dOf (b2 pDiv (gSl 0) (kC (.int 80)))) (kC (.int 15))))))
  oNil)
  oNil)
  (oSeq (oRet (callD m_law_closed (aCons (gFz 1) (aCons (dOf (callD m_law_row (aCons (dOf (b2 pDiv (gSl 0) (kC (.int 4800)))) (aCons (dOf (b2 pAdd (kC (.int 2)) (dOf (b2 pMod (dOf (b2 pDiv (gSl 0) (kC (.int 1200)))) (kC (.int 4)))))) (aCons (kC (.int 91)) aNil))))) aNil))))
  oNil)))
def m_law_order : List PyData → Option Sl := mirror 2 g_law_order
theorem iR1_nat {f : En → Option PyData} {Γ : En} {n : Nat} (h : f Γ = some (.int (n : Int))) (hn : n < 2 ^ 60) : iR1 f Γ = some ((List.range n).map fun (k : Nat) => PyData.int (k : Int)) := by
  unfold iR1
  rw [h]
  dsimp only
  rw [big_eq, if_pos (by omega), Int.toNat_natCast, rng_map]
theorem cell_spec (s : List Int) (k : Nat) : ∃ c, m_law_cell [.list (nums s), .int (k : Int)] = some (.fz (.int c)) := by
  unfold m_law_cell mirror g_law_cell startE
  by_cases h : (k : Int) < s.length
  · obtain ⟨c, hc⟩ : ∃ c, s[k]? = some c := ⟨s[k], by simp⟩
    have ha : atI (nums s) (k : Int) = some (.int c) := atI_ints (by omega) (by simpa using hc)
    refine ⟨c, ?_⟩
    simp [h, ha]
  · refine ⟨0, ?_⟩
    simp [h]
/-- the numbers of a row, each from nought up to below b -/
def Within (b : Int) (ds : List Int) : Prop := ∀ d ∈ ds, 0 ≤ d ∧ d < b
theorem Within.snoc {b : Int} {ds : List Int} {d : Int} (h : Within b ds) (h0 : 0 ≤ d) (h1 : d < b) : Within b (ds ++ [d]) := fun x hx => by
  rcases List.mem_append.mp hx with q | q
  · exact h x q
  · rw [List.mem_singleton] at q; subst q; exact ⟨h0, h1⟩
theorem digits_spec (c b : Int) (n : Nat) (hb : 0 < b) (hb2 : b < 1073741824) (hn : n ≤ 1000) : ∃ ds, m_law_digits [.int c, .int b, .int (n : Int)] = some (.ow (nums ds)) ∧ ds.length = n ∧ Within b ds := by
  obtain ⟨y, h1, h2⟩ := forD_fold (g := gNm 4) (body := g_law_digits_b1) (fun (k : Nat) => PyData.int (k : Int))
    (fun (s : Int × List Int) (y : Option Sl) => [some (.fz (.int s.1)), some (.fz (.int b)), some (.fz (.int (n : Int))), some (.ow (nums s.2)), y]) (fun s _ => (s.1 / b, s.2 ++ [s.1 % b])) (fun s rest => s.2.length + rest.length = n ∧ Within b s.2)
    (fun s y x xs hp => by
      obtain ⟨hl, hw⟩ := hp
      simp only [List.length_cons] at hl
      refine ⟨⟨by simp; omega, hw.snoc (Int.emod_nonneg _ (by omega)) (Int.emod_lt_of_pos _ hb)⟩, some (.fz (.int (x : Int))), ?_⟩
      have hc : s.2.length < cap := by rw [cap_eq]; omega
      simp [g_law_digits_b1, modB, divB, big_eq, hb, hb2, hc]) (List.range n) (c, []) none ⟨by simp, fun d hd => by cases hd⟩
  refine ⟨_, ?_, by simpa using h2.1, h2.2⟩
  unfold m_law_digits mirror g_law_digits startE
  simp only [List.map_nil] at h1
  have e : iR1 (gSl 2) [some (.fz (.int c)), some (.fz (.int b)), some (.fz (.int (n : Int))), some (.ow []), none] = _ := iR1_nat (n := n) (by simp) (by omega)
  simp [cap_eq, e, h1]
theorem mul_r (i : Int) {j : Int} (h : -(2 ^ 64) < j ∧ j < 2 ^ 64) : mulB i j = true := by
  unfold mulB; rw [big_eq, Bool.or_eq_true]; right; simp only [Bool.and_eq_true, decide_eq_true_eq]; exact h
theorem mul_l (j : Int) {i : Int} (h : -(2 ^ 64) < i ∧ i < 2 ^ 64) : mulB i j = true := by
  unfold mulB; rw [big_eq, Bool.or_eq_true]; left; simp only [Bool.and_eq_true, decide_eq_true_eq]; exact h
theorem mixed_spec (c b : Int) (n : Nat) (hb : 0 < b) (hn : n ≤ 1000) : ∃ ds, m_law_mixed [.int c, .int b, .int (n : Int)] = some (.ow (nums ds)) ∧ ds.length = n ∧ Within b ds := by
  obtain ⟨y, h1, h2⟩ := forD_fold (g := gNm 4) (body := g_law_mixed_b1) (fun (k : Nat) => PyData.int (k : Int))
    (fun (s : List Int) (y : Option Sl × Option Sl × Option Sl) => [some (.fz (.int c)), some (.fz (.int b)), some (.fz (.int (n : Int))), some (.ow (nums s)), y.1, y.2.1, y.2.2])
    (fun s (k : Nat) => s ++ [((((c % 998244353 + 31 * (k : Int) * (k : Int) + 1013 * (k : Int) + 1) * 48271 % 2147483647) / 7 + c / 1009 % 10007 * 17 + (k : Int)) * 69621 % 2147483629) / 11 % b]) (fun s rest => s.length + rest.length = n ∧ Within b s ∧ ∀ k ∈ rest, k < 1000)
    (fun s y x xs hp => by
      obtain ⟨hl, hw, hk⟩ := hp
      have hx := hk x List.mem_cons_self
      simp only [List.length_cons] at hl
      refine ⟨⟨by simp; omega, hw.snoc (Int.emod_nonneg _ (by omega)) (Int.emod_lt_of_pos _ hb), fun k h => hk k (List.mem_cons_of_mem _ h)⟩, (some (.fz (.int (x : Int))), some (.fz (.int ((c % 998244353 + 31 * (x : Int) * (x : Int) + 1013 * (x : Int) + 1) * 48271 % 2147483647))), some (.fz (.int ((((c % 998244353 + 31 * (x : Int) * (x : Int) + 1013 * (x : Int) + 1) * 48271 % 2147483647) / 7 + c / 1009 % 10007 * 17 + (x : Int)) * 69621 % 2147483629)))), ?_⟩
      have hc : s.length < cap := by rw [cap_eq]; omega
      have m1 : mulB 31 (x : Int) = true := mul_l _ (by omega)
      have m2 : mulB (31 * (x : Int)) (x : Int) = true := mul_r _ (by omega)
      have m3 : mulB 1013 (x : Int) = true := mul_l _ (by omega)
      have m4 : ∀ i, mulB i 48271 = true := fun i => mul_r _ (by omega)
      have m5 : ∀ i, mulB i 69621 = true := fun i => mul_r _ (by omega)
      have m6 : ∀ i, mulB i 17 = true := fun i => mul_r _ (by omega)
      simp [g_law_mixed_b1, modB, divB, big_eq, hb, hc, m1, m2, m3, m4, m5, m6]) (List.range n) [] (none, none, none) ⟨by simp, (fun d hd => by cases hd), (fun k h => by have := List.mem_range.mp h; omega)⟩
  refine ⟨_, ?_, by simpa using h2.1, h2.2.1⟩
  unfold m_law_mixed mirror g_law_mixed startE
  simp only [List.map_nil] at h1
  have e : iR1 (gSl 2) [some (.fz (.int c)), some (.fz (.int b)), some (.fz (.int (n : Int))), some (.ow []), none, none, none] = _ := iR1_nat (n := n) (by simp) (by omega)
  simp [cap_eq, e, h1]
theorem row_spec (c b : Int) (n : Nat) (hb : 0 < b) (hb2 : b < 1073741824) (hn : n ≤ 1000) : ∃ ds, m_law_row [.int c, .int b, .int (n : Int)] = some (.ow (nums ds)) ∧ ds.length = n ∧ Within b ds := by
  obtain ⟨d1, e1, p1⟩ := digits_spec c b n hb hb2 hn
  obtain ⟨d2, e2, p2⟩ := mixed_spec c b n hb hn
  have hpw : powB 10 18 = true := by unfold powB; rw [big_eq, big_eq]; decide
  by_cases h : (10 : Int) ^ (18 : Int).toNat ≤ (if c < 0 then -c else c)
  · refine ⟨d1, ?_, p1⟩
    unfold m_law_row mirror g_law_row startE
    simp only [e_oSeq, e_oIf, e_bOf, e_b2, e_dOf, e_callD, e_aCons, e_aNil, e_gSl0, e_fz, Option.map_some, Option.bind_some, e_pAbs, e_kC, e_pI, hpw, if_true, List.map_cons, List.map_nil, List.cons_append, decide_eq_true h, e_oRet, e_gFz0, e_gFzS, e1]
  · refine ⟨d2, ?_, p2⟩
    unfold m_law_row mirror g_law_row startE
    simp only [e_oSeq, e_oIf, e_bOf, e_b2, e_dOf, e_callD, e_aCons, e_aNil, e_gSl0, e_fz, Option.map_some, Option.bind_some, e_pAbs, e_kC, e_pI, hpw, if_true, List.map_cons, List.map_nil, List.cons_append, decide_eq_false h, e_oNil, e_oRet, e_gFz0, e_gFzS, e2]
end
end Com

namespace Com
open PySem L2 Bd
noncomputable section
@[simp] theorem e_pEqI {a b : Int} : pEq (.int a) (.int b) = some (.fz (.bool (a == b))) := id rfl
/-! ### orders -/
def IsOrd (o : List (List Int)) : Prop := ∀ (j : Nat) (r : List Int), o[j]? = some r → r.Pairwise (· < ·) ∧ (∀ x ∈ r, 0 ≤ x ∧ x < (j : Int)) ∧ ∀ x ∈ r, ∀ r', o[x.toNat]? = some r' → ∀ y ∈ r', y ∈ r
theorem nodup_bound : ∀ (n : Nat) (l : List Int), l.Nodup → (∀ x ∈ l, 0 ≤ x ∧ x < (n : Int)) → l.length ≤ n
  | 0, l, _, h => by
    cases l with
    | nil => exact Nat.le_refl _
    | cons a l => have := h a List.mem_cons_self; omega
  | n + 1, l, hn, h => by
    by_cases hm : (n : Int) ∈ l
    · have h1 := nodup_bound n (l.erase (n : Int)) (hn.erase _) fun x hx => by
        have h2 := h x (List.mem_of_mem_erase hx)
        have h3 : x ≠ (n : Int) := ((hn.mem_erase_iff).mp hx).1
        constructor <;> omega
      have h4 := List.length_erase_of_mem hm
      have h5 : 0 < l.length := List.length_pos_of_mem hm
      omega
    · have h1 := nodup_bound n l hn fun x hx => by
        have h2 := h x hx
        have h3 : x ≠ (n : Int) := fun e => hm (e ▸ hx)
        constructor <;> omega
      omega
theorem lt_nodup {l : List Int} (h : l.Pairwise (· < ·)) : l.Nodup := h.imp fun h => by omega
theorem sortU_lt (ns : List Int) : (sortU ns).Pairwise (· < ·) := by
  have h1 : (sortU ns).Pairwise (· ≤ ·) := sortI_sorted _
  have h2 : (sortU ns).Nodup := (sortI_perm (uniq ns)).nodup_iff.mpr (uniq_nodup ns)
  have h3 := List.pairwise_and_iff.mpr ⟨h1, h2⟩
  exact h3.imp fun h => by have := h.1; have := h.2; omega
theorem mem_sortU {x : Int} {ns : List Int} : x ∈ sortU ns ↔ x ∈ ns := by
  unfold sortU
  rw [(sortI_perm _).mem_iff, mem_uniq]
theorem IsOrd.snoc {o : List (List Int)} {r : List Int} (h : IsOrd o) (h1 : r.Pairwise (· < ·)) (h2 : ∀ x ∈ r, 0 ≤ x ∧ x < (o.length : Int)) (h3 : ∀ x ∈ r, ∀ r', o[x.toNat]? = some r' → ∀ y ∈ r', y ∈ r) : IsOrd (o ++ [r]) := by
  intro j q hj
  have old : ∀ (x : Int), 0 ≤ x → x < (o.length : Int) → (o ++ [r])[x.toNat]? = o[x.toNat]? := fun x a b => List.getElem?_append_left (by omega)
  by_cases hl : j < o.length
  · rw [List.getElem?_append_left hl] at hj
    obtain ⟨a, b, c⟩ := h j q hj
    exact ⟨a, b, fun x hx r' hr => by rw [old x (b x hx).1 (by have := (b x hx).2; omega)] at hr; exact c x hx r' hr⟩
  · rw [List.getElem?_append_right (by omega)] at hj
    obtain ⟨e1, e2⟩ := List.getElem?_eq_some_iff.mp hj
    have : j - o.length = 0 := by simp at e1; omega
    have ej : j = o.length := by omega
    subst ej
    simp at e2
    subst e2
    exact ⟨h1, h2, fun x hx r' hr => by rw [old x (h2 x hx).1 (h2 x hx).2] at hr; exact h3 x hx r' hr⟩
theorem IsOrd.row_len {o : List (List Int)} (h : IsOrd o) {j : Nat} {r : List Int} (hj : o[j]? = some r) : r.length ≤ j := by
  obtain ⟨a, b, _⟩ := h j r hj
  exact nodup_bound j r (lt_nodup a) b
theorem e_sortedSet {ns : List Int} (h1 : ns.length < 4000) (h2 : (uniq ns).length < 64) : pSortedSet [.list (nums ns)] = some (.ow (nums (sortU ns))) := by
  unfold pSortedSet
  dsimp only
  rw [toInts_map, Option.bind_some, if_pos ⟨by rw [big_eq]; exact h1, h2⟩]
/-- what is kept in the inner loop -/
structure Inn (o : List (List Int)) (ds : List Int) (hi : Nat) (s : Nat × List Int) (rest : List Nat) : Prop where
  low : ∀ k ∈ rest, k < hi
  at' : s.1 + rest.length ≤ ds.length
  len : s.2.length + 15 * rest.length ≤ 15 * hi
  mem : ∀ x ∈ s.2, 0 ≤ x ∧ x < (hi : Int)
  cl : ∀ x ∈ s.2, ∀ r', o[x.toNat]? = some r' → ∀ y ∈ r', y ∈ s.2
theorem closed_inner (o : List (List Int)) (ds : List Int) (many : Int) (hi : Nat) (hol : o.length = hi) (h14 : hi ≤ 14) (ho : IsOrd o) (at0 : Nat) (hat : at0 + hi ≤ ds.length) (y : Option Sl) :
    ∃ bl y', forD (gNm 6) g_law_closed_b1 ((List.range hi).map fun (k : Nat) => PyData.int (k : Int)) [some (.fz (.int many)), some (.fz (.list (nums ds))), some (.ow (rows o)), some (.fz (.int (at0 : Int))), some (.fz (.int (hi : Int))), some (.ow (nums [])), y] =
      some (.nx [some (.fz (.int many)), some (.fz (.list (nums ds))), some (.ow (rows o)), some (.fz (.int ((at0 + hi : Nat) : Int))), some (.fz (.int (hi : Int))), some (.ow (nums bl)), y']) ∧
      bl.length ≤ 15 * hi ∧ (∀ x ∈ bl, 0 ≤ x ∧ x < (hi : Int)) ∧ ∀ x ∈ bl, ∀ r', o[x.toNat]? = some r' → ∀ y ∈ r', y ∈ bl := by
  have key := forD_fold (g := gNm 6) (body := g_law_closed_b1) (fun (k : Nat) => PyData.int (k : Int))
    (fun (s : Nat × List Int) (y : Option Sl) => [some (.fz (.int many)), some (.fz (.list (nums ds))), some (.ow (rows o)), some (.fz (.int (s.1 : Int))), some (.fz (.int (hi : Int))), some (.ow (nums s.2)), y])
    (fun s (k : Nat) => (s.1 + 1, if ds.getD s.1 0 = 0 then s.2 ++ (k : Int) :: o.getD k [] else s.2)) (Inn o ds hi) (fun s y x xs hp => ?_) (List.range hi) (at0, []) y
    ⟨fun k hk => List.mem_range.mp hk, by simpa using hat, by simp, fun x hx => (by cases hx), fun x hx => (by cases hx)⟩
  · obtain ⟨y', h1, h2⟩ := key
    have e1 : ∀ (l : List Nat) (s : Nat × List Int), (l.foldl (fun (s : Nat × List Int) (k : Nat) => (s.1 + 1, if ds.getD s.1 0 = 0 then s.2 ++ (k : Int) :: o.getD k [] else s.2)) s).1 = s.1 + l.length := by
      intro l
      induction l with
      | nil => intro s; rfl
      | cons a l ih => intro s; rw [List.foldl_cons, ih, List.length_cons]; omega
    have e2 := e1 (List.range hi) (at0, [])
    rw [List.length_range] at e2
    refine ⟨_, y', ?_, by have := h2.len; simpa using this, h2.mem, h2.cl⟩
    rw [h1, e2]
  · have hx := hp.low x List.mem_cons_self
    have hat' := hp.at'
    have hln := hp.len
    rw [List.length_cons] at hat' hln
    have lt : s.1 < ds.length := by omega
    have hd : ds[s.1]? = some (ds.getD s.1 0) := by simp [lt]
    have ha : atI (nums ds) (s.1 : Int) = some (.int (ds.getD s.1 0)) := atI_ints (by omega) (by simpa using hd)
    have hxo : x < o.length := by omega
    have hr : o[x]? = some (o.getD x []) := by simp [hxo]
    have hra : atI (rows o) (x : Int) = some (rowD (o.getD x [])) := atI_rows (by omega) (by simpa using hr)
    obtain ⟨r1, r2, r3⟩ := ho x _ hr
    have rl := ho.row_len hr
    by_cases hz : ds.getD s.1 0 = 0
    · have z2 : (ds.getD s.1 0 == 0) = true := by rw [hz]; rfl
      refine ⟨⟨fun k hk => hp.low k (List.mem_cons_of_mem _ hk), by show s.1 + 1 + _ ≤ _; omega, ?_, ?_, ?_⟩, some (.fz (.int (x : Int))), ?_⟩
      · rw [if_pos hz]; simp only [List.length_append, List.length_cons]; omega
      · rw [if_pos hz]
        intro z hz'
        rcases List.mem_append.mp hz' with q | q
        · exact hp.mem z q
        · rcases List.mem_cons.mp q with rfl | q
          · omega
          · have := r2 z q; omega
      · rw [if_pos hz]
        intro z hz' r' hr' w hw
        rcases List.mem_append.mp hz' with q | q
        · exact List.mem_append_left _ (hp.cl z q r' hr' w hw)
        · refine List.mem_append_right _ (List.mem_cons_of_mem _ ?_)
          rcases List.mem_cons.mp q with rfl | q
          · rw [Int.toNat_natCast, hr] at hr'; cases hr'; exact hw
          · exact r3 z q r' hr' w hw
      · have c1 : s.2.length < cap := by rw [cap_eq]; omega
        have c2 : s.2.length + 1 + (o.getD x []).length ≤ cap := by rw [cap_eq]; omega
        rw [if_pos hz]
        simp only [g_law_closed_b1, e_gNm, e_setES, e_setE0, Option.bind_some, e_oSeq, e_oIf, e_bOf, e_b2, e_dOf, e_gSlS, e_gSl0, e_fz, e_ow, e_pIxL, ha, Option.map_some, e_kC, e_pEqI, z2, e_oApp, e_gFzS, e_gFz0, List.getElem?_cons_succ, List.getElem?_cons_zero, List.length_map, c1, if_true, e_oExt, hra, List.length_append, List.length_cons, List.length_nil, Nat.zero_add, c2, e_oNil, e_oSet, e_fzOf, e_pAddI]
        simp
    · have z2 : (ds.getD s.1 0 == 0) = false := by simpa using hz
      refine ⟨⟨fun k hk => hp.low k (List.mem_cons_of_mem _ hk), by show s.1 + 1 + _ ≤ _; omega, ?_, ?_, ?_⟩, some (.fz (.int (x : Int))), ?_⟩
      · rw [if_neg hz]; show s.2.length + _ ≤ _; omega
      · rw [if_neg hz]; exact hp.mem
      · rw [if_neg hz]; exact hp.cl
      · rw [if_neg hz]
        simp only [g_law_closed_b1, e_gNm, e_setES, e_setE0, Option.bind_some, e_oSeq, e_oIf, e_bOf, e_b2, e_dOf, e_gSlS, e_gSl0, e_fz, e_ow, e_pIxL, ha, Option.map_some, e_kC, e_pEqI, z2, e_oNil, e_oSet, e_fzOf, e_pAddI]
        simp
/-- how many pairs stand ahead of the row j -/
def tri : Nat → Nat
  | 0 => 0
  | j + 1 => tri j + j
theorem tri_le : ∀ {i j : Nat}, i ≤ j → tri i ≤ tri j
  | i, 0, h => by have : i = 0 := by omega
                  subst this; exact Nat.le_refl _
  | i, j + 1, h => by
    rcases Nat.lt_or_ge i (j + 1) with q | q
    · have := tri_le (show i ≤ j by omega)
      show tri i ≤ tri j + j; omega
    · have : i = j + 1 := by omega
      subst this; exact Nat.le_refl _
theorem closed_spec (n : Nat) (ds : List Int) (h14 : n ≤ 14) (hd : tri n ≤ ds.length) : ∃ o, m_law_closed [.int (n : Int), .list (nums ds)] = some (.ow (rows o)) ∧ o.length = n ∧ IsOrd o := by
  have key := forD_inv (g := gNm 4) (body := g_law_closed_b2) (fun (k : Nat) => PyData.int (k : Int))
    (fun rest Γ => ∃ (o : List (List Int)) (y1 y2 y3 : Option Sl), Γ = [some (.fz (.int (n : Int))), some (.fz (.list (nums ds))), some (.ow (rows o)), some (.fz (.int (tri o.length : Int))), y1, y2, y3] ∧ IsOrd o ∧ o.length + rest.length = n ∧ ∀ (i : Nat) (k : Nat), rest[i]? = some k → k = o.length + i)
    (fun x xs Γ hp => ?_) (List.range n) [some (.fz (.int (n : Int))), some (.fz (.list (nums ds))), some (.ow (rows [])), some (.fz (.int (tri 0 : Int))), none, none, none]
    ⟨[], none, none, none, rfl, fun j r h => (by simp at h), by simp, fun i k h => by
      have := (List.getElem?_eq_some_iff.mp h).1
      rw [List.getElem?_range (by simpa using this)] at h
      cases h; simp⟩
  · obtain ⟨Γ', h1, o, y1, y2, y3, rfl, ho, hl, _⟩ := key
    refine ⟨o, ?_, by simpa using hl, ho⟩
    unfold m_law_closed mirror g_law_closed startE
    have e : iR1 (gSl 0) [some (.fz (.int (n : Int))), some (.fz (.list (nums ds))), some (.ow []), some (.fz (.int 0)), none, none, none] = _ := iR1_nat (n := n) (by simp) (by omega)
    have e0 : (tri 0 : Int) = 0 := rfl
    rw [e0] at h1
    simp only [List.map_nil] at h1
    simp [cap_eq, e, h1]
  · obtain ⟨o, y1, y2, y3, rfl, ho, hl, hk⟩ := hp
    rw [List.length_cons] at hl
    have hx : x = o.length := hk 0 x rfl
    subst hx
    have t1 : tri o.length + o.length ≤ ds.length := Nat.le_trans (tri_le (show o.length + 1 ≤ n by omega)) hd
    obtain ⟨bl, y', h1, h2, h3, h4⟩ := closed_inner o ds (n : Int) o.length rfl (by omega) ho (tri o.length) t1 y3
    have hu : (uniq bl).length < 64 := by
      have := nodup_bound o.length (uniq bl) (uniq_nodup bl) fun z hz => h3 z (mem_uniq.mp hz)
      omega
    have e : iR1 (gSl 4) [some (.fz (.int (n : Int))), some (.fz (.list (nums ds))), some (.ow (rows o)), some (.fz (.int (tri o.length : Int))), some (.fz (.int (o.length : Int))), some (.ow []), y3] = _ := iR1_nat (n := o.length) (by simp) (by omega)
    simp only [List.map_nil] at h1
    have c1 : o.length < cap := by rw [cap_eq]; omega
    refine ⟨_, ?_, o ++ [sortU bl], some (.fz (.int (o.length : Int))), some (.ow (nums bl)), y', rfl, ho.snoc (sortU_lt bl) (fun z hz => h3 z (mem_sortU.mp hz)) (fun z hz r' hr w hw => mem_sortU.mpr (h4 z (mem_sortU.mp hz) r' hr w hw)), by simp; omega, fun i k h => ?_⟩
    rotate_left
    · have := hk (i + 1) k (by simpa using h)
      simp; omega
    · have e2 : (tri (o ++ [sortU bl]).length : Int) = ((tri o.length + o.length : Nat) : Int) := by rw [List.length_append]; rfl
      rw [e2]
      simp [g_law_closed_b2, cap_eq, e, h1, e_sortedSet (show bl.length < 4000 by omega) hu, show o.length < 65536 by omega]
/-- the order that a cell makes -/
theorem order_spec (c : Int) : ∃ o, m_law_order [.int c] = some (.ow (rows o)) ∧ o.length ≤ 14 ∧ IsOrd o := by
  have hb : 0 < 2 + c / 1200 % 4 := by have := Int.emod_nonneg (c / 1200) (show (4 : Int) ≠ 0 by decide); omega
  have hb2 : 2 + c / 1200 % 4 < 1073741824 := by have := Int.emod_lt_of_pos (c / 1200) (show (0 : Int) < 4 by decide); omega
  obtain ⟨ds, e1, e2, _⟩ := row_spec (c / 4800) (2 + c / 1200 % 4) 91 hb hb2 (by decide)
  have t14 : ∀ n, n ≤ 14 → tri n ≤ ds.length := fun n h => by rw [e2]; exact Nat.le_trans (tri_le h) (by decide)
  have key : ∀ m : Int, 0 ≤ m → m ≤ 14 → ∃ o, m_law_closed [.int m, .list (nums ds)] = some (.ow (rows o)) ∧ o.length ≤ 14 ∧ IsOrd o := fun m h0 h1 => by
    obtain ⟨n, rfl⟩ : ∃ n : Nat, m = (n : Int) := ⟨m.toNat, by omega⟩
    obtain ⟨o, q1, q2, q3⟩ := closed_spec n ds (by omega) (t14 n (by omega))
    exact ⟨o, q1, by omega, q3⟩
  unfold m_law_order mirror g_law_order startE
  generalize m_law_row = mr at e1 ⊢
  replace e1 : mr [.int (c / 4800), .int (2 + c / 1200 % 4), .int 91] = some (.ow (nums ds)) := e1
  generalize m_law_closed = mc at key ⊢
  have dv : ∀ i j : Int, 0 < j → j < 1073741824 → divB i j = true := fun i j h1 h2 => by unfold divB; rw [big_eq]; simp [h1]; exact h2
  have md : ∀ i j : Int, 0 < j → modB i j = true := fun i j h1 => by unfold modB; simp [h1]
  have d1 := fun i => dv i 10 (by decide) (by decide)
  have d2 := fun i => dv i 80 (by decide) (by decide)
  have d3 := fun i => dv i 4800 (by decide) (by decide)
  have d4 := fun i => dv i 1200 (by decide) (by decide)
  have m1 := fun i => md i 10 (by decide)
  have m2 := fun i => md i 8 (by decide)
  have m3 := fun i => md i 15 (by decide)
  have m4 := fun i => md i 4 (by decide)
  by_cases h : c / 10 % 8 = 1
  · have hz : (c / 10 % 8 == 1) = true := by simpa using h
    obtain ⟨o, q1, q2⟩ := key (c / 80 % 15) (Int.emod_nonneg _ (by decide)) (by have := Int.emod_lt_of_pos (c / 80) (show (0 : Int) < 15 by decide); omega)
    refine ⟨o, ?_, q2⟩
    simp [d1, d2, d3, d4, m1, m2, m3, m4, hz, e1, q1]
  · have hz : (c / 10 % 8 == 1) = false := by simpa using h
    obtain ⟨o, q1, q2⟩ := key (c % 10) (Int.emod_nonneg _ (by decide)) (by have := Int.emod_lt_of_pos c (show (0 : Int) < 10 by decide); omega)
    refine ⟨o, ?_, q2⟩
    simp [d1, d2, d3, d4, m1, m2, m3, m4, hz, e1, q1]
end
end Com

namespace Com
open PySem L2 Bd
noncomputable section
/-! ### == of lists of ints, of lists of such -/
def Shp (n : Nat) (d : PyData) : Prop := d.canLay0 = true ∧ d.depth ≤ n
theorem shp_int (n : Nat) (i : Int) : Shp n (.int i) := ⟨by simp [PyData.canLay0], by simp [PyData.depth]⟩
theorem shp_bool (n : Nat) (i : Bool) : Shp n (.bool i) := ⟨by simp [PyData.canLay0], by simp [PyData.depth]⟩
theorem lay_all : ∀ (xs : List PyData), (∀ x ∈ xs, x.canLay0 = true) → PyData.canLayAll0 xs = true
  | [], _ => by simp [PyData.canLayAll0]
  | x :: xs, h => by
    simp only [PyData.canLayAll0]
    rw [h x List.mem_cons_self, lay_all xs fun y hy => h y (List.mem_cons_of_mem _ hy)]; rfl
theorem depth_all {n : Nat} : ∀ (xs : List PyData), (∀ x ∈ xs, x.depth ≤ n) → PyData.depthAll xs ≤ n
  | [], _ => by simp [PyData.depthAll]
  | x :: xs, h => by
    simp only [PyData.depthAll]
    exact Nat.max_le.mpr ⟨h x List.mem_cons_self, depth_all xs fun y hy => h y (List.mem_cons_of_mem _ hy)⟩
theorem shp_list {n : Nat} {xs : List PyData} (h : ∀ x ∈ xs, Shp n x) : Shp (n + 1) (.list xs) :=
  ⟨by simp only [PyData.canLay0]; exact lay_all xs fun x hx => (h x hx).1, by simp only [PyData.depth]; exact Nat.succ_le_succ (depth_all xs fun x hx => (h x hx).2)⟩
theorem shp_tuple {n : Nat} {xs : List PyData} (h : ∀ x ∈ xs, Shp n x) : Shp (n + 1) (.tuple xs) :=
  ⟨by simp only [PyData.canLay0]; exact lay_all xs fun x hx => (h x hx).1, by simp only [PyData.depth]; exact Nat.succ_le_succ (depth_all xs fun x hx => (h x hx).2)⟩
theorem shp_nums (n : Nat) (ns : List Int) : Shp (n + 1) (.list (nums ns)) := shp_list fun x hx => by
  obtain ⟨i, _, rfl⟩ := List.mem_map.mp hx
  exact shp_int n i
theorem shp_rows (n : Nat) (o : List (List Int)) : Shp (n + 2) (.list (rows o)) := shp_list fun x hx => by
  obtain ⟨i, _, rfl⟩ := List.mem_map.mp hx
  exact shp_nums n i
theorem Shp.ok {n : Nat} {d : PyData} (h : Shp n d) (hn : n ≤ 64) : SeqAt.shaped d = true := by
  unfold SeqAt.shaped
  rw [h.1, decide_eq_true (Nat.le_trans h.2 hn)]; rfl
theorem pEq_self {n : Nat} {d : PyData} (h : Shp n d) (hn : n ≤ 64) : pEq d d = some (.fz (.bool true)) := by
  unfold pEq
  rw [h.ok hn, Bool.and_self, if_pos rfl, SeqAt.eqv_refl d h.1]
theorem pNe_self {n : Nat} {d : PyData} (h : Shp n d) (hn : n ≤ 64) : pNe d d = some (.fz (.bool false)) := by
  unfold pNe
  rw [h.ok hn, Bool.and_self, if_pos rfl, SeqAt.eqv_refl d h.1]; rfl
theorem pEq_rows (o : List (List Int)) : pEq (.list (rows o)) (.list (rows o)) = some (.fz (.bool true)) := pEq_self (shp_rows 0 o) (by decide)
theorem pNe_rows (o : List (List Int)) : pNe (.list (rows o)) (.list (rows o)) = some (.fz (.bool false)) := pNe_self (shp_rows 0 o) (by decide)
theorem pEq_nums (o : List Int) : pEq (.list (nums o)) (.list (nums o)) = some (.fz (.bool true)) := pEq_self (shp_nums 0 o) (by decide)
theorem pNe_nums (o : List Int) : pNe (.list (nums o)) (.list (nums o)) = some (.fz (.bool false)) := pNe_self (shp_nums 0 o) (by decide)
theorem pNe_int (a : Int) : pNe (.int a) (.int a) = some (.fz (.bool false)) := pNe_self (shp_int 0 a) (by decide)
@[simp] theorem e_pNeI {a b : Int} : pNe (.int a) (.int b) = some (.fz (.bool (!(a == b)))) := id rfl
/-! ### more of the functions -/
@[simp] theorem e_pMax {ns : List Int} : pMax [.list (nums ns)] = (maxOpt ns).map fun m => .fz (.int m) := by
  unfold pMax
  dsimp only
  rw [toInts_map]; rfl
@[simp] theorem e_isiL {xs : List PyData} : isTy "list" (.list xs) = true := by unfold isTy; rfl
@[simp] theorem e_isiI {n : Int} : isTy "int" (.int n) = true := by unfold isTy; rfl
@[simp] theorem e_isiB {n : Int} : isTy "bool" (.int n) = false := by unfold isTy; rfl
theorem enum_nums (hs : List Int) : enumD (nums hs) = (List.range hs.length).map fun (i : Nat) => PyData.tuple [.int (i : Int), .int (hs.getD i 0)] := by
  apply List.ext_getElem?
  intro i
  by_cases h : i < hs.length
  · rw [enumD_get (d := .int (hs.getD i 0)) (by simp [h]), List.getElem?_map, List.getElem?_range h]; rfl
  · rw [List.getElem?_eq_none (by rw [enumD_len]; simp; omega), List.getElem?_eq_none (by simp; omega)]
theorem cut_nums (s : List Int) (lo hi : Option Int) : ∃ t, cutD (nums s) lo hi = nums t ∧ t.length ≤ s.length := by
  unfold cutD
  rw [← List.map_drop, ← List.map_take]
  exact ⟨_, rfl, by simp; omega⟩
/-- a copy of all rows -/
theorem copy_rows {i : Nat} {Γ : En} (o : List (List Int)) (h : ∀ r, (dOf (callD pListOf (aCons (gSl i) aNil))) (setE i (.fz (rowD r)) Γ) = some (rowD r)) : lcD (gNm i) bYes (dOf (callD pListOf (aCons (gSl i) aNil))) Γ (rows o) = some (rows o) := by
  rw [lcD_rows (fun _ => true) rowD o (fun _ _ => rfl) (fun r _ _ => h r)]
  rw [List.filter_eq_self.mpr fun _ _ => rfl]
/-- the laws' own loop over cells: what is asked of each comes out true -/
theorem cells_spec (s : List Int) (hs : s.length ≤ 63) (k : Int) (g : PyData → En → Option En) : ∃ cs : List Int, (iLst (dOf (b2 pAdd (dOf (dLst (aCons (dOf (callD m_law_cell (aCons (gFz 0) (aCons (kC (.int 0)) aNil)))) aNil))) (dOf (dSl (gSl 0) (oInt (kC (.int 1))) (oInt (kC (.int k)))))))) [some (.fz (.list (nums s))), none] = some (nums cs) := by
  obtain ⟨c, hc⟩ := cell_spec s 0
  replace hc : m_law_cell [.list (nums s), .int 0] = some (.fz (.int c)) := hc
  obtain ⟨t, ht, hl⟩ := cut_nums s (some 1) (some k)
  generalize m_law_cell = mc at hc ⊢
  refine ⟨c :: t, ?_⟩
  have e1 : dSl (gSl 0) (oInt (kC (.int 1))) (oInt (kC (.int k))) [some (.fz (.list (nums s))), none] = some (.ow (nums t)) := by
    unfold dSl oInt
    simp [ht]
  simp [hc, e1, cap_eq]
  rw [if_pos (by omega)]
end
end Com

namespace Bd
open PySem L2
noncomputable section
section
variable {S : Sx}
/-! ### a op b op' c -/
def vChain (p q : PyData → PyData → Option Sl) (f g h : En → Option PyData) : En → Option Sl := fun Γ => (f Γ).bind fun x => (g Γ).bind fun y => match p x y with
  | some (.fz (.bool true)) => (h Γ).bind fun z => q y z
  | some (.fz (.bool false)) => some (.fz (.bool false))
  | _ => none
theorem chain_sem {op op' : CmpOp} {a b c : Expr} {p q fa fb fc} (ho : OpS S (compareOp op) p) (ho' : OpS S (compareOp op') q) (ha : SL S a fa) (hb : SL S b fb) (hc : SL S c fc) :
    ∃ (r r' : R2) (ta tb tc : TE), (∀ X, S.Ok X → OpR X (compareOp op) r) ∧ (∀ X, S.Ok X → OpR X (compareOp op') r') ∧ (∀ X, S.Ok X → PE X a ta) ∧ (∀ X, S.Ok X → PE X b tb) ∧ (∀ X, S.Ok X → PE X c tc) ∧
    ∀ Γ σ H0 F H Q s, EnR S.K H0 F H Γ σ → vChain p q fa fb fc Γ = some s → (∀ v F' H', Sub F H F' H' → SlN S.K H F' H' s v → Q v H') → tChain r r' ta tb tc σ H Q := by
  obtain ⟨r, o1, o2⟩ := ho
  obtain ⟨r', p1, p2⟩ := ho'
  obtain ⟨ta, a1, a2⟩ := ha
  obtain ⟨tb, b1, b2⟩ := hb
  obtain ⟨tc, c1, c2⟩ := hc
  refine ⟨r, r', ta, tb, tc, o1, p1, a1, b1, c1, fun Γ σ H0 F H Q s E hf k => ?_⟩
  unfold vChain at hf
  cases q1 : fa Γ with
  | none => rw [q1] at hf; cases hf
  | some x =>
    rw [q1] at hf
    cases q2 : fb Γ with
    | none => rw [q2] at hf; cases hf
    | some y =>
      rw [q2] at hf
      simp only [Option.bind_some] at hf
      refine a2 Γ σ H0 F H _ x E q1 fun v F1 H1 u1 l1 => ?_
      refine b2 Γ σ H0 F1 H1 _ y (E.mono u1) q2 fun v2 F2 H2 u2 l2 => ?_
      split at hf
      · next q3 =>
        refine o2 F2 H2 v v2 x y _ _ u2.fh (l1.mono u2) l2 q3 fun v3 F3 H3 u3 l3 => ⟨true, l3.bl, iteT ?_⟩
        cases q4 : fc Γ with
        | none => rw [q4] at hf; cases hf
        | some z =>
          rw [q4] at hf
          refine c2 Γ σ H0 F3 H3 _ z (E.mono ((u1.trans u2).trans u3)) q4 fun v4 F4 H4 u4 l4 => ?_
          exact p2 F4 H4 v2 v4 y z Q s u4.fh (l2.mono (u3.trans u4)) l4 hf fun v5 F5 H5 u5 l5 => k v5 F5 H5 ((((u1.trans u2).trans u3).trans u4).trans u5) (l5.weak (((u1.trans u2).trans u3).trans u4).h)
      · next q3 =>
        cases hf
        exact o2 F2 H2 v v2 x y _ _ u2.fh (l1.mono u2) l2 q3 fun v3 F3 H3 u3 l3 => ⟨false, l3.bl, iteF (k _ F3 H3 ((u1.trans u2).trans u3) (slN_bl _))⟩
      · cases hf
theorem se_chain {op op' : CmpOp} {a b c : Expr} {pos p q fa fb fc} (ho : OpS S (compareOp op) p) (ho' : OpS S (compareOp op') q) (ha : SL S a fa) (hb : SL S b fb) (hc : SL S c fc) (hm : lastMarks [op, op'] [b, c] = false := by with_unfolding_all rfl) : SE S (.Compare a [op, op'] [b, c] pos) (vChain p q fa fb fc) := by
  obtain ⟨r, r', ta, tb, tc, o1, p1, a1, b1, c1, h⟩ := chain_sem ho ho' ha hb hc
  exact ⟨_, fun X ok => pe_chain (o1 X ok) (p1 X ok) (a1 X ok) (b1 X ok) (c1 X ok) hm, h⟩
theorem st_chain {op op' : CmpOp} {a b c : Expr} {pos p q fa fb fc} (ho : OpS S (compareOp op) p) (ho' : OpS S (compareOp op') q) (ha : SL S a fa) (hb : SL S b fb) (hc : SL S c fc) (hm : lastMarks [op, op'] [b, c] = false := by with_unfolding_all rfl) : ST S (.Compare a [op, op'] [b, c] pos) (bOf (vChain p q fa fb fc)) := by
  obtain ⟨r, r', ta, tb, tc, o1, p1, a1, b1, c1, h⟩ := chain_sem ho ho' ha hb hc
  refine ⟨_, fun X ok => pt_chain (o1 X ok) (p1 X ok) (a1 X ok) (b1 X ok) (c1 X ok) hm, fun Γ σ H0 F H Q c E hf k => ?_⟩
  unfold bOf at hf
  split at hf
  · next b q =>
    cases hf
    refine h Γ σ H0 F H _ _ E q fun v F' H' u l => ?_
    cases l.1
    exact ⟨_, rfl, k F' H' u⟩
  · cases hf
/-! ### -x -/
def vNeg (f : En → Option PyData) : En → Option Sl := fun Γ => match f Γ with
  | some (.int i) => some (.fz (.int (-i)))
  | _ => none
theorem se_neg {e : Expr} {pos f} (h : SL S e f) : SE S (.UnaryOp .USub e pos) (vNeg f) := by
  obtain ⟨t, a1, a2⟩ := h
  refine ⟨_, fun X ok => pe_un un_neg (a1 X ok), fun Γ σ H0 F H Q s E hf k => ?_⟩
  unfold vNeg at hf
  split at hf
  · next i q =>
    cases hf
    exact a2 Γ σ H0 F H _ _ E q fun v F' H' u l => ⟨i, l.int, k _ F' H' u ⟨.int _, fun _ _ z => by cases z⟩⟩
  · cases hf
/-! ### xs[::-1] -/
def tRevS (K : PySem.W.Frag) (te : TE) : TE := fun σ H Q => te σ H fun x H1 => ∃ a xs, x = .ref a ∧ SqL K H1 a xs ∧ ∀ p, H1 p = none → Q (.ref p) (upd H1 p (.lst xs.reverse))
theorem pe_rev {X : Cx} {e : Expr} {te : TE} {j p1 p2 p3 pos} (he : PE X e te) : PE X (.Subscript e (.Slice none none (some (.UnaryOp .USub (.Constant (.int 1) j p1) p2)) p3) pos) (tRevS X.K te) := by
  intro pins s σ H Q I h
  refine PyProof.Rows.Subscript_ (thn (he pins s σ H _ I h) fun v s1 ⟨x, H1, I1, r1, q1⟩ => ?_)
  refine wpAny_Slice ?_
  rw [evalPart_none]
  refine wpAny_pure (wpAny_pure ?_)
  have hst : PO X (some (.UnaryOp .USub (.Constant (.int 1) j p1) p2)) (tPart (tUn (rU fun i => .int (-i)) (tC (.int 1)))) := po_some (pe_un un_neg pe_int)
  refine thn (hst pins s1 σ H1 (fun o H' => o = some (-1) ∧ H' = H1) I1 ⟨1, rfl, -1, rfl, rfl, rfl⟩) fun vs s2 ⟨o, H2, I2, ps, eo, eH⟩ => ?_
  subst eo eH
  obtain ⟨a, xs, rfl, hx, q⟩ := q1
  cases r1
  have I4 : Inv X pins σ H2 { s2 with heap := s2.heap.push { cls := .type "slice", data := .fields #[.none, .none, vs] } } := I2.kept (t' := s2.toks) fun b ob q => Heap.get?_push_of_some _ q
  obtain ⟨its, r, ht, hz⟩ := I4.list hx
  have hlen := r.length
  show wpAny (model X.prog X.w) X.A (PyProof.Rows.subscriptTail e _ (.ref a) (.ref s2.heap.objs.size)) (EP X pins σ Q) X.xe { s2 with heap := s2.heap.push { cls := .type "slice", data := .fields #[.none, .none, vs] } }
  refine PyProof.Rows.tail_any (ops := [.ref a, .ref s2.heap.objs.size]) ht.isList.typeIs PySem.slot_list_getitem.lookup ?_ (by with_unfolding_all rfl)
  refine PySem.wpAny_getItem_list_slice ht.isList (Heap.IsSliceOf.new ..) .none .none ps (by decide) ?_ (by rw [List.size_toArray] <;> omega)
  rw [PySem.W.krv_pick]
  refine ⟨.ref _, _, I4.laid (t' := s2.toks) (o := .lst xs.reverse) (fun b ob q => Heap.get?_push_of_some _ q) (Nat.le_refl _) ?_, rfl, q _ (I4.hok.fresh (Nat.le_refl _))⟩
  exact ⟨by rw [List.length_reverse]; exact hz, _, 0, r.reverse, Heap.get?_push_size _ rfl⟩
def vRev (f : En → Option PyData) : En → Option Sl := fun Γ => match f Γ with
  | some (.list xs) => some (.ow xs.reverse)
  | _ => none
theorem DpAll.reverse {K : PySem.W.Frag} {F : Hp} : ∀ {vs : List V} {ds : List PyData}, DpAll K F vs ds → DpAll K F vs.reverse ds.reverse
  | _, _, .nil => .nil
  | _, _, .cons h t => by rw [List.reverse_cons, List.reverse_cons]; exact (DpAll.reverse t).snoc h
theorem se_rev {e : Expr} {j p1 p2 p3 pos f} (h : SL S e f) : SE S (.Subscript e (.Slice none none (some (.UnaryOp .USub (.Constant (.int 1) j p1) p2)) p3) pos) (vRev f) := by
  obtain ⟨t, a1, a2⟩ := h
  refine ⟨tRevS S.K t, fun X ok => ok.K ▸ pe_rev (a1 X ok), fun Γ σ H0 F H Q s E hf k => ?_⟩
  unfold vRev at hf
  split at hf
  · next xs q =>
    cases hf
    refine a2 Γ σ H0 F H _ _ E q fun v F1 H1 u1 l1 => ?_
    obtain ⟨a, vs, rfl, q1, q2⟩ := l1.list u1.fh
    exact ⟨a, vs, rfl, q1, fun p hp => k _ F1 _ (u1.trans (.newO u1.fh hp)) ((SlN.lst u1.fh hp (DpAll.reverse q2)).weak u1.h)⟩
  · cases hf
/-! ### len(set(xs)) -/
def pLenSet : List PyData → Option Sl
  | [.list xs] => (toInts xs).bind fun ns => if ns.length < big 4000 then some (.fz (.int (uniq ns).length)) else none
  | _ => none
theorem se_lenSet {e : Expr} {p1 p2 pos1 pos2 : Pos} {g} (ha : SL S e g) (hm1 : S.mg "len" = none) (hm2 : S.mg "set" = none) (hg1 : glB S.sc "len" = true := by kernel_rfl) (hg2 : glB S.sc "set" = true := by kernel_rfl)
    (he : ∀ X : Cx, starEach [e] X.env = (false, eval e X.env) :: starEach [] X.env := by intro _; rfl) (hpl : ∀ X : Cx, (backTo pos1 (starEach [] X.env)).any (·.1) = false := by intro _; rfl) (hpl2 : ∀ X : Cx, (backTo pos2 (starEach [] X.env)).any (·.1) = false := by intro _; rfl) :
    SE S (.Call (.Name "len" p1) [.Call (.Name "set" p2) [e] [] pos2] [] pos1) (callD pLenSet (aCons g aNil)) := by
  obtain ⟨t, a1, a2⟩ := ha
  refine ⟨tCB (fun vs H Q => ∃ (a : Addr) (ks : List Int), vs = [V.ref a] ∧ H a = some (SetO S.w a ks) ∧ Q (.int ks.length) H)
    (tCons (tCB (fun vs H Q => ∃ (a : Addr) (ns : List Int), vs = [V.ref a] ∧ SqL S.K H a (ns.map V.int) ∧ ns.length < 4000 ∧ ∀ p, H p = none → Q (.ref p) (upd H p (SetO S.w p (uniq ns)))) (tCons t tNil)) tNil), fun X ok => ?_, fun Γ σ H0 F H Q s E hf k => ?_⟩
  · refine pe_callB (ok.w ▸ cr_lenSet) (ok.gl hg1) (by rw [ok.mg]; exact hm1) (by decide +kernel) (pa_cons ?_ pa_nil) (hpl := hpl X)
    exact pe_callTy (T := "set") (ok.w ▸ ok.K ▸ cr_set ok.calm) (ok.gl hg2) (by rw [ok.mg]; exact hm2) (by decide +kernel) (pa_cons (a1 X ok) pa_nil (he X)) (he := he X) (hpl := hpl2 X)
  · unfold callD aCons aNil at hf
    cases q : g Γ with
    | none => rw [q] at hf; cases hf
    | some d =>
      rw [q] at hf
      simp only [Option.bind_some, Option.map_some] at hf
      unfold pLenSet at hf
      split at hf
      · next xs e0 =>
        cases e0
        cases q2 : toInts xs with
        | none => rw [q2] at hf; cases hf
        | some ns =>
          rw [q2] at hf
          simp only [Option.bind_some] at hf
          split at hf
          · next hz =>
            cases hf
            refine a2 Γ σ H0 F H _ _ E q fun v F1 H1 u1 l1 => ?_
            obtain ⟨a, us, rfl, q3, q4⟩ := l1.list u1.fh
            rw [toInts_eq q2] at q4
            rw [q4.ints] at q3
            refine ⟨a, ns, rfl, q3, by have := hz; rw [big_eq] at this; exact this, fun p hp => ?_⟩
            have u2 : Sub F1 H1 F1 (upd H1 p (SetO S.w p (uniq ns))) := .newO u1.fh hp
            exact ⟨p, uniq ns, rfl, upd_same, k _ F1 _ (u1.trans u2) ⟨.int _, fun _ _ z => by cases z⟩⟩
          · cases hf
      · cases hf
/-! ### comprehensions of two clauses -/
def noOw (Γ : En) : Bool := Γ.all fun o => match o with
  | some (.ow _) => false
  | _ => true
theorem noOw_at {Γ : En} (h : noOw Γ = true) {i : Nat} {xs : List PyData} (e : Γ[i]? = some (some (.ow xs))) : False := by
  unfold noOw at h
  rw [List.all_eq_true] at h
  have := h _ (List.mem_of_getElem? e)
  cases this
theorem EnR.move {K : PySem.W.Frag} {H0 F H F' H' : Hp} {Γ : En} {σ : St} (E : EnR K H0 F H Γ σ) (n : noOw Γ = true) (h1 : Same F F') (h2 : Same F' H') : EnR K H0 F' H' Γ σ :=
  ⟨h2, fun i s h => by
    obtain ⟨v, e1, e2⟩ := E.sl i s h
    refine ⟨v, e1, ?_⟩
    cases s with
    | fz d => exact dp_mono h1 e2
    | ow xs => exact (noOw_at n h).elim, fun i xs a h _ => (noOw_at n h).elim, fun i j xs ys a h _ _ _ => (noOw_at n h).elim, E.ln⟩
def lcD2 (g : PyData → En → Option En) (c : En → Option Bool) (fi1 : En → Option (List PyData)) (g1 : PyData → En → Option En) (c1 : En → Option Bool) (fe : En → Option PyData) (vs1 : List Nat) (Γ : En) : List PyData → Option (List PyData)
  | [] => some []
  | x :: xs => (g x Γ).bind fun Γ1 => (c Γ1).bind fun b => if b = true then (if noOw Γ1 = true then (fi1 Γ1).bind fun ds1 => (lcD g1 c1 fe (wipeE Γ1 vs1) ds1).bind fun ys => (lcD2 g c fi1 g1 c1 fe vs1 Γ xs).map (ys ++ ·) else none) else lcD2 g c fi1 g1 c1 fe vs1 Γ xs
def vLc2 (fi : En → Option (List PyData)) (g : PyData → En → Option En) (c : En → Option Bool) (fi1 : En → Option (List PyData)) (g1 : PyData → En → Option En) (c1 : En → Option Bool) (fe : En → Option PyData) (vs vs1 : List Nat) : En → Option Sl := fun Γ =>
  (fi Γ).bind fun ds => (lcD2 g c fi1 g1 c1 fe vs1 (wipeE Γ vs) ds).bind fun out => if out.length < cap then some (.ow out) else none
theorem lc2_sem {scope : Scope} {vs vs1 js js1 : List Nat} {wi wi1 : TI} {t t1 : TG} {tt tt1 : TT} {te : TE} {fi g c fi1 g1 c1 fe}
    (hi : ∀ Γ σ H0 F H R ds, EnR S.K H0 F H Γ σ → fi Γ = some ds → (∀ J F' H', Sub F H F' H' → ItR S.K F' H' J ds → R J H') → wi σ H R)
    (hg : ∀ H0 F H Γ σ v d Γ' Q, EnR S.K H0 F H Γ σ → Dp S.K F v d → g d Γ = some Γ' → (∀ σ', Agr js σ σ' → EnR S.K H0 F H Γ' σ' → Q σ' H) → t v σ H Q)
    (hc : ∀ Γ σ H0 F H Q b, EnR S.K H0 F H Γ σ → c Γ = some b → (∀ F' H', Sub F H F' H' → Q b H') → tt σ H Q)
    (hi1 : ∀ Γ σ H0 F H R ds, EnR S.K H0 F H Γ σ → fi1 Γ = some ds → (∀ J F' H', Sub F H F' H' → ItR S.K F' F' J ds → R J H') → wi1 σ H R)
    (hg1 : ∀ H0 F H Γ σ v d Γ' Q, EnR S.K H0 F H Γ σ → Dp S.K F v d → g1 d Γ = some Γ' → (∀ σ', Agr js1 σ σ' → EnR S.K H0 F H Γ' σ' → Q σ' H) → t1 v σ H Q)
    (hc1 : ∀ Γ σ H0 F H Q b, EnR S.K H0 F H Γ σ → c1 Γ = some b → (∀ F' H', Sub F H F' H' → Q b H') → tt1 σ H Q)
    (he : ∀ Γ σ H0 F H Q d, EnR S.K H0 F H Γ σ → fe Γ = some d → (∀ v F' H', Sub F H F' H' → Dp S.K F' v d → Q v H') → te σ H Q) (hj : ∀ j ∈ js, j ∈ vs) (hj1 : ∀ j ∈ js1, j ∈ vs1) :
    ∀ Γ σ H0 F H Q s, EnR S.K H0 F H Γ σ → vLc2 fi g c fi1 g1 c1 fe vs vs1 Γ = some s → (∀ v F' H', Sub F H F' H' → SlN S.K H F' H' s v → Q v H') → tLc2 wi t tt wi1 t1 tt1 te vs vs1 σ H Q := by
  intro Γ σ H0 F H Q s E hf k
  unfold vLc2 at hf
  cases q : fi Γ with
  | none => rw [q] at hf; cases hf
  | some ds =>
    rw [q] at hf
    simp only [Option.bind_some] at hf
    cases q2 : lcD2 g c fi1 g1 c1 fe vs1 (wipeE Γ vs) ds with
    | none => rw [q2] at hf; cases hf
    | some out =>
      rw [q2] at hf
      simp only [Option.bind_some] at hf
      split at hf
      · next hz =>
        cases hf
        refine hi Γ σ H0 F H _ ds E q fun J F1 H1 u1 it D hD => ?_
        let St : Hp → List PyData → Prop := fun H2 ys => ∃ F2 acc, Same F1 F2 ∧ Same F2 H2 ∧ Same H1 H2 ∧ (∀ a o, H1 a = some o → F1 a = none → F2 a = none) ∧ F2 D = none ∧ H2 D = some (.lst acc) ∧ DpAll S.K F2 acc ys
        refine ⟨fun i m H2 => m = ds.length - i ∧ i ≤ ds.length ∧ ∃ ys rest, St H2 ys ∧ lcD2 g c fi1 g1 c1 fe vs1 (wipeE Γ vs) (ds.drop i) = some rest ∧ ys ++ rest = out, ⟨ds.length, by simp, Nat.zero_le _, [], out, ⟨F1, [], .refl _, u1.fh.trans (same_new hD), same_new hD, fun _ _ _ h => h, u1.fh.free hD, upd_same, .nil⟩, by simpa using q2, rfl⟩, ?_⟩
        rintro i m H2 ⟨rfl, hi', ys, rest, ⟨F2, acc, s1, s2, s3, own, fD, hacc, hda⟩, hr, hout⟩
        have u2 : Sub F H F2 H2 := ⟨u1.f.trans s1, u1.h.trans s3, s2, fun a o h1 h2 => own a o (u1.h a o h1) (u1.o a o h1 h2)⟩
        have E2 : EnR S.K H0 F2 H2 (wipeE Γ vs) (L2.wipe σ vs) := (E.wipe vs).mono u2
        obtain ⟨go, stop⟩ := it i F2 H2 s1 s2 s3
        by_cases hlt : i < ds.length
        · obtain ⟨go1, go2⟩ := go hlt
          refine .inr ⟨go1, fun H' => ∃ ys' rest', St H' ys' ∧ lcD2 g c fi1 g1 c1 fe vs1 (wipeE Γ vs) (ds.drop (i + 1)) = some rest' ∧ ys' ++ rest' = out, fun H' z => ⟨ds.length - (i + 1), by omega, rfl, hlt, z⟩, fun x H3 yl => ?_⟩
          obtain ⟨F3, d, hd, u3, hx⟩ := go2 x H3 yl
          have hdr : ds.drop i = d :: ds.drop (i + 1) := by
            obtain ⟨h1, h2⟩ := List.getElem?_eq_some_iff.mp hd
            rw [List.drop_eq_getElem_cons h1, h2]
          rw [hdr] at hr
          unfold lcD2 at hr
          cases r1 : g d (wipeE Γ vs) with
          | none => rw [r1] at hr; cases hr
          | some Γ1 =>
            rw [r1] at hr
            simp only [Option.bind_some] at hr
            cases r2 : c Γ1 with
            | none => rw [r2] at hr; cases hr
            | some b =>
              rw [r2] at hr
              simp only [Option.bind_some] at hr
              refine hg H0 F3 H3 _ _ x d Γ1 _ (E2.mono u3) hx r1 fun σ2 ag E3 => ⟨wipe_agr ag hj, ?_⟩
              refine hc Γ1 σ2 H0 F3 H3 _ b E3 r2 fun F4 H4 u4 => ?_
              have u34 := u3.trans u4
              have D4 : H4 D = some (.lst acc) := u34.h D _ hacc
              have fD4 : F4 D = none := u34.o D _ hacc fD
              cases b with
              | false =>
                rw [if_neg Bool.false_ne_true] at hr
                exact iteF ⟨ys, rest, ⟨F4, acc, s1.trans u34.f, u34.fh, s3.trans u34.h, fun a o h1 h2 => u34.o a o (s3 a o h1) (own a o h1 h2), fD4, D4, dpAll_mono u34.f hda⟩, hr, hout⟩
              | true =>
                rw [if_pos rfl] at hr
                split at hr
                · next hno =>
                  cases r3 : fi1 Γ1 with
                  | none => rw [r3] at hr; cases hr
                  | some ds1 =>
                    rw [r3] at hr
                    simp only [Option.bind_some] at hr
                    cases r4 : lcD g1 c1 fe (wipeE Γ1 vs1) ds1 with
                    | none => rw [r4] at hr; cases hr
                    | some zs =>
                      rw [r4] at hr
                      simp only [Option.bind_some] at hr
                      cases r5 : lcD2 g c fi1 g1 c1 fe vs1 (wipeE Γ vs) (ds.drop (i + 1)) with
                      | none => rw [r5] at hr; cases hr
                      | some rest' =>
                        rw [r5] at hr; cases hr
                        refine iteT (hi1 Γ1 σ2 H0 F4 H4 _ ds1 (E3.mono u4) r3 fun J1 F5 H5 u5 it1 => ?_)
                        have E5 : EnR S.K H0 F5 H5 Γ1 σ2 := (E3.mono u4).mono u5
                        have u35 := u34.trans u5
                        refine ⟨fun j k H' => k = ds1.length - j ∧ j ≤ ds1.length ∧ ∃ ys1 rest1 F6 acc1, Same F5 F6 ∧ Same F1 F6 ∧ Same F6 H' ∧ Same H1 H' ∧ (∀ a o, H1 a = some o → F1 a = none → F6 a = none) ∧ F6 D = none ∧ H' D = some (.lst acc1) ∧ DpAll S.K F6 acc1 ys1 ∧ lcD g1 c1 fe (wipeE Γ1 vs1) (ds1.drop j) = some rest1 ∧ ys1 ++ (rest1 ++ rest') = out,
                          ⟨ds1.length, by simp, Nat.zero_le _, ys, zs, F5, acc, .refl _, s1.trans u35.f, u35.fh, s3.trans u35.h, fun a o h1 h2 => u35.o a o (s3 a o h1) (own a o h1 h2), u35.o D _ hacc fD, u35.h D _ hacc, dpAll_mono u35.f hda, by simpa using r4, hout⟩, ?_⟩
                        rintro j k H' ⟨rfl, hj', ys1, rest1, F6, acc1, t5, t1, t2, t3, own1, fD1, hacc1, hda1, hr1, hout1⟩
                        obtain ⟨go3, stop3⟩ := it1 j F6 H' t5 t2 (t5.trans t2)
                        have E6 : EnR S.K H0 F6 H' (wipeE Γ1 vs1) (L2.wipe σ2 vs1) := (E5.move hno t5 t2).wipe vs1
                        by_cases hlt1 : j < ds1.length
                        · obtain ⟨go4, go5⟩ := go3 hlt1
                          refine .inr ⟨go4, fun H'' => ∃ ys1 rest1 F6 acc1, Same F5 F6 ∧ Same F1 F6 ∧ Same F6 H'' ∧ Same H1 H'' ∧ (∀ a o, H1 a = some o → F1 a = none → F6 a = none) ∧ F6 D = none ∧ H'' D = some (.lst acc1) ∧ DpAll S.K F6 acc1 ys1 ∧ lcD g1 c1 fe (wipeE Γ1 vs1) (ds1.drop (j + 1)) = some rest1 ∧ ys1 ++ (rest1 ++ rest') = out, fun H'' z => ⟨ds1.length - (j + 1), by omega, rfl, hlt1, z⟩, fun x1 H7 yl1 => ?_⟩
                          obtain ⟨F7, d1, hd1, u7, hx1⟩ := go5 x1 H7 yl1
                          have hdr1 : ds1.drop j = d1 :: ds1.drop (j + 1) := by
                            obtain ⟨h1, h2⟩ := List.getElem?_eq_some_iff.mp hd1
                            rw [List.drop_eq_getElem_cons h1, h2]
                          rw [hdr1] at hr1
                          unfold lcD at hr1
                          cases e1 : g1 d1 (wipeE Γ1 vs1) with
                          | none => rw [e1] at hr1; cases hr1
                          | some Γ2 =>
                            rw [e1] at hr1
                            simp only [Option.bind_some] at hr1
                            cases e2 : c1 Γ2 with
                            | none => rw [e2] at hr1; cases hr1
                            | some b1 =>
                              rw [e2] at hr1
                              simp only [Option.bind_some] at hr1
                              refine hg1 H0 F7 H7 _ _ x1 d1 Γ2 _ (E6.mono u7) hx1 e1 fun σ3 ag1 E8 => ⟨wipe_agr ag1 hj1, ?_⟩
                              refine hc1 Γ2 σ3 H0 F7 H7 _ b1 E8 e2 fun F8 H8 u8 => ?_
                              have u78 := u7.trans u8
                              have D8 : H8 D = some (.lst acc1) := u78.h D _ hacc1
                              have fD8 : F8 D = none := u78.o D _ hacc1 fD1
                              cases b1 with
                              | false =>
                                rw [if_neg Bool.false_ne_true] at hr1
                                exact iteF ⟨ys1, rest1, F8, acc1, t5.trans u78.f, t1.trans u78.f, u78.fh, t3.trans u78.h, fun a o h1 h2 => u78.o a o (t3 a o h1) (own1 a o h1 h2), fD8, D8, dpAll_mono u78.f hda1, hr1, hout1⟩
                              | true =>
                                rw [if_pos rfl] at hr1
                                cases e3 : fe Γ2 with
                                | none => rw [e3] at hr1; cases hr1
                                | some y =>
                                  rw [e3] at hr1
                                  simp only [Option.bind_some] at hr1
                                  cases e4 : lcD g1 c1 fe (wipeE Γ1 vs1) (ds1.drop (j + 1)) with
                                  | none => rw [e4] at hr1; cases hr1
                                  | some rest2 =>
                                    rw [e4] at hr1; cases hr1
                                    refine iteT (he Γ2 σ3 H0 F8 H8 _ y (E8.mono u8) e3 fun v F9 H9 u9 hv => ?_)
                                    have D9 : H9 D = some (.lst acc1) := u9.h D _ D8
                                    have fD9 : F9 D = none := u9.o D _ D8 fD8
                                    have hl1 := hda1.length
                                    have hl2 := congrArg List.length hout1
                                    simp only [List.length_append, List.length_cons] at hl2
                                    refine ⟨acc1, D9, cap_lt (by omega), ys1 ++ [y], rest2, F9, acc1 ++ [v], (t5.trans u78.f).trans u9.f, (t1.trans u78.f).trans u9.f, fun b o e => ?_, fun b o e => ?_, fun a o h1 h2 => u9.o a o (u78.h a o (t3 a o h1)) (u78.o a o (t3 a o h1) (own1 a o h1 h2)), fD9, upd_same, (dpAll_mono (u78.f.trans u9.f) hda1).snoc hv, rfl, by rw [← hout1]; simp⟩
                                    · rw [upd_ne (fun z => by rw [z, fD9] at e; cases e)]; exact u9.fh b o e
                                    · rw [upd_ne (ne_of_none e hD)]; exact u9.h b o (u78.h b o (t3 b o e))
                        · have e : j = ds1.length := by omega
                          subst e
                          rw [List.drop_length] at hr1
                          cases hr1
                          exact .inl ⟨stop3 (Nat.le_refl _), ys1, rest', ⟨F6, acc1, t1, t2, t3, own1, fD1, hacc1, hda1⟩, rfl, hout1⟩
                · cases hr
        · have e : i = ds.length := by omega
          subst e
          rw [List.drop_length] at hr
          cases hr
          rw [List.append_nil] at hout
          subst hout
          refine .inl ⟨stop (Nat.le_refl _), k _ F2 H2 u2 ⟨⟨D, acc, rfl, fD, hacc, hda⟩, fun _ a _ e => ?_⟩⟩
          cases e
          exact u1.h.free hD
      · cases hf
theorem se_lc2 {elt tg iter tg1 iter1 : Expr} {ifs ifs1 : List Expr} {scope : Scope} {pos : Pos} (own : List (Str × Nat)) (vs1 : List Nat) {js js1 : List Nat} {fi g c fi1 g1 c1 fe} (hi : SI S tg iter fi) (ok : blkC S.N S.sc scope own = true) (hg : SG (S.blk scope) tg js g) (hc : SC (S.blk scope) ifs c)
    (hi1 : SIV (S.blk scope) tg1 iter1 fi1) (hg1 : SG (S.blk scope) tg1 js1 g1) (hc1 : SC (S.blk scope) ifs1 c1) (he : SV (S.blk scope) elt fe) (hj : ∀ j ∈ js, j ∈ own.map (·.2)) (hj1 : ∀ j ∈ js1, j ∈ vs1) (hv : ∀ i ∈ vs1, i ∈ own.map (·.2))
    (hs : ∀ (X : Cx) x, foldedSetIterable iter X.env x = pure x := by intro _ _; rfl) (hs1 : ∀ env x, foldedSetIterable iter1 env x = pure x := by intro _ _; rfl) : SE S (.ListComp elt [⟨tg, iter, ifs, 0⟩, ⟨tg1, iter1, ifs1, 0⟩] scope pos) (vLc2 fi g c fi1 g1 c1 fe (own.map (·.2)) vs1) := by
  obtain ⟨wi, i1, i2⟩ := hi
  obtain ⟨t, g1', g2⟩ := hg
  obtain ⟨tt, c1', c2⟩ := hc
  obtain ⟨wi1, k1, k2⟩ := hi1
  obtain ⟨t1, h1, h2⟩ := hg1
  obtain ⟨tt1, d1, d2⟩ := hc1
  obtain ⟨te, e1, e2⟩ := he
  refine ⟨tLc2 wi t tt wi1 t1 tt1 te (own.map (·.2)) vs1, fun X okx => ?_, lc2_sem (scope := scope) i2 g2 c2 k2 h2 d2 e2 hj hj1⟩
  exact pe_lc2 okx.calm (by rw [okx.N]; exact okx.nd) (i1 X okx) (by rw [okx.N, okx.sc]; exact blkOk_by ok) hv (fun s H C cl fp => g1' _ (okx.blk s H scope C cl fp)) (fun s H C cl fp => c1' _ (okx.blk s H scope C cl fp)) (fun s H C cl fp => k1 _ (okx.blk s H scope C cl fp)) (fun s H C cl fp => h1 _ (okx.blk s H scope C cl fp)) (fun s H C cl fp => d1 _ (okx.blk s H scope C cl fp)) (fun s H C cl fp => e1 _ (okx.blk s H scope C cl fp)) (hs X) hs1
/-! ### raise: where it is reached nothing is told -/
def oNever : En → Option Out := fun _ => none
end
end
end Bd

namespace Com
open PySem L2 Bd
noncomputable section
section
variable {f g h : En → Option PyData} {Γ : En} {p q : PyData → PyData → Option Sl}
@[simp] theorem e_vChain : vChain p q f g h Γ = (f Γ).bind fun x => (g Γ).bind fun y => match p x y with
  | some (.fz (.bool true)) => (h Γ).bind fun z => q y z
  | some (.fz (.bool false)) => some (.fz (.bool false))
  | _ => none := id rfl
@[simp] theorem e_vNeg : vNeg f Γ = (match f Γ with | some (.int i) => some (.fz (.int (-i))) | _ => none) := id rfl
@[simp] theorem e_vRev : vRev f Γ = (match f Γ with | some (.list xs) => some (.ow xs.reverse) | _ => none) := id rfl
@[simp] theorem e_oInt : oInt f Γ = (match f Γ with | some (.int i) => some (some i) | _ => none) := id rfl
@[simp] theorem e_dSl {a b} : dSl f a b Γ = (match f Γ, a Γ, b Γ with | some (.list xs), some lo, some hi => some (.ow (cutD xs lo hi)) | _, _, _ => none) := id rfl
@[simp] theorem e_vNot {fs : En → Option Sl} : vNot fs Γ = (match fs Γ with | some (.fz (.bool b)) => some (.fz (.bool (!b))) | _ => none) := id rfl
@[simp] theorem e_vOr {fs gs : En → Option Sl} : vOr fs gs Γ = (match fs Γ with | some (.fz (.bool true)) => some (.fz (.bool true)) | some (.fz (.bool false)) => gs Γ | _ => none) := id rfl
@[simp] theorem e_vLc2 {fi u c fi1 u1 c1 fe vs vs1} : vLc2 fi u c fi1 u1 c1 fe vs vs1 Γ = (fi Γ).bind fun ds => (lcD2 u c fi1 u1 c1 fe vs1 (wipeE Γ vs) ds).bind fun out => if out.length < cap then some (.ow out) else none := id rfl
end
@[simp] theorem e_pNeB {a b : Bool} : pNe (.bool a) (.bool b) = some (.fz (.bool (!(a == b)))) := id rfl
@[simp] theorem e_pEqB {a b : Bool} : pEq (.bool a) (.bool b) = some (.fz (.bool (a == b))) := id rfl
theorem eqvAll_nums : ∀ (a b : List Int), PyData.eqvAll (nums a) (nums b) = decide (a = b)
  | [], [] => rfl
  | [], b :: bs => by simp [PyData.eqvAll]
  | a :: as, [] => by simp [PyData.eqvAll]
  | a :: as, b :: bs => by
    have ih := eqvAll_nums as bs
    simp only [nums, List.map_cons, PyData.eqvAll]
    rw [show PyData.eqvAll (as.map PyData.int) (bs.map PyData.int) = decide (as = bs) from ih]
    simp [PyData.eqv]
    by_cases h : a = b <;> by_cases h2 : as = bs <;> simp [h, h2]
theorem eqv_nums (a b : List Int) : PyData.eqv (.list (nums a)) (.list (nums b)) = decide (a = b) := by
  simp only [PyData.eqv]; exact eqvAll_nums a b
theorem eqvAll_rows : ∀ (a b : List (List Int)), PyData.eqvAll (rows a) (rows b) = decide (a = b)
  | [], [] => rfl
  | [], b :: bs => by simp [PyData.eqvAll]
  | a :: as, [] => by simp [PyData.eqvAll]
  | a :: as, b :: bs => by
    have ih := eqvAll_rows as bs
    simp only [rows, List.map_cons, PyData.eqvAll]
    rw [show PyData.eqvAll (as.map rowD) (bs.map rowD) = decide (as = bs) from ih]
    rw [show PyData.eqv (rowD a) (rowD b) = decide (a = b) from eqv_nums a b]
    by_cases h : a = b <;> by_cases h2 : as = bs <;> simp [h, h2]
theorem eqv_rows (a b : List (List Int)) : PyData.eqv (.list (rows a)) (.list (rows b)) = decide (a = b) := by
  simp only [PyData.eqv]; exact eqvAll_rows a b
theorem pEq_nn (a b : List Int) : pEq (.list (nums a)) (.list (nums b)) = some (.fz (.bool (decide (a = b)))) := by
  unfold pEq
  rw [if_pos (by rw [(shp_nums 0 a).ok (by decide), (shp_nums 0 b).ok (by decide)]; rfl), eqv_nums]
theorem pNe_nn (a b : List Int) : pNe (.list (nums a)) (.list (nums b)) = some (.fz (.bool (!decide (a = b)))) := by
  unfold pNe
  rw [if_pos (by rw [(shp_nums 0 a).ok (by decide), (shp_nums 0 b).ok (by decide)]; rfl), eqv_nums]
theorem pEq_rr (a b : List (List Int)) : pEq (.list (rows a)) (.list (rows b)) = some (.fz (.bool (decide (a = b)))) := by
  unfold pEq
  rw [if_pos (by rw [(shp_rows 0 a).ok (by decide), (shp_rows 0 b).ok (by decide)]; rfl), eqv_rows]
theorem pNe_rr (a b : List (List Int)) : pNe (.list (rows a)) (.list (rows b)) = some (.fz (.bool (!decide (a = b)))) := by
  unfold pNe
  rw [if_pos (by rw [(shp_rows 0 a).ok (by decide), (shp_rows 0 b).ok (by decide)]; rfl), eqv_rows]
theorem inV_nums (x : Int) : ∀ (r : List Int), inV (.int x) ((nums r).map vOf) = decide (x ∈ r)
  | [] => rfl
  | a :: r => by
    have ih := inV_nums x r
    show (eqV (.int a) (.int x) || inV (.int x) ((nums r).map vOf)) = _
    rw [ih]
    show ((a == x) || _) = _
    by_cases h : a = x
    · subst h; simp
    · simp [h, Ne.symm h]
theorem flat_nums (r : List Int) : (nums r).all flatD = true := by simp [flatD]
theorem pIn_nums (x : Int) (r : List Int) : pIn false (.int x) (.list (nums r)) = some (.fz (.bool (decide (x ∈ r)))) := by
  unfold pIn
  dsimp only
  rw [if_pos (by rw [flat_nums]; rfl)]
  rw [show inV (vOf (.int x)) ((nums r).map vOf) = decide (x ∈ r) from inV_nums x r]; rfl
theorem pNotIn_nums (x : Int) (r : List Int) : pIn true (.int x) (.list (nums r)) = some (.fz (.bool (!decide (x ∈ r)))) := by
  unfold pIn
  dsimp only
  rw [if_pos (by rw [flat_nums]; rfl)]
  rw [show inV (vOf (.int x)) ((nums r).map vOf) = decide (x ∈ r) from inV_nums x r]; rfl
theorem pAll_bls (l : List Bool) : pAll [.list (l.map PyData.bool)] = some (.fz (.bool (l.all id))) := by
  unfold pAll
  dsimp only
  rw [toBls_map]; rfl
theorem pAny_bls (l : List Bool) : pAny [.list (l.map PyData.bool)] = some (.fz (.bool (l.any id))) := by
  unfold pAny
  dsimp only
  rw [toBls_map]; rfl
theorem iR1_int {f : En → Option PyData} {Γ : En} {j : Int} (h : f Γ = some (.int j)) (h1 : -(2 ^ 60) ≤ j) (h2 : j < 2 ^ 60) : iR1 f Γ = some ((List.range j.toNat).map fun (k : Nat) => PyData.int (k : Int)) := by
  unfold iR1
  rw [h]
  dsimp only
  rw [big_eq, if_pos (by omega), rng_map]
theorem pSorted_nums {ns : List Int} (h : ns.length < 64) : pSorted [.list (nums ns)] = some (.ow (nums (sortI ns))) := by
  unfold pSorted
  dsimp only
  rw [toInts_map]
  dsimp only [Option.bind_some]
  rw [if_pos h]
theorem pLenSet_nums {ns : List Int} (h : ns.length < 4000) : pLenSet [.list (nums ns)] = some (.fz (.int (uniq ns).length)) := by
  unfold pLenSet
  dsimp only
  rw [toInts_map]
  dsimp only [Option.bind_some]
  rw [big_eq, if_pos h]
/-- a comprehension without tests -/
theorem lcD_map {α : Type} {gt : PyData → En → Option En} {fe : En → Option PyData} {Γ : En} (emb : α → PyData) (F : α → PyData) : ∀ (xs : List α), (∀ x ∈ xs, (gt (emb x) Γ).bind fe = some (F x)) → lcD gt bYes fe Γ (xs.map emb) = some (xs.map F)
  | [], _ => rfl
  | x :: xs, h => by
    have ih := lcD_map emb F xs fun y hy => h y (List.mem_cons_of_mem _ hy)
    have hx := h x List.mem_cons_self
    rw [List.map_cons, List.map_cons]
    unfold lcD
    cases q : gt (emb x) Γ with
    | none => rw [q] at hx; cases hx
    | some Γ1 =>
      rw [q, Option.bind_some] at hx
      rw [Option.bind_some, e_bYes, Option.bind_some, if_pos rfl, hx, Option.bind_some, ih]; rfl
/-- with a test -/
theorem lcD_filter {α : Type} {gt : PyData → En → Option En} {c : En → Option Bool} {fe : En → Option PyData} {Γ : En} (emb : α → PyData) (p : α → Bool) (F : α → PyData) : ∀ (xs : List α), (∀ x ∈ xs, (gt (emb x) Γ).bind c = some (p x)) → (∀ x ∈ xs, p x = true → (gt (emb x) Γ).bind fe = some (F x)) → lcD gt c fe Γ (xs.map emb) = some ((xs.filter p).map F)
  | [], _, _ => rfl
  | x :: xs, hc, h => by
    have ih := lcD_filter emb p F xs (fun y hy => hc y (List.mem_cons_of_mem _ hy)) fun y hy => h y (List.mem_cons_of_mem _ hy)
    have hx := h x List.mem_cons_self
    have hcx := hc x List.mem_cons_self
    rw [List.map_cons]
    unfold lcD
    cases q : gt (emb x) Γ with
    | none => rw [q] at hcx; cases hcx
    | some Γ1 =>
      rw [q, Option.bind_some] at hx hcx
      rw [Option.bind_some, hcx, Option.bind_some]
      by_cases hp : p x = true
      · rw [if_pos hp, hx hp, Option.bind_some, ih, List.filter_cons, if_pos hp]; rfl
      · rw [if_neg hp, ih, List.filter_cons, if_neg hp]
theorem lcD2_map {α : Type} {gt g1 : PyData → En → Option En} {fi1 : En → Option (List PyData)} {c1 : En → Option Bool} {fe : En → Option PyData} {vs1 : List Nat} {Γ : En} (emb : α → PyData) (F : α → List PyData) : ∀ (xs : List α), (∀ x ∈ xs, ∃ Γ1 ds1, gt (emb x) Γ = some Γ1 ∧ noOw Γ1 = true ∧ fi1 Γ1 = some ds1 ∧ lcD g1 c1 fe (wipeE Γ1 vs1) ds1 = some (F x)) → lcD2 gt bYes fi1 g1 c1 fe vs1 Γ (xs.map emb) = some (xs.flatMap F)
  | [], _ => rfl
  | x :: xs, h => by
    have ih := lcD2_map emb F xs fun y hy => h y (List.mem_cons_of_mem _ hy)
    obtain ⟨Γ1, ds1, h1, h2, h3, h4⟩ := h x List.mem_cons_self
    rw [List.map_cons, List.flatMap_cons]
    unfold lcD2
    rw [h1, Option.bind_some, e_bYes, Option.bind_some, if_pos rfl, if_pos h2, h3, Option.bind_some, h4, Option.bind_some, ih]; rfl
/-- a loop that ends where p is false -/
theorem forD_all {α γ : Type} {gt : PyData → En → Option En} {body : En → Option Out} (emb : α → PyData) (I : γ → En) (p : α → Bool) (s : Sl) :
    ∀ (xs : List α) (y : γ), (∀ y, ∀ x ∈ xs, (p x = true → ∃ y', (gt (emb x) (I y)).bind body = some (.nx (I y'))) ∧ (p x = false → (gt (emb x) (I y)).bind body = some (.rt s))) →
    (xs.all p = true → ∃ y', forD gt body (xs.map emb) (I y) = some (.nx (I y'))) ∧ (xs.all p = false → forD gt body (xs.map emb) (I y) = some (.rt s))
  | [], y, _ => ⟨fun _ => ⟨y, rfl⟩, fun h => by cases h⟩
  | x :: xs, y, h => by
    have hx := h y x List.mem_cons_self
    rw [List.map_cons, List.all_cons]
    unfold forD
    cases hp : p x with
    | true =>
      obtain ⟨y', e⟩ := hx.1 hp
      have ih := forD_all emb I p s xs y' fun y z hz => h y z (List.mem_cons_of_mem _ hz)
      cases q : gt (emb x) (I y) with
      | none => rw [q] at e; cases e
      | some Γ1 =>
        rw [q, Option.bind_some] at e
        rw [Option.bind_some, e, Bool.true_and]
        exact ih
    | false =>
      have e := hx.2 hp
      cases q : gt (emb x) (I y) with
      | none => rw [q] at e; cases e
      | some Γ1 =>
        rw [q, Option.bind_some] at e
        rw [Option.bind_some, e, Bool.false_and]
        exact ⟨fun z => Bool.noConfusion z, fun _ => rfl⟩
/-- r rises -/
def risB (r : List Int) : Bool := ((List.range (r.length - 1)).map fun (i : Nat) => decide (r.getD i 0 < r.getD (i + 1) 0)).all id
theorem risB_iff (r : List Int) : risB r = true ↔ r.Pairwise (· < ·) := by
  unfold risB
  rw [List.all_map, List.all_eq_true]
  constructor
  · intro h
    have step : ∀ i, i + 1 < r.length → r.getD i 0 < r.getD (i + 1) 0 := fun i hi => by
      have := h i (List.mem_range.mpr (by omega))
      simpa using this
    rw [List.pairwise_iff_getElem]
    intro i j hi hj hij
    have go : ∀ d, (hd : i + 1 + d < r.length) → r.getD i 0 < r.getD (i + 1 + d) 0 := fun d => by
      induction d with
      | zero => intro hd; exact step i hd
      | succ d ih => intro hd; have h1 := ih (by omega); have h2 := step (i + 1 + d) (by omega); exact Int.lt_trans h1 h2
    have := go (j - (i + 1)) (by omega)
    rw [show i + 1 + (j - (i + 1)) = j by omega] at this
    simpa [List.getD, hi, hj] using this
  · intro h i hi
    have hi := List.mem_range.mp hi
    rw [List.pairwise_iff_getElem] at h
    have := h i (i + 1) (by omega) (by omega) (by omega)
    simpa [List.getD, show i < r.length by omega, show i + 1 < r.length by omega] using this
theorem cut_take (xs : List PyData) (n : Nat) (h : n ≤ xs.length) : cutD xs none (some (n : Int)) = xs.take n := by
  unfold cutD HT.sIx
  simp
  rw [if_neg (by omega)]
  omega
end
end Com

namespace K07
open PySem L2 Bd Com
noncomputable section
section
variable {P : Program} {w : World} {K : PySem.W.Frag} {mg : Str → Option Value} {base : Heap}
def top (i : Nat) : Stmt := PySem.Challenge.pw_bandorder_k07_chains_and_crowds_judged.main.body.getD i (.Pass ⟨0, 0, 0, 0⟩)
abbrev s_is_whole : Stmt := top 1
theorem sc_is_whole : FnScope ["number"] ["number"] (defScope s_is_whole) := ⟨rfl, rfl, rfl, by decide +kernel, rfl, by decide +kernel, by decide +kernel⟩
/-! is_whole: 0 number -/
def g_is_whole : En → Option Out :=
  (oSeq (oRet (vAnd (vIsi "int" (gSl 0)) (vNot (vIsi "bool" (gSl 0)))))
  oNil)
def m_is_whole : List PyData → Option Sl := mirror 1 g_is_whole
theorem b_is_whole (hm_bool : mg "bool" = none) (hm_int : mg "int" = none) (hm_isinstance : mg "isinstance" = none)  : ∃ T, SSs (sxOf P w K mg base ["number"] (defScope s_is_whole) 0) (defBody s_is_whole) T g_is_whole := ⟨_,
  (ss_cons (ss_ret (se_and (se_isi (T := "int") (sl_var 0) hm_isinstance hm_int) (se_one (se_not (se_isi (T := "bool") (sl_var 0) hm_isinstance hm_bool)))))
  ss_nil)⟩
-- LEVEL is_whole 1 CALLS  BLT bool,int,isinstance PS number
abbrev s_are_things : Stmt := top 2
theorem sc_are_things : FnScope ["row", "many", "number"] ["row", "many"] (defScope s_are_things) := ⟨rfl, rfl, rfl, by decide +kernel, rfl, by decide +kernel, by decide +kernel⟩
/-! are_things: 0 row, 1 many, 2 number -/
def g_are_things : En → Option Out :=
  (oSeq (oRet (callD pAll (aCons (dOf (vLc (iLst (gSl 0)) (gNm 2) bYes (dOf (vAnd (callD m_is_whole (aCons (gFz 2) aNil)) (vChain pLe pLt (kC (.int 0)) (gSl 2) (gSl 1)))) [2])) aNil)))
  oNil)
def m_are_things : List PyData → Option Sl := mirror 3 g_are_things
theorem b_are_things (hm_all : mg "all" = none) (G_is_whole : FnD (sxOf P w K mg base ["row", "many", "number"] (defScope s_are_things) 1) "is_whole" ["number"] m_is_whole) : ∃ T, SSs (sxOf P w K mg base ["row", "many", "number"] (defScope s_are_things) 1) (defBody s_are_things) T g_are_things := ⟨_,
  (ss_cons (ss_ret (se_callB cs_all hm_all (sal_cons ((se_lc [("number", 2)] (si_list (sl_var 0)) (by kernel_rfl) (sg_name 2) sc_nil ((se_and (se_call (FnD.blk _ G_is_whole) (sav_cons (sv_var 2) sav_nil) (hz := (alen_cons alen_nil))) (se_one (se_chain os_le os_lt sv_int.l (sl_var 2) (sl_var 1))))).v (by decide))).l sal_nil)))
  ss_nil)⟩
-- LEVEL are_things 2 CALLS is_whole BLT all PS row,many
abbrev s_is_rising : Stmt := top 3
theorem sc_is_rising : FnScope ["row", "at"] ["row"] (defScope s_is_rising) := ⟨rfl, rfl, rfl, by decide +kernel, rfl, by decide +kernel, by decide +kernel⟩
/-! is_rising: 0 row, 1 at -/
def g_is_rising : En → Option Out :=
  (oSeq (oRet (callD pAll (aCons (dOf (vLc (iR1 (dOf (b2 pSub (dOf (callD pLen (aCons (gSl 0) aNil))) (kC (.int 1))))) (gNm 1) bYes (dOf (b2 pLt (dOf (b2 pIx (gSl 0) (gSl 1))) (dOf (b2 pIx (gSl 0) (dOf (b2 pAdd (gSl 1) (kC (.int 1)))))))) [1])) aNil)))
  oNil)
def m_is_rising : List PyData → Option Sl := mirror 2 g_is_rising
theorem b_is_rising (hm_all : mg "all" = none) (hm_len : mg "len" = none) (hm_range : mg "range" = none)  : ∃ T, SSs (sxOf P w K mg base ["row", "at"] (defScope s_is_rising) 0) (defBody s_is_rising) T g_is_rising := ⟨_,
  (ss_cons (ss_ret (se_callB cs_all hm_all (sal_cons ((se_lc [("at", 1)] (siv_range1 ((se_bin os_sub ((se_callB cs_len hm_len (sal_cons (sl_var 0) sal_nil))).l sv_int.l)).l hm_range).l (by kernel_rfl) (sg_name 1) sc_nil ((se_cmp os_lt ((se_ix (sl_var 0) (sl_var 1))).l ((se_ix (sl_var 0) ((se_bin os_add (sl_var 1) sv_int.l)).l)).l (nomark _))).v (by decide))).l sal_nil)))
  ss_nil)⟩
-- LEVEL is_rising 1 CALLS  BLT all,len,range PS row
abbrev s_is_rising_row : Stmt := top 5
theorem sc_is_rising_row : FnScope ["order", "row"] ["order", "row"] (defScope s_is_rising_row) := ⟨rfl, rfl, rfl, by decide +kernel, rfl, by decide +kernel, by decide +kernel⟩
/-! is_rising_row: 0 order, 1 row -/
def g_is_rising_row : En → Option Out :=
  (oSeq (oRet (vAnd (b2 pGt (dOf (callD pLen (aCons (gSl 1) aNil))) (kC (.int 0))) (vAnd (callD m_are_things (aCons (gFz 1) (aCons (dOf (callD pLen (aCons (gSl 0) aNil))) aNil))) (callD m_is_rising (aCons (gFz 1) aNil)))))
  oNil)
def m_is_rising_row : List PyData → Option Sl := mirror 2 g_is_rising_row
theorem b_is_rising_row (hm_len : mg "len" = none) (G_is_rising : FnD (sxOf P w K mg base ["order", "row"] (defScope s_is_rising_row) 2) "is_rising" ["row"] m_is_rising) (G_are_things : FnD (sxOf P w K mg base ["order", "row"] (defScope s_is_rising_row) 2) "are_things" ["row", "many"] m_are_things) : ∃ T, SSs (sxOf P w K mg base ["order", "row"] (defScope s_is_rising_row) 2) (defBody s_is_rising_row) T g_is_rising_row := ⟨_,
  (ss_cons (ss_ret (se_and (se_cmp os_gt ((se_callB cs_len hm_len (sal_cons (sl_var 1) sal_nil))).l sv_int.l (nomark _)) (se_and (se_call G_are_things (sav_cons (sv_var 1) (sav_cons ((se_callB cs_len hm_len (sal_cons (sl_var 0) sal_nil))).v sav_nil)) (hz := (alen_cons (alen_cons alen_nil)))) (se_one (se_call G_is_rising (sav_cons (sv_var 1) sav_nil) (hz := (alen_cons alen_nil)))))))
  ss_nil)⟩
-- LEVEL is_rising_row 3 CALLS is_rising,are_things BLT len PS order,row
abbrev s_is_chain : Stmt := top 6
theorem sc_is_chain : FnScope ["order", "row", "at", "high", "low"] ["order", "row"] (defScope s_is_chain) := ⟨rfl, rfl, rfl, by decide +kernel, rfl, by decide +kernel, by decide +kernel⟩
/-! is_chain: 0 order, 1 row, 2 at, 3 high, 4 low -/
def g_is_chain : En → Option Out :=
  (oSeq (oIf (bNot (bTru (dOf (callD m_is_rising_row (aCons (gFz 0) (aCons (gFz 1) aNil))))))
  (oSeq (oRet (fzOf (kC (.bool false))))
  oNil)
  oNil)
  (oSeq (oRet (callD pAll (aCons (dOf (vLc2 (iEnm (gSl 1)) (gTpl 2 (gsCons (gNm 2) (gsCons (gNm 3) gsNil))) bYes (iLst (dOf (dSl (gSl 1) (fun _ => some none) (oInt (gSl 2))))) (gNm 4) bYes (dOf (b2 (pIn false) (gSl 4) (dOf (b2 pIx (gSl 0) (gSl 3))))) [2, 3, 4] [4])) aNil)))
  oNil))
def m_is_chain : List PyData → Option Sl := mirror 5 g_is_chain
theorem b_is_chain (hm_all : mg "all" = none) (hm_enumerate : mg "enumerate" = none) (G_is_rising_row : FnD (sxOf P w K mg base ["order", "row", "at", "high", "low"] (defScope s_is_chain) 3) "is_rising_row" ["order", "row"] m_is_rising_row) : ∃ T, SSs (sxOf P w K mg base ["order", "row", "at", "high", "low"] (defScope s_is_chain) 3) (defBody s_is_chain) T g_is_chain := ⟨_,
  (ss_cons (ss_if (st_not (st_truth ((se_call G_is_rising_row (sav_cons (sv_var 0) (sav_cons (sv_var 1) sav_nil)) (hz := (alen_cons (alen_cons alen_nil))))).l))
  (ss_cons (ss_ret sv_bl.en)
  ss_nil)
  ss_nil)
  (ss_cons (ss_ret (se_callB cs_all hm_all (sal_cons ((se_lc2 [("at", 2), ("high", 3), ("low", 4)] [4] (si_enum (sl_var 1) hm_enumerate) (by kernel_rfl) (sg_tup (n := 2) (sgs_cons (sg_name 2) (sgs_cons (sg_name 3) sgs_nil))) sc_nil (siv_list ((se_slice (sl_var 1) so_none (so_some (sl_var 2)))).v) (sg_name 4) sc_nil ((se_cmp os_in (sl_var 4) ((se_ix (sl_var 0) (sl_var 3))).l (by rfl))).v (by decide) (by decide) (by decide))).l sal_nil)))
  ss_nil))⟩
-- LEVEL is_chain 4 CALLS is_rising_row BLT all,enumerate PS order,row
abbrev s_is_crowd : Stmt := top 7
theorem sc_is_crowd : FnScope ["order", "row", "at", "high", "low"] ["order", "row"] (defScope s_is_crowd) := ⟨rfl, rfl, rfl, by decide +kernel, rfl, by decide +kernel, by decide +kernel⟩
/-! is_crowd: 0 order, 1 row, 2 at, 3 high, 4 low -/
def g_is_crowd : En → Option Out :=
  (oSeq (oIf (bNot (bTru (dOf (callD m_is_rising_row (aCons (gFz 0) (aCons (gFz 1) aNil))))))
  (oSeq (oRet (fzOf (kC (.bool false))))
  oNil)
  oNil)
  (oSeq (oRet (vNot (callD pAny (aCons (dOf (vLc2 (iEnm (gSl 1)) (gTpl 2 (gsCons (gNm 2) (gsCons (gNm 3) gsNil))) bYes (iLst (dOf (dSl (gSl 1) (fun _ => some none) (oInt (gSl 2))))) (gNm 4) bYes (dOf (b2 (pIn false) (gSl 4) (dOf (b2 pIx (gSl 0) (gSl 3))))) [2, 3, 4] [4])) aNil))))
  oNil))
def m_is_crowd : List PyData → Option Sl := mirror 5 g_is_crowd
theorem b_is_crowd (hm_any : mg "any" = none) (hm_enumerate : mg "enumerate" = none) (G_is_rising_row : FnD (sxOf P w K mg base ["order", "row", "at", "high", "low"] (defScope s_is_crowd) 3) "is_rising_row" ["order", "row"] m_is_rising_row) : ∃ T, SSs (sxOf P w K mg base ["order", "row", "at", "high", "low"] (defScope s_is_crowd) 3) (defBody s_is_crowd) T g_is_crowd := ⟨_,
  (ss_cons (ss_if (st_not (st_truth ((se_call G_is_rising_row (sav_cons (sv_var 0) (sav_cons (sv_var 1) sav_nil)) (hz := (alen_cons (alen_cons alen_nil))))).l))
  (ss_cons (ss_ret sv_bl.en)
  ss_nil)
  ss_nil)
  (ss_cons (ss_ret (se_not (se_callB cs_any hm_any (sal_cons ((se_lc2 [("at", 2), ("high", 3), ("low", 4)] [4] (si_enum (sl_var 1) hm_enumerate) (by kernel_rfl) (sg_tup (n := 2) (sgs_cons (sg_name 2) (sgs_cons (sg_name 3) sgs_nil))) sc_nil (siv_list ((se_slice (sl_var 1) so_none (so_some (sl_var 2)))).v) (sg_name 4) sc_nil ((se_cmp os_in (sl_var 4) ((se_ix (sl_var 0) (sl_var 3))).l (by rfl))).v (by decide) (by decide) (by decide))).l sal_nil))))
  ss_nil))⟩
-- LEVEL is_crowd 4 CALLS is_rising_row BLT any,enumerate PS order,row
abbrev s_law_cell : Stmt := top 9
theorem sc_law_cell : FnScope ["_law_script", "_law_k"] ["_law_script", "_law_k"] (defScope s_law_cell) := ⟨rfl, rfl, rfl, by decide +kernel, rfl, by decide +kernel, by decide +kernel⟩
/-! law_cell: 0 _law_script, 1 _law_k -/
-- common: law_cell
theorem b_law_cell (hm_len : mg "len" = none)  : ∃ T, SSs (sxOf P w K mg base ["_law_script", "_law_k"] (defScope s_law_cell) 0) (defBody s_law_cell) T g_law_cell := ⟨_,
  (ss_cons (ss_if (st_cmp os_lt (sl_var 1) ((se_callB cs_len hm_len (sal_cons (sl_var 0) sal_nil))).l (nomark _))
  (ss_cons (ss_ret (se_ix (sl_var 0) (sl_var 1)))
  ss_nil)
  ss_nil)
  (ss_cons (ss_ret sv_int.en)
  ss_nil))⟩
-- LEVEL _law_cell 1 CALLS  BLT len PS _law_script,_law_k
abbrev s_law_digits : Stmt := top 10
theorem sc_law_digits : FnScope ["_law_cell_here", "_law_base", "_law_many", "_law_row_here", "_law_k"] ["_law_cell_here", "_law_base", "_law_many"] (defScope s_law_digits) := ⟨rfl, rfl, rfl, by decide +kernel, rfl, by decide +kernel, by decide +kernel⟩
/-! law_digits: 0 _law_cell_here, 1 _law_base, 2 _law_many, 3 _law_row_here, 4 _law_k -/
-- common: law_digits
theorem b_law_digits (hm_range : mg "range" = none)  : ∃ T, SSs (sxOf P w K mg base ["_law_cell_here", "_law_base", "_law_many", "_law_row_here", "_law_k"] (defScope s_law_digits) 0) (defBody s_law_digits) T g_law_digits := ⟨_,
  (ss_cons (ss_set 3 (se_lst sav_nil))
  (ss_cons (ss_for (siv_range1 (sl_var 2) hm_range) (sg_name 4) gk_name
  (ss_cons (ss_append 3 ((se_bin os_mod (sl_var 0) (sl_var 1))).v)
  (ss_cons (ss_set 0 (((se_bin os_div (sl_var 0) (sl_var 1))).v).en)
  ss_nil)))
  (ss_cons (ss_retv 3)
  ss_nil)))⟩
-- LEVEL _law_digits 1 CALLS  BLT range PS _law_cell_here,_law_base,_law_many
abbrev s_law_mixed : Stmt := top 11
theorem sc_law_mixed : FnScope ["_law_cell_here", "_law_base", "_law_many", "_law_row_here", "_law_k", "_law_one", "_law_two"] ["_law_cell_here", "_law_base", "_law_many"] (defScope s_law_mixed) := ⟨rfl, rfl, rfl, by decide +kernel, rfl, by decide +kernel, by decide +kernel⟩
/-! law_mixed: 0 _law_cell_here, 1 _law_base, 2 _law_many, 3 _law_row_here, 4 _law_k, 5 _law_one, 6 _law_two -/
-- common: law_mixed
theorem b_law_mixed (hm_range : mg "range" = none)  : ∃ T, SSs (sxOf P w K mg base ["_law_cell_here", "_law_base", "_law_many", "_law_row_here", "_law_k", "_law_one", "_law_two"] (defScope s_law_mixed) 0) (defBody s_law_mixed) T g_law_mixed := ⟨_,
  (ss_cons (ss_set 3 (se_lst sav_nil))
  (ss_cons (ss_for (siv_range1 (sl_var 2) hm_range) (sg_name 4) gk_name
  (ss_cons (ss_set 5 (((se_bin os_mod ((se_bin os_mul ((se_bin os_add ((se_bin os_add ((se_bin os_add ((se_bin os_mod (sl_var 0) sv_int.l)).l ((se_bin os_mul ((se_bin os_mul sv_int.l (sl_var 4))).l (sl_var 4))).l)).l ((se_bin os_mul sv_int.l (sl_var 4))).l)).l sv_int.l)).l sv_int.l)).l sv_int.l)).v).en)
  (ss_cons (ss_set 6 (((se_bin os_mod ((se_bin os_mul ((se_bin os_add ((se_bin os_add ((se_bin os_div (sl_var 5) sv_int.l)).l ((se_bin os_mul ((se_bin os_mod ((se_bin os_div (sl_var 0) sv_int.l)).l sv_int.l)).l sv_int.l)).l)).l (sl_var 4))).l sv_int.l)).l sv_int.l)).v).en)
  (ss_cons (ss_append 3 ((se_bin os_mod ((se_bin os_div (sl_var 6) sv_int.l)).l (sl_var 1))).v)
  ss_nil))))
  (ss_cons (ss_retv 3)
  ss_nil)))⟩
-- LEVEL _law_mixed 1 CALLS  BLT range PS _law_cell_here,_law_base,_law_many
abbrev s_law_row : Stmt := top 12
theorem sc_law_row : FnScope ["_law_cell_here", "_law_base", "_law_many"] ["_law_cell_here", "_law_base", "_law_many"] (defScope s_law_row) := ⟨rfl, rfl, rfl, by decide +kernel, rfl, by decide +kernel, by decide +kernel⟩
/-! law_row: 0 _law_cell_here, 1 _law_base, 2 _law_many -/
-- common: law_row
theorem b_law_row (hm_abs : mg "abs" = none) (G_law_mixed : FnD (sxOf P w K mg base ["_law_cell_here", "_law_base", "_law_many"] (defScope s_law_row) 1) "_law_mixed" ["_law_cell_here", "_law_base", "_law_many"] m_law_mixed) (G_law_digits : FnD (sxOf P w K mg base ["_law_cell_here", "_law_base", "_law_many"] (defScope s_law_row) 1) "_law_digits" ["_law_cell_here", "_law_base", "_law_many"] m_law_digits) : ∃ T, SSs (sxOf P w K mg base ["_law_cell_here", "_law_base", "_law_many"] (defScope s_law_row) 1) (defBody s_law_row) T g_law_row := ⟨_,
  (ss_cons (ss_if (st_cmp os_ge ((se_callB cs_abs hm_abs (sal_cons (sl_var 0) sal_nil))).l ((se_bin os_pow sv_int.l sv_int.l)).l (nomark _))
  (ss_cons (ss_ret (se_call G_law_digits (sav_cons (sv_var 0) (sav_cons (sv_var 1) (sav_cons (sv_var 2) sav_nil))) (hz := (alen_cons (alen_cons (alen_cons alen_nil))))))
  ss_nil)
  ss_nil)
  (ss_cons (ss_ret (se_call G_law_mixed (sav_cons (sv_var 0) (sav_cons (sv_var 1) (sav_cons (sv_var 2) sav_nil))) (hz := (alen_cons (alen_cons (alen_cons alen_nil))))))
  ss_nil))⟩
-- LEVEL _law_row 2 CALLS _law_mixed,_law_digits BLT abs PS _law_cell_here,_law_base,_law_many
abbrev s_law_closed : Stmt := top 13
theorem sc_law_closed : FnScope ["_law_many", "_law_digits_here", "_law_order_here", "_law_at", "_law_high", "_law_below", "_law_low"] ["_law_many", "_law_digits_here"] (defScope s_law_closed) := ⟨rfl, rfl, rfl, by decide +kernel, rfl, by decide +kernel, by decide +kernel⟩
/-! law_closed: 0 _law_many, 1 _law_digits_here, 2 _law_order_here, 3 _law_at, 4 _law_high, 5 _law_below, 6 _law_low -/
-- common: law_closed
theorem b_law_closed (hm_range : mg "range" = none) (hm_set : mg "set" = none) (hm_sorted : mg "sorted" = none)  : ∃ T, SSs (sxOf P w K mg base ["_law_many", "_law_digits_here", "_law_order_here", "_law_at", "_law_high", "_law_below", "_law_low"] (defScope s_law_closed) 0) (defBody s_law_closed) T g_law_closed := ⟨_,
  (ss_cons (ss_set 2 (se_lst sav_nil))
  (ss_cons (ss_set 3 (sv_int).en)
  (ss_cons (ss_for (siv_range1 (sl_var 0) hm_range) (sg_name 4) gk_name
  (ss_cons (ss_set 5 (se_lst sav_nil))
  (ss_cons (ss_for (siv_range1 (sl_var 4) hm_range) (sg_name 6) gk_name
  (ss_cons (ss_if (st_cmp os_eq ((se_ix (sl_var 1) (sl_var 3))).l sv_int.l (nomark _))
  (ss_cons (ss_append 5 (sv_var 6))
  (ss_cons (ss_extend 5 ((se_ix (sl_var 2) (sl_var 6))).v)
  ss_nil))
  ss_nil)
  (ss_cons (ss_set 3 (((se_bin os_add (sl_var 3) sv_int.l)).v).en)
  ss_nil)))
  (ss_cons (ss_append 2 ((se_sortedSet (sl_var 5) hm_sorted hm_set)).v)
  ss_nil))))
  (ss_cons (ss_retv 2)
  ss_nil))))⟩
-- LEVEL _law_closed 1 CALLS  BLT range,set,sorted PS _law_many,_law_digits_here
abbrev s_law_order : Stmt := top 14
theorem sc_law_order : FnScope ["_law_cell_here", "_law_many"] ["_law_cell_here"] (defScope s_law_order) := ⟨rfl, rfl, rfl, by decide +kernel, rfl, by decide +kernel, by decide +kernel⟩
/-! law_order: 0 _law_cell_here, 1 _law_many -/
-- common: law_order
theorem b_law_order  (G_law_closed : FnD (sxOf P w K mg base ["_law_cell_here", "_law_many"] (defScope s_law_order) 2) "_law_closed" ["_law_many", "_law_digits_here"] m_law_closed) (G_law_row : FnD (sxOf P w K mg base ["_law_cell_here", "_law_many"] (defScope s_law_order) 2) "_law_row" ["_law_cell_here", "_law_base", "_law_many"] m_law_row) : ∃ T, SSs (sxOf P w K mg base ["_law_cell_here", "_law_many"] (defScope s_law_order) 2) (defBody s_law_order) T g_law_order := ⟨_,
  (ss_cons (ss_set 1 (((se_bin os_mod (sl_var 0) sv_int.l)).v).en)
  (ss_cons (ss_if (st_cmp os_eq ((se_bin os_mod ((se_bin os_div (sl_var 0) sv_int.l)).l sv_int.l)).l sv_int.l (nomark _))
  (ss_cons (ss_set 1 (((se_bin os_mod ((se_bin os_div (sl_var 0) sv_int.l)).l sv_int.l)).v).en)
  ss_nil)
  ss_nil)
  (ss_cons (ss_ret (se_call G_law_closed (sav_cons (sv_var 1) (sav_cons ((se_call G_law_row (sav_cons ((se_bin os_div (sl_var 0) sv_int.l)).v (sav_cons ((se_bin os_add sv_int.l ((se_bin os_mod ((se_bin os_div (sl_var 0) sv_int.l)).l sv_int.l)).l)).v (sav_cons sv_int sav_nil))) (hz := (alen_cons (alen_cons (alen_cons alen_nil)))))).v sav_nil)) (hz := (alen_cons (alen_cons alen_nil)))))
  ss_nil)))⟩
-- LEVEL _law_order 3 CALLS _law_closed,_law_row BLT  PS _law_cell_here
abbrev s_law_list : Stmt := top 15
theorem sc_law_list : FnScope ["_law_order_here", "_law_cell_here", "_law_many", "_law_row_here", "_law_digit", "_law_kind", "_law_thing", "_law_low"] ["_law_order_here", "_law_cell_here"] (defScope s_law_list) := ⟨rfl, rfl, rfl, by decide +kernel, rfl, by decide +kernel, by decide +kernel⟩
/-! law_list: 0 _law_order_here, 1 _law_cell_here, 2 _law_many, 3 _law_row_here, 4 _law_digit, 5 _law_kind, 6 _law_thing, 7 _law_low -/
def g_law_list : En → Option Out :=
  (oSeq (oSet 2 (fzOf (dOf (callD pLen (aCons (gSl 0) aNil)))))
  (oSeq (oSet 3 (fzOf (dOf (vLc (iEnm (dOf (callD m_law_row (aCons (dOf (b2 pDiv (gSl 1) (kC (.int 40)))) (aCons (kC (.int 5)) (aCons (gFz 2) aNil)))))) (gTpl 2 (gsCons (gNm 6) (gsCons (gNm 4) gsNil))) (bOf (b2 pLe (gSl 4) (dOf (b2 pMod (gSl 1) (kC (.int 5)))))) (gFz 6) [6, 4]))))
  (oSeq (oSet 5 (fzOf (dOf (b2 pMod (dOf (b2 pDiv (gSl 1) (kC (.int 5)))) (kC (.int 8))))))
  (oSeq (oIf (bOf (b2 pEq (gSl 5) (kC (.int 1))))
  (oSeq (oSet 3 (fzOf (dOf (vRev (gSl 3)))))
  oNil)
  oNil)
  (oSeq (oIf (bOf (b2 pEq (gSl 5) (kC (.int 2))))
  (oSeq (oSet 3 (fzOf (dOf (b2 pAdd (gSl 3) (dOf (dSl (gSl 3) (fun _ => some none) (oInt (kC (.int 1)))))))))
  oNil)
  oNil)
  (oSeq (oIf (bOf (b2 pEq (gSl 5) (kC (.int 3))))
  (oSeq (oSet 3 (fzOf (dOf (b2 pAdd (gSl 3) (dOf (dLst (aCons (dOf (b2 pAdd (gSl 2) (dOf (b2 pMod (dOf (b2 pDiv (gSl 1) (kC (.int 40)))) (kC (.int 3)))))) aNil)))))))
  oNil)
  oNil)
  (oSeq (oIf (bOf (b2 pEq (gSl 5) (kC (.int 4))))
  (oSeq (oSet 3 (fzOf (dOf (b2 pAdd (dOf (dLst (aCons (dOf (b2 pSub (dOf (vNeg (kC (.int 1)))) (dOf (b2 pMod (dOf (b2 pDiv (gSl 1) (kC (.int 40)))) (kC (.int 3)))))) aNil))) (gSl 3)))))
  oNil)
  oNil)
  (oSeq (oIf (bAnd (bOf (b2 pEq (gSl 5) (kC (.int 5)))) (bOf (b2 pGt (gSl 2) (kC (.int 0)))))
  (oSeq (oSet 6 (fzOf (dOf (b2 pMod (dOf (b2 pDiv (gSl 1) (kC (.int 40)))) (gSl 2)))))
  (oSeq (oSet 3 (fzOf (dOf (b2 pAdd (dOf (dSl (dOf (vLc (iLst (dOf (b2 pIx (gSl 0) (gSl 6)))) (gNm 7) bYes (gFz 7) [7])) (fun _ => some none) (oInt (dOf (b2 pAdd (dOf (b2 pMod (dOf (b2 pDiv (gSl 1) (kC (.int 560)))) (kC (.int 3)))) (kC (.int 1))))))) (dOf (dLst (aCons (gFz 6) aNil)))))))
  oNil))
  oNil)
  (oSeq (oIf (bOf (b2 pEq (gSl 5) (kC (.int 6))))
  (oSeq (oSet 3 (fzOf (dOf (vLc (iLst (gSl 3)) (gNm 6) (bOf (b2 pLt (dOf (callD pLen (aCons (dOf (b2 pIx (gSl 0) (gSl 6))) aNil))) (kC (.int 2)))) (gFz 6) [6]))))
  oNil)
  oNil)
  (oSeq (oRetV 3)
  oNil))))))))))
def m_law_list : List PyData → Option Sl := mirror 8 g_law_list
theorem b_law_list (hm_enumerate : mg "enumerate" = none) (hm_len : mg "len" = none) (G_law_row : FnD (sxOf P w K mg base ["_law_order_here", "_law_cell_here", "_law_many", "_law_row_here", "_law_digit", "_law_kind", "_law_thing", "_law_low"] (defScope s_law_list) 2) "_law_row" ["_law_cell_here", "_law_base", "_law_many"] m_law_row) : ∃ T, SSs (sxOf P w K mg base ["_law_order_here", "_law_cell_here", "_law_many", "_law_row_here", "_law_digit", "_law_kind", "_law_thing", "_law_low"] (defScope s_law_list) 2) (defBody s_law_list) T g_law_list := ⟨_,
  (ss_cons (ss_set 2 (((se_callB cs_len hm_len (sal_cons (sl_var 0) sal_nil))).v).en)
  (ss_cons (ss_setLcV 3 [("_law_thing", 6), ("_law_digit", 4)] (si_enum ((se_call G_law_row (sav_cons ((se_bin os_div (sl_var 1) sv_int.l)).v (sav_cons sv_int (sav_cons (sv_var 2) sav_nil))) (hz := (alen_cons (alen_cons (alen_cons alen_nil)))))).l hm_enumerate) (by kernel_rfl) (sg_tup (n := 2) (sgs_cons (sg_name 6) (sgs_cons (sg_name 4) sgs_nil))) (sc_one (st_cmp os_le (sl_var 4) ((se_bin os_mod (sl_var 1) sv_int.l)).l (nomark _))) (sv_var 6) (by decide))
  (ss_cons (ss_set 5 (((se_bin os_mod ((se_bin os_div (sl_var 1) sv_int.l)).l sv_int.l)).v).en)
  (ss_cons (ss_if (st_cmp os_eq (sl_var 5) sv_int.l (nomark _))
  (ss_cons (ss_set 3 (((se_rev (sl_var 3))).v).en)
  ss_nil)
  ss_nil)
  (ss_cons (ss_if (st_cmp os_eq (sl_var 5) sv_int.l (nomark _))
  (ss_cons (ss_set 3 (((se_bin os_add (sl_var 3) ((se_slice (sl_var 3) so_none (so_some sv_int.l))).l)).v).en)
  ss_nil)
  ss_nil)
  (ss_cons (ss_if (st_cmp os_eq (sl_var 5) sv_int.l (nomark _))
  (ss_cons (ss_set 3 (((se_bin os_add (sl_var 3) ((se_lst (sav_cons ((se_bin os_add (sl_var 2) ((se_bin os_mod ((se_bin os_div (sl_var 1) sv_int.l)).l sv_int.l)).l)).v sav_nil))).l)).v).en)
  ss_nil)
  ss_nil)
  (ss_cons (ss_if (st_cmp os_eq (sl_var 5) sv_int.l (nomark _))
  (ss_cons (ss_set 3 (((se_bin os_add ((se_lst (sav_cons ((se_bin os_sub ((se_neg sv_int.l)).l ((se_bin os_mod ((se_bin os_div (sl_var 1) sv_int.l)).l sv_int.l)).l)).v sav_nil))).l (sl_var 3))).v).en)
  ss_nil)
  ss_nil)
  (ss_cons (ss_if (SW.t (sw_and (st_cmp os_eq (sl_var 5) sv_int.l (nomark _)) (sw_and1 (st_cmp os_gt (sl_var 2) sv_int.l (nomark _)))))
  (ss_cons (ss_set 6 (((se_bin os_mod ((se_bin os_div (sl_var 1) sv_int.l)).l (sl_var 2))).v).en)
  (ss_cons (ss_set 3 (((se_bin os_add ((se_slice ((se_lc [("_law_low", 7)] (si_list ((se_ix (sl_var 0) (sl_var 6))).l) (by kernel_rfl) (sg_name 7) sc_nil (sv_var 7) (by decide))).l so_none (so_some ((se_bin os_add ((se_bin os_mod ((se_bin os_div (sl_var 1) sv_int.l)).l sv_int.l)).l sv_int.l)).l))).l ((se_lst (sav_cons (sv_var 6) sav_nil))).l)).v).en)
  ss_nil))
  ss_nil)
  (ss_cons (ss_if (st_cmp os_eq (sl_var 5) sv_int.l (nomark _))
  (ss_cons (ss_setLcV 3 [("_law_thing", 6)] (si_list (sl_var 3)) (by kernel_rfl) (sg_name 6) (sc_one (st_cmp os_lt ((se_callB cs_len hm_len (sal_cons ((se_ix (sl_var 0) (sl_var 6))).l sal_nil))).l sv_int.l (nomark _))) (sv_var 6) (by decide))
  ss_nil)
  ss_nil)
  (ss_cons (ss_retv 3)
  ss_nil))))))))))⟩
-- LEVEL _law_list 3 CALLS _law_row BLT enumerate,len PS _law_order_here,_law_cell_here
abbrev s_law_all_so : Stmt := top 16
theorem sc_law_all_so : FnScope ["_law_order_here", "_law_row_here", "_law_chain", "_law_low", "_law_high"] ["_law_order_here", "_law_row_here", "_law_chain"] (defScope s_law_all_so) := ⟨rfl, rfl, rfl, by decide +kernel, rfl, by decide +kernel, by decide +kernel⟩
/-! law_all_so: 0 _law_order_here, 1 _law_row_here, 2 _law_chain, 3 _law_low, 4 _law_high -/
def g_law_all_so_b1 : En → Option Out :=
  (oSeq (oIf (bAnd (bOf (b2 pLt (gSl 3) (gSl 4))) (bOf (b2 pNe (dOf (b2 (pIn false) (gSl 3) (dOf (b2 pIx (gSl 0) (gSl 4))))) (gSl 2))))
  (oSeq (oRet (fzOf (kC (.bool false))))
  oNil)
  oNil)
  oNil)
def g_law_all_so_b2 : En → Option Out :=
  (oSeq (oFor (iLst (gFz 1)) (gNm 4)
  g_law_all_so_b1)
  oNil)
def g_law_all_so : En → Option Out :=
  (oSeq (oIf (bOr (bOf (b2 pEq (gSl 1) (dOf (dLst aNil)))) (bOr (bOf (b2 pNe (gSl 1) (dOf (callD pSorted (aCons (gSl 1) aNil))))) (bOr (bOf (b2 pLt (dOf (callD pLenSet (aCons (gSl 1) aNil))) (dOf (callD pLen (aCons (gSl 1) aNil))))) (bOr (bOf (b2 pLt (dOf (b2 pIx (gSl 1) (kC (.int 0)))) (kC (.int 0)))) (bOf (b2 pGe (dOf (b2 pIx (gSl 1) (dOf (vNeg (kC (.int 1)))))) (dOf (callD pLen (aCons (gSl 0) aNil)))))))))
  (oSeq (oRet (fzOf (kC (.bool false))))
  oNil)
  oNil)
  (oSeq (oFor (iLst (gFz 1)) (gNm 3)
  g_law_all_so_b2)
  (oSeq (oRet (fzOf (kC (.bool true))))
  oNil)))
def m_law_all_so : List PyData → Option Sl := mirror 5 g_law_all_so
theorem b_law_all_so (hm_len : mg "len" = none) (hm_set : mg "set" = none) (hm_sorted : mg "sorted" = none)  : ∃ T, SSs (sxOf P w K mg base ["_law_order_here", "_law_row_here", "_law_chain", "_law_low", "_law_high"] (defScope s_law_all_so) 0) (defBody s_law_all_so) T g_law_all_so := ⟨_,
  (ss_cons (ss_if (SW.t (sw_or (st_cmp os_eq (sl_var 1) ((se_lst sav_nil)).l (nomark _)) (sw_or (st_cmp os_ne (sl_var 1) ((se_callB cs_sorted hm_sorted (sal_cons (sl_var 1) sal_nil))).l (nomark _)) (sw_or (st_cmp os_lt ((se_lenSet (sl_var 1) hm_len hm_set)).l ((se_callB cs_len hm_len (sal_cons (sl_var 1) sal_nil))).l (nomark _)) (sw_or (st_cmp os_lt ((se_ix (sl_var 1) sv_int.l)).l sv_int.l (nomark _)) (sw_or1 (st_cmp os_ge ((se_ix (sl_var 1) ((se_neg sv_int.l)).l)).l ((se_callB cs_len hm_len (sal_cons (sl_var 0) sal_nil))).l (nomark _))))))))
  (ss_cons (ss_ret sv_bl.en)
  ss_nil)
  ss_nil)
  (ss_cons (ss_for (siv_list (sv_var 1)) (sg_name 3) gk_name
  (ss_cons (ss_for (siv_list (sv_var 1)) (sg_name 4) gk_name
  (ss_cons (ss_if (SW.t (sw_and (st_cmp os_lt (sl_var 3) (sl_var 4) (nomark _)) (sw_and1 (st_cmp os_ne ((se_cmp os_in (sl_var 3) ((se_ix (sl_var 0) (sl_var 4))).l (by rfl))).l (sl_var 2) (nomark _)))))
  (ss_cons (ss_ret sv_bl.en)
  ss_nil)
  ss_nil)
  ss_nil))
  ss_nil))
  (ss_cons (ss_ret sv_bl.en)
  ss_nil)))⟩
-- LEVEL _law_all_so 1 CALLS  BLT len,set,sorted PS _law_order_here,_law_row_here,_law_chain
abbrev s_law : Stmt := top 17
theorem sc_law : FnScope ["_law_script", "_law_order_here", "_law_rows", "_law_row_here", "_law_cell_here", "_law_some", "_law_kept", "_law_told"] ["_law_script"] (defScope s_law) := ⟨rfl, rfl, rfl, by decide +kernel, rfl, by decide +kernel, by decide +kernel⟩
/-! law: 0 _law_script, 1 _law_order_here, 2 _law_rows, 3 _law_row_here, 4 _law_cell_here, 5 _law_some, 6 _law_kept, 7 _law_told -/
def g_law_b1 : En → Option Out :=
  (oSeq (oSet 5 (fzOf (dOf (callD m_law_list (aCons (gFz 1) (aCons (gFz 4) aNil))))))
  (oSeq (oSet 6 (fzOf (dOf (callD pListOf (aCons (gSl 5) aNil)))))
  (oSeq (oSet 7 (fzOf (dOf (dLst (aCons (dOf (callD m_is_chain (aCons (gFz 2) (aCons (gFz 5) aNil)))) (aCons (dOf (callD m_is_crowd (aCons (gFz 2) (aCons (gFz 5) aNil)))) aNil))))))
  (oSeq (oIf (bOr (bNot (bTru (dOf (vIsi "bool" (dOf (b2 pIx (gSl 7) (kC (.int 0)))))))) (bOr (bNot (bTru (dOf (vIsi "bool" (dOf (b2 pIx (gSl 7) (kC (.int 1)))))))) (bOr (bOf (b2 pNe (gSl 5) (gSl 6))) (bOf (b2 pNe (gSl 2) (gSl 1))))))
  (oSeq (oRet (fzOf (kC (.bool false))))
  oNil)
  oNil)
  (oSeq (oIf (bOf (b2 pNe (gSl 7) (dOf (dLst (aCons (dOf (callD m_law_all_so (aCons (gFz 1) (aCons (gFz 6) (aCons (kC (.bool true)) aNil))))) (aCons (dOf (callD m_law_all_so (aCons (gFz 1) (aCons (gFz 6) (aCons (kC (.bool false)) aNil))))) aNil))))))
  (oSeq (oRet (fzOf (kC (.bool false))))
  oNil)
  oNil)
  oNil)))))
def g_law : En → Option Out :=
  (oSeq (oSet 1 (fzOf (dOf (callD m_law_order (aCons (dOf (callD m_law_cell (aCons (gFz 0) (aCons (kC (.int 0)) aNil)))) aNil)))))
  (oSeq (oSet 2 (fzOf (dOf (vLc (iLst (gSl 1)) (gNm 3) bYes (dOf (callD pListOf (aCons (gSl 3) aNil))) [3]))))
  (oSeq (oFor (iLst (dOf (b2 pAdd (dOf (dLst (aCons (dOf (callD m_law_cell (aCons (gFz 0) (aCons (kC (.int 1)) aNil)))) aNil))) (dOf (dSl (gSl 0) (oInt (kC (.int 2))) (oInt (kC (.int 11)))))))) (gNm 4)
  g_law_b1)
  (oSeq (oRet (fzOf (kC (.bool true))))
  oNil))))
def m_law : List PyData → Option Sl := mirror 8 g_law
theorem b_law (hm_bool : mg "bool" = none) (hm_isinstance : mg "isinstance" = none) (hm_list : mg "list" = none) (G_law_cell : FnD (sxOf P w K mg base ["_law_script", "_law_order_here", "_law_rows", "_law_row_here", "_law_cell_here", "_law_some", "_law_kept", "_law_told"] (defScope s_law) 4) "_law_cell" ["_law_script", "_law_k"] m_law_cell) (G_law_all_so : FnD (sxOf P w K mg base ["_law_script", "_law_order_here", "_law_rows", "_law_row_here", "_law_cell_here", "_law_some", "_law_kept", "_law_told"] (defScope s_law) 4) "_law_all_so" ["_law_order_here", "_law_row_here", "_law_chain"] m_law_all_so) (G_is_crowd : FnD (sxOf P w K mg base ["_law_script", "_law_order_here", "_law_rows", "_law_row_here", "_law_cell_here", "_law_some", "_law_kept", "_law_told"] (defScope s_law) 4) "is_crowd" ["order", "row"] m_is_crowd) (G_is_chain : FnD (sxOf P w K mg base ["_law_script", "_law_order_here", "_law_rows", "_law_row_here", "_law_cell_here", "_law_some", "_law_kept", "_law_told"] (defScope s_law) 4) "is_chain" ["order", "row"] m_is_chain) (G_law_list : FnD (sxOf P w K mg base ["_law_script", "_law_order_here", "_law_rows", "_law_row_here", "_law_cell_here", "_law_some", "_law_kept", "_law_told"] (defScope s_law) 4) "_law_list" ["_law_order_here", "_law_cell_here"] m_law_list) (G_law_order : FnD (sxOf P w K mg base ["_law_script", "_law_order_here", "_law_rows", "_law_row_here", "_law_cell_here", "_law_some", "_law_kept", "_law_told"] (defScope s_law) 4) "_law_order" ["_law_cell_here"] m_law_order) : ∃ T, SSs (sxOf P w K mg base ["_law_script", "_law_order_here", "_law_rows", "_law_row_here", "_law_cell_here", "_law_some", "_law_kept", "_law_told"] (defScope s_law) 4) (defBody s_law) T g_law := ⟨_,
  (ss_cons (ss_set 1 (((se_call G_law_order (sav_cons ((se_call G_law_cell (sav_cons (sv_var 0) (sav_cons sv_int sav_nil)) (hz := (alen_cons (alen_cons alen_nil))))).v sav_nil) (hz := (alen_cons alen_nil)))).v).en)
  (ss_cons (ss_setLcV 2 [("_law_row_here", 3)] (si_list (sl_var 1)) (by kernel_rfl) (sg_name 3) sc_nil ((se_callTy cs_list hm_list (sal_cons (sl_var 3) sal_nil))).v (by decide))
  (ss_cons (ss_for (siv_list ((se_bin os_add ((se_lst (sav_cons ((se_call G_law_cell (sav_cons (sv_var 0) (sav_cons sv_int sav_nil)) (hz := (alen_cons (alen_cons alen_nil))))).v sav_nil))).l ((se_slice (sl_var 0) (so_some sv_int.l) (so_some sv_int.l))).l)).v) (sg_name 4) gk_name
  (ss_cons (ss_set 5 (((se_call G_law_list (sav_cons (sv_var 1) (sav_cons (sv_var 4) sav_nil)) (hz := (alen_cons (alen_cons alen_nil))))).v).en)
  (ss_cons (ss_set 6 (((se_callTy cs_list hm_list (sal_cons (sl_var 5) sal_nil))).v).en)
  (ss_cons (ss_set 7 (((se_lst (sav_cons ((se_call G_is_chain (sav_cons (sv_var 2) (sav_cons (sv_var 5) sav_nil)) (hz := (alen_cons (alen_cons alen_nil))))).v (sav_cons ((se_call G_is_crowd (sav_cons (sv_var 2) (sav_cons (sv_var 5) sav_nil)) (hz := (alen_cons (alen_cons alen_nil))))).v sav_nil)))).v).en)
  (ss_cons (ss_if (SW.t (sw_or (st_not (st_truth ((se_isi (T := "bool") ((se_ix (sl_var 7) sv_int.l)).l hm_isinstance hm_bool)).l)) (sw_or (st_not (st_truth ((se_isi (T := "bool") ((se_ix (sl_var 7) sv_int.l)).l hm_isinstance hm_bool)).l)) (sw_or (st_cmp os_ne (sl_var 5) (sl_var 6) (nomark _)) (sw_or1 (st_cmp os_ne (sl_var 2) (sl_var 1) (nomark _)))))))
  (ss_cons (ss_ret sv_bl.en)
  ss_nil)
  ss_nil)
  (ss_cons (ss_if (st_cmp os_ne (sl_var 7) ((se_lst (sav_cons ((se_call G_law_all_so (sav_cons (sv_var 1) (sav_cons (sv_var 6) (sav_cons sv_bl sav_nil))) (hz := (alen_cons (alen_cons (alen_cons alen_nil)))))).v (sav_cons ((se_call G_law_all_so (sav_cons (sv_var 1) (sav_cons (sv_var 6) (sav_cons sv_bl sav_nil))) (hz := (alen_cons (alen_cons (alen_cons alen_nil)))))).v sav_nil)))).l (nomark _))
  (ss_cons (ss_ret sv_bl.en)
  ss_nil)
  ss_nil)
  ss_nil))))))
  (ss_cons (ss_ret sv_bl.en)
  ss_nil))))⟩
-- LEVEL law 5 CALLS _law_cell,_law_all_so,is_crowd,is_chain,_law_list,_law_order BLT bool,isinstance,list PS _law_script
end
end
end K07

namespace K07
open PySem L2 Bd Com
noncomputable section
theorem getD_at {α : Type} {l : List α} {k : Nat} {d : α} (h : k < l.length) : l[k]? = some (l.getD k d) := by simp [List.getD, h]
theorem whole_int (x : Int) : m_is_whole [.int x] = some (.fz (.bool true)) := by
  unfold m_is_whole mirror g_is_whole startE
  simp
def thB (n : Int) (r : List Int) : Bool := (r.map fun x => decide (0 ≤ x) && decide (x < n)).all id
theorem things_spec (r : List Int) (n : Int) (hr : r.length < 64) : m_are_things [.list (nums r), .int n] = some (.fz (.bool (thB n r))) := by
  have lc : lcD (gNm 2) bYes (dOf (vAnd (callD m_is_whole (aCons (gFz 2) aNil)) (vChain pLe pLt (kC (.int 0)) (gSl 2) (gSl 1)))) [some (.fz (.list (nums r))), some (.fz (.int n)), none] (nums r) = some ((r.map fun x => decide (0 ≤ x) && decide (x < n)).map PyData.bool) := by
    rw [List.map_map]
    refine lcD_map PyData.int _ r fun x _ => ?_
    have hw := whole_int x
    generalize m_is_whole = mw at hw ⊢
    by_cases h0 : 0 ≤ x <;> simp [hw, h0]
  unfold m_are_things mirror g_are_things startE
  have c1 : r.length < cap := by rw [cap_eq]; omega
  generalize m_is_whole = mw at lc ⊢
  simp [lc, c1]
  have := pAll_bls (r.map fun x => decide (0 ≤ x) && decide (x < n))
  rw [List.map_map] at this
  first
    | (rw [this]; rfl)
    | (simp only [Function.comp_def] at this ⊢; rw [this]; rfl)
theorem rising_spec (r : List Int) (hr : r.length < 64) : m_is_rising [.list (nums r)] = some (.fz (.bool (risB r))) := by
  have it : iR1 (dOf (b2 pSub (dOf (callD pLen (aCons (gSl 0) aNil))) (kC (.int 1)))) [some (.fz (.list (nums r))), none] = some ((List.range (r.length - 1)).map fun (k : Nat) => PyData.int (k : Int)) := by
    rw [iR1_int (j := (r.length : Int) - 1) (by simp) (by omega) (by omega)]
    rw [show ((r.length : Int) - 1).toNat = r.length - 1 by omega]
  have lc : lcD (gNm 1) bYes (dOf (b2 pLt (dOf (b2 pIx (gSl 0) (gSl 1))) (dOf (b2 pIx (gSl 0) (dOf (b2 pAdd (gSl 1) (kC (.int 1)))))))) [some (.fz (.list (nums r))), none] ((List.range (r.length - 1)).map fun (k : Nat) => PyData.int (k : Int)) = some (((List.range (r.length - 1)).map fun (i : Nat) => decide (r.getD i 0 < r.getD (i + 1) 0)).map PyData.bool) := by
    rw [List.map_map]
    refine lcD_map _ _ _ fun i hi => ?_
    have hi := List.mem_range.mp hi
    have a1 : atI (nums r) (i : Int) = some (.int (r.getD i 0)) := atI_ints (by omega) (by simp [show i < r.length by omega])
    have a2 : atI (nums r) ((i : Int) + 1) = some (.int (r.getD (i + 1) 0)) := atI_ints (by omega) (by rw [show ((i : Int) + 1).toNat = i + 1 by omega]; simp [show i + 1 < r.length by omega])
    simp only [e_gNm, e_setES, e_setE0, Option.bind_some, e_dOf, e_b2, e_gSlS, e_gSl0, e_fz, e_pIxL, a1, Option.map_some, e_kC, e_pAddI, a2, e_pI, if_true, Function.comp]
  have c1 : r.length - 1 < cap := by rw [cap_eq]; omega
  unfold m_is_rising mirror g_is_rising startE
  have pa := pAll_bls ((List.range (r.length - 1)).map fun (i : Nat) => decide (r.getD i 0 < r.getD (i + 1) 0))
  simp only [List.map_cons, List.map_nil, List.length_cons, List.length_nil, List.replicate, List.cons_append, List.nil_append, e_oSeq, e_oRet, e_callD, e_aCons, e_dOf, e_vLc, it, Option.bind_some, List.length_map, List.length_range, c1, if_true, e_wipeC, e_wipeN, List.set_cons_succ, List.set_cons_zero, lc, Option.map_some, e_ow, e_aNil, pa, Nat.add_sub_cancel, Nat.zero_add, Nat.reduceAdd, Nat.reduceSub]
  rfl
def goodB (n : Int) (r : List Int) : Bool := !r.isEmpty && (thB n r && risB r)
theorem row_ok (o : List (List Int)) (r : List Int) (hr : r.length < 64) : m_is_rising_row [.list (rows o), .list (nums r)] = some (.fz (.bool (goodB o.length r))) := by
  have h1 := things_spec r o.length hr
  have h2 := rising_spec r hr
  unfold m_is_rising_row mirror g_is_rising_row startE goodB
  generalize m_are_things = ma at h1 ⊢
  generalize m_is_rising = mr at h2 ⊢
  cases r with
  | nil => simp
  | cons a r =>
    have h3 : (0 : Int) < (r.length : Int) + 1 := by omega
    cases q : thB o.length (a :: r) <;> simp [h3, h1, h2, q] <;> simp_all
def prB (o : List (List Int)) (r : List Int) : List Bool := (List.range r.length).flatMap fun i => (r.take i).map fun low => decide (low ∈ o.getD (r.getD i 0).toNat [])
theorem pairs_lc (o : List (List Int)) (r : List Int) (hr : r.length < 64) (h : ∀ x ∈ r, 0 ≤ x ∧ x < (o.length : Int)) :
    dOf (vLc2 (iEnm (gSl 1)) (gTpl 2 (gsCons (gNm 2) (gsCons (gNm 3) gsNil))) bYes (iLst (dOf (dSl (gSl 1) (fun _ => some none) (oInt (gSl 2))))) (gNm 4) bYes (dOf (b2 (pIn false) (gSl 4) (dOf (b2 pIx (gSl 0) (gSl 3))))) [2, 3, 4] [4]) [some (.fz (.list (rows o))), some (.fz (.list (nums r))), none, none, none] = some (.list ((prB o r).map PyData.bool)) := by
  have l2 : lcD2 (gTpl 2 (gsCons (gNm 2) (gsCons (gNm 3) gsNil))) bYes (iLst (dOf (dSl (gSl 1) (fun _ => some none) (oInt (gSl 2))))) (gNm 4) bYes (dOf (b2 (pIn false) (gSl 4) (dOf (b2 pIx (gSl 0) (gSl 3))))) [4] [some (.fz (.list (rows o))), some (.fz (.list (nums r))), none, none, none] (enumD (nums r)) = some ((prB o r).map PyData.bool) := by
    rw [enum_nums]
    rw [lcD2_map _ (fun (i : Nat) => ((r.take i).map fun low => decide (low ∈ o.getD (r.getD i 0).toNat [])).map PyData.bool) _ fun i hi => ?_]
    · unfold prB; rw [List.map_flatMap]
    · have hi := List.mem_range.mp hi
      have hx := h (r.getD i 0) (by simp [List.getD, hi])
      have a1 : atI (rows o) (r.getD i 0) = some (rowD (o.getD (r.getD i 0).toNat [])) := atI_rows hx.1 (getD_at (by omega))
      refine ⟨[some (.fz (.list (rows o))), some (.fz (.list (nums r))), some (.fz (.int (i : Int))), some (.fz (.int (r.getD i 0))), none], nums (r.take i), by simp, by simp [noOw], ?_, ?_⟩
      · have := cut_take (nums r) i (by simp; omega)
        simp only [e_iLst, e_dOf, e_dSl, e_gSlS, e_gSl0, e_fz, e_oInt, this, Option.map_some, e_ow]
        exact congrArg some List.map_take.symm
      · rw [List.map_map]
        refine lcD_map PyData.int _ _ fun x _ => ?_
        simp only [e_wipeC, e_wipeN, List.set_cons_succ, List.set_cons_zero, e_gNm, e_setES, e_setE0, Option.bind_some, e_dOf, e_b2, e_gSlS, e_gSl0, e_fz, e_pIxL, a1, Option.map_some, pIn_nums, Function.comp]
  have c1 : (prB o r).length < cap := by
    have : (prB o r).length ≤ r.length * r.length := by
      unfold prB
      rw [List.length_flatMap]
      have : ∀ l : List Nat, (l.map fun i => ((r.take i).map fun low => decide (low ∈ o.getD (r.getD i 0).toNat [])).length).sum ≤ l.length * r.length := fun l => by
        induction l with
        | nil => simp
        | cons a l ih =>
          simp only [List.map_cons, List.sum_cons, List.length_cons, List.length_map, List.length_take] at ih ⊢
          rw [Nat.add_mul, Nat.one_mul]
          omega
      have h2 := this (List.range r.length)
      rw [List.length_range] at h2
      exact h2
    have h3 : r.length * r.length ≤ 64 * 64 := Nat.mul_le_mul (by omega) (by omega)
    rw [cap_eq]; omega
  simp only [e_dOf, e_vLc2, e_iEnm, e_gSlS, e_gSl0, e_fz, Option.bind_some, e_wipeC, e_wipeN, List.set_cons_succ, List.set_cons_zero, l2, List.length_map, c1, if_true, Option.map_some, e_ow]
theorem thB_iff (n : Int) (r : List Int) : thB n r = true ↔ ∀ x ∈ r, 0 ≤ x ∧ x < n := by
  unfold thB
  simp
theorem chain_spec (o : List (List Int)) (r : List Int) (hr : r.length < 64) : m_is_chain [.list (rows o), .list (nums r)] = some (.fz (.bool (goodB o.length r && (prB o r).all id))) ∧ m_is_crowd [.list (rows o), .list (nums r)] = some (.fz (.bool (goodB o.length r && !(prB o r).any id))) := by
  have h1 := row_ok o r hr
  unfold m_is_chain m_is_crowd mirror g_is_chain g_is_crowd startE
  generalize m_is_rising_row = mr at h1 ⊢
  cases q : goodB o.length r with
  | false =>
    rw [q] at h1
    constructor <;> simp [h1]
  | true =>
    rw [q] at h1
    have hth : thB o.length r = true := by
      unfold goodB at q
      simp only [Bool.and_eq_true] at q
      exact q.2.1
    have lc := pairs_lc o r hr ((thB_iff _ _).mp hth)
    have p1 := pAll_bls (prB o r)
    have p2 := pAny_bls (prB o r)
    constructor
    · simp only [List.map_cons, List.map_nil, List.length_cons, List.length_nil, List.replicate, List.cons_append, List.nil_append, e_oSeq, e_oIf, e_bNot, e_bTru, e_dOf, e_callD, e_aCons, e_gFz0, e_gFzS, e_aNil, Option.bind_some, Option.map_some, h1, e_fz, e_truB, Bool.not_true, e_oNil, e_oRet, Nat.reduceSub, Nat.zero_add, Nat.reduceAdd]
      rw [← e_dOf, lc]
      simp only [Option.bind_some, p1, Option.map_some, Bool.true_and]
    · simp only [List.map_cons, List.map_nil, List.length_cons, List.length_nil, List.replicate, List.cons_append, List.nil_append, e_oSeq, e_oIf, e_bNot, e_bTru, e_dOf, e_callD, e_aCons, e_gFz0, e_gFzS, e_aNil, Option.bind_some, Option.map_some, h1, e_fz, e_truB, Bool.not_true, e_oNil, e_oRet, e_vNot, Nat.reduceSub, Nat.zero_add, Nat.reduceAdd]
      rw [← e_dOf, lc]
      simp only [Option.bind_some, p2, Option.map_some, Bool.true_and]
/-! ### the law's own -/
theorem nodup_sub : ∀ (l m : List Int), l.Nodup → (∀ x ∈ l, x ∈ m) → l.length ≤ m.length
  | [], m, _, _ => Nat.zero_le _
  | a :: l, m, h, hs => by
    rw [List.nodup_cons] at h
    have ha := hs a List.mem_cons_self
    have ih := nodup_sub l (m.erase a) h.2 fun x hx => (List.mem_erase_of_ne (fun e : x = a => h.1 (e ▸ hx))).mpr (hs x (List.mem_cons_of_mem _ hx))
    rw [List.length_erase_of_mem ha] at ih
    have : 0 < m.length := List.length_pos_of_mem ha
    rw [List.length_cons]; omega
theorem nodup_len : ∀ (l m : List Int), m.Nodup → (∀ x ∈ m, x ∈ l) → l.length ≤ m.length → l.Nodup
  | [], m, _, _, _ => List.nodup_nil
  | a :: l, m, h, hs, hl => by
    have e1 : (m.erase a).Nodup := h.erase a
    have e2 : ∀ x ∈ m.erase a, x ∈ l := fun x hx => by
      have hx' := (List.Nodup.mem_erase_iff h).mp hx
      rcases List.mem_cons.mp (hs x hx'.2) with z | z
      · exact absurd z hx'.1
      · exact z
    have e3 : l.length ≤ (m.erase a).length := by
      rw [List.length_erase]
      rw [List.length_cons] at hl
      split <;> omega
    refine List.nodup_cons.mpr ⟨fun ha => ?_, nodup_len l _ e1 e2 e3⟩
    have := nodup_sub m l h fun x hx => by
      rcases List.mem_cons.mp (hs x hx) with z | z
      · rw [z]; exact ha
      · exact z
    rw [List.length_cons] at hl; omega
theorem uniq_iff (r : List Int) : ¬ (uniq r).length < r.length ↔ r.Nodup :=
  ⟨fun h => nodup_len r (uniq r) (uniq_nodup r) (fun x hx => mem_uniq.mp hx) (by omega), fun h => by have := nodup_sub r (uniq r) h fun x hx => mem_uniq.mpr hx; omega⟩
theorem sorted_iff (r : List Int) : r = sortI r ↔ r.Pairwise (· ≤ ·) := ⟨fun h => by rw [h]; exact sortI_sorted r, fun h => sortI_eq (List.Perm.refl r) h⟩
theorem lt_iff (r : List Int) : r.Pairwise (· < ·) ↔ r.Pairwise (· ≤ ·) ∧ r.Nodup := by
  constructor
  · intro h; exact ⟨h.imp fun h => Int.le_of_lt h, h.imp fun h e => by omega⟩
  · intro ⟨h1, h2⟩
    exact (h1.and h2).imp fun ⟨a, b⟩ => by omega
def soB (o : List (List Int)) (r : List Int) (b : Bool) : Bool := goodB o.length r && r.all fun low => r.all fun high => !(decide (low < high) && !(decide (low ∈ o.getD high.toNat []) == b))
theorem pEq_nil (r : List Int) : pEq (.list (nums r)) (.list []) = some (.fz (.bool (decide (r = [])))) := pEq_nn r []
theorem good_iff (n : Int) (r : List Int) : goodB n r = true ↔ r ≠ [] ∧ (∀ x ∈ r, 0 ≤ x ∧ x < n) ∧ r.Pairwise (· < ·) := by
  unfold goodB
  rw [Bool.and_eq_true, Bool.and_eq_true, thB_iff, risB_iff]
  simp
theorem so_inner (o : List (List Int)) (r : List Int) (b : Bool) (low : Int) (hin : ∀ x ∈ r, 0 ≤ x ∧ x < (o.length : Int)) (y : Option Sl) :
    ((r.all fun high => !(decide (low < high) && !(decide (low ∈ o.getD high.toNat []) == b))) = true → ∃ y', forD (gNm 4) g_law_all_so_b1 (nums r) [some (.fz (.list (rows o))), some (.fz (.list (nums r))), some (.fz (.bool b)), some (.fz (.int low)), y] = some (.nx [some (.fz (.list (rows o))), some (.fz (.list (nums r))), some (.fz (.bool b)), some (.fz (.int low)), y'])) ∧
    ((r.all fun high => !(decide (low < high) && !(decide (low ∈ o.getD high.toNat []) == b))) = false → forD (gNm 4) g_law_all_so_b1 (nums r) [some (.fz (.list (rows o))), some (.fz (.list (nums r))), some (.fz (.bool b)), some (.fz (.int low)), y] = some (.rt (.fz (.bool false)))) := by
  refine forD_all PyData.int (fun y => [some (.fz (.list (rows o))), some (.fz (.list (nums r))), some (.fz (.bool b)), some (.fz (.int low)), y]) (fun high => !(decide (low < high) && !(decide (low ∈ o.getD high.toNat []) == b))) _ r y fun y x hx => ?_
  have hx' := hin x hx
  have a1 : atI (rows o) x = some (rowD (o.getD x.toNat [])) := atI_rows hx'.1 (getD_at (by omega))
  have key : (gNm 4 (PyData.int x) [some (.fz (.list (rows o))), some (.fz (.list (nums r))), some (.fz (.bool b)), some (.fz (.int low)), y]).bind g_law_all_so_b1 = (if (decide (low < x) && !(decide (low ∈ o.getD x.toNat []) == b)) = true then some (.rt (.fz (.bool false))) else some (.nx [some (.fz (.list (rows o))), some (.fz (.list (nums r))), some (.fz (.bool b)), some (.fz (.int low)), some (.fz (.int x))])) := by
    unfold g_law_all_so_b1
    simp only [e_gNm, e_setES, e_setE0, Option.bind_some, e_oSeq, e_oIf, e_bAnd, e_bOf, e_b2, e_gSlS, e_gSl0, e_fz, e_pI, if_true, e_dOf, e_pIxL, a1, Option.map_some, pIn_nums, e_pNeB, e_oRet, e_fzOf, e_kC, e_oNil]
    by_cases q : low < x
    · cases q2 : (decide (low ∈ o.getD x.toNat []) == b) <;> simp [q, q2] <;> simp_all
    · simp [q]
  constructor
  · intro hp
    have hp : (decide (low < x) && !(decide (low ∈ o.getD x.toNat []) == b)) = false := by
      cases z : (decide (low < x) && !(decide (low ∈ o.getD x.toNat []) == b)) with
      | false => rfl
      | true => rw [z] at hp; cases hp
    exact ⟨_, by rw [key, hp]; rfl⟩
  · intro hp
    have hp : (decide (low < x) && !(decide (low ∈ o.getD x.toNat []) == b)) = true := by
      cases z : (decide (low < x) && !(decide (low ∈ o.getD x.toNat []) == b)) with
      | true => rfl
      | false => rw [z] at hp; cases hp
    rw [key, hp]; rfl
theorem so_outer (o : List (List Int)) (r : List Int) (b : Bool) (hin : ∀ x ∈ r, 0 ≤ x ∧ x < (o.length : Int)) (y : Option Sl × Option Sl) :
    ((r.all fun low => r.all fun high => !(decide (low < high) && !(decide (low ∈ o.getD high.toNat []) == b))) = true → ∃ y' : Option Sl × Option Sl, forD (gNm 3) g_law_all_so_b2 (nums r) [some (.fz (.list (rows o))), some (.fz (.list (nums r))), some (.fz (.bool b)), y.1, y.2] = some (.nx [some (.fz (.list (rows o))), some (.fz (.list (nums r))), some (.fz (.bool b)), y'.1, y'.2])) ∧
    ((r.all fun low => r.all fun high => !(decide (low < high) && !(decide (low ∈ o.getD high.toNat []) == b))) = false → forD (gNm 3) g_law_all_so_b2 (nums r) [some (.fz (.list (rows o))), some (.fz (.list (nums r))), some (.fz (.bool b)), y.1, y.2] = some (.rt (.fz (.bool false)))) := by
  refine forD_all PyData.int (fun y : Option Sl × Option Sl => [some (.fz (.list (rows o))), some (.fz (.list (nums r))), some (.fz (.bool b)), y.1, y.2]) (fun low => r.all fun high => !(decide (low < high) && !(decide (low ∈ o.getD high.toNat []) == b))) _ r y fun y x hx => ?_
  obtain ⟨h1, h2⟩ := so_inner o r b x hin y.2
  unfold g_law_all_so_b2
  constructor
  · intro hp
    obtain ⟨y', e⟩ := h1 hp
    exact ⟨(some (.fz (.int x)), y'), by simp only [e_gNm, e_setES, e_setE0, Option.bind_some, e_oSeq, e_oFor, e_iLst, e_gFzS, e_gFz0, e, e_oNil]⟩
  · intro hp
    have e := h2 hp
    simp only [e_gNm, e_setES, e_setE0, Option.bind_some, e_oSeq, e_oFor, e_iLst, e_gFzS, e_gFz0, e, e_oNil]
theorem so_spec (o : List (List Int)) (r : List Int) (b : Bool) (hr : r.length < 64) : m_law_all_so [.list (rows o), .list (nums r), .bool b] = some (.fz (.bool (soB o r b))) := by
  unfold m_law_all_so mirror g_law_all_so startE
  have ps := pSorted_nums hr
  have pl := pLenSet_nums (ns := r) (by omega)
  have pn := pNe_nn r (sortI r)
  have pe := pEq_nil r
  have c0 : 0 ≤ cap := Nat.zero_le _
  by_cases h0 : r = []
  · subst h0
    simp only [nums, List.map_nil] at pe
    simp [pe, soB, goodB]
  · have nz : 0 < r.length := List.length_pos_iff.mpr h0
    have a1 : atI (nums r) 0 = some (.int (r.getD 0 0)) := atI_ints (by omega) (getD_at nz)
    have a2 : atI (nums r) (-1) = some (.int (r.getD (r.length - 1) 0)) := by
      unfold atI ixN
      rw [if_neg (by omega), List.length_map, if_pos (by omega), Option.bind_some, List.getElem?_map]
      rw [show ((-1 : Int) + (r.length : Int)).toNat = r.length - 1 by omega, getD_at (d := 0) (show r.length - 1 < r.length by omega)]; rfl
    by_cases h1 : r = sortI r
    · by_cases h2 : (uniq r).length < r.length
      · have ng : goodB o.length r = false := by
          rw [Bool.eq_false_iff, ne_eq, good_iff]
          rintro ⟨_, _, hl⟩
          exact (uniq_iff r).mpr ((lt_iff r).mp hl).2 h2
        have h2' : ((uniq r).length : Int) < (r.length : Int) := by omega
        rw [← h1] at pn
        simp [pe, h0, ps, ← h1, pn, pl, h2', soB, ng, c0]
      · have hlt : r.Pairwise (· < ·) := (lt_iff r).mpr ⟨(sorted_iff r).mp h1, (uniq_iff r).mp h2⟩
        have h2' : ¬ ((uniq r).length : Int) < (r.length : Int) := by omega
        rw [← h1] at pn
        by_cases h3 : r.getD 0 0 < 0
        · have ng : goodB o.length r = false := by
            rw [Bool.eq_false_iff, ne_eq, good_iff]
            rintro ⟨_, hx, _⟩
            have := hx (r.getD 0 0) (List.mem_of_getElem? (getD_at (d := 0) nz))
            omega
          simp only [List.map_cons, List.map_nil, List.length_cons, List.length_nil, List.replicate, List.cons_append, List.nil_append, e_oSeq, e_oIf, e_bOr, e_bOf, e_b2, e_gSlS, e_gSl0, e_fz, e_dOf, e_dLst, e_aNil, Option.bind_some, c0, if_true, Option.map_some, e_ow, pe, h0, e_callD, e_aCons, ps, ← h1, pn, pl, e_pLenL, List.length_map, e_pI, h2', e_kC, e_pIxL, a1, h3, e_oRet, e_fzOf, decide_true, decide_false, Bool.not_true, Bool.not_false, soB, ng, Bool.false_and, Nat.reduceSub, Nat.zero_add, Nat.reduceAdd]
        · by_cases h4 : (o.length : Int) ≤ r.getD (r.length - 1) 0
          · have ng : goodB o.length r = false := by
              rw [Bool.eq_false_iff, ne_eq, good_iff]
              rintro ⟨_, hx, _⟩
              have := hx (r.getD (r.length - 1) 0) (List.mem_of_getElem? (getD_at (d := 0) (by omega)))
              omega
            simp only [List.map_cons, List.map_nil, List.length_cons, List.length_nil, List.replicate, List.cons_append, List.nil_append, e_oSeq, e_oIf, e_bOr, e_bOf, e_b2, e_gSlS, e_gSl0, e_fz, e_dOf, e_dLst, e_aNil, Option.bind_some, c0, if_true, Option.map_some, e_ow, pe, h0, e_callD, e_aCons, ps, ← h1, pn, pl, e_pLenL, List.length_map, e_pI, h2', e_kC, e_pIxL, a1, h3, e_vNeg, a2, h4, e_oRet, e_fzOf, decide_true, decide_false, Bool.not_true, Bool.not_false, soB, ng, Bool.false_and, Nat.reduceSub, Nat.zero_add, Nat.reduceAdd]
          · have hin : ∀ x ∈ r, 0 ≤ x ∧ x < (o.length : Int) := fun x hx => by
              obtain ⟨i, hi, rfl⟩ := List.mem_iff_getElem.mp hx
              have hle := (sorted_iff r).mp h1
              rw [List.pairwise_iff_getElem] at hle
              have e0 : r.getD 0 0 = r[0] := by simp [List.getD, nz]
              have e1 : r.getD (r.length - 1) 0 = r[r.length - 1] := by simp [List.getD, show r.length - 1 < r.length by omega]
              have b0 : r[0] ≤ r[i] := by
                by_cases z : i = 0
                · subst z; exact Int.le_refl _
                · exact hle 0 i nz hi (by omega)
              have b1 : r[i] ≤ r[r.length - 1] := by
                by_cases z : i = r.length - 1
                · subst z; exact Int.le_refl _
                · exact hle i (r.length - 1) hi (by omega) (by omega)
              omega
            have yg : goodB o.length r = true := (good_iff _ _).mpr ⟨h0, hin, hlt⟩
            have hO := so_outer o r b hin (none, none)
            simp only [List.map_cons, List.map_nil, List.length_cons, List.length_nil, List.replicate, List.cons_append, List.nil_append, e_oSeq, e_oIf, e_bOr, e_bOf, e_b2, e_gSlS, e_gSl0, e_fz, e_dOf, e_dLst, e_aNil, Option.bind_some, c0, if_true, Option.map_some, e_ow, pe, h0, e_callD, e_aCons, ps, ← h1, pn, pl, e_pLenL, List.length_map, e_pI, h2', e_kC, e_pIxL, a1, h3, e_vNeg, a2, h4, e_oRet, e_fzOf, decide_true, decide_false, Bool.not_true, Bool.not_false, e_oNil, e_oFor, e_iLst, e_gFzS, e_gFz0, soB, yg, Bool.true_and, Nat.reduceSub, Nat.zero_add, Nat.reduceAdd]
            cases q : (r.all fun low => r.all fun high => !(decide (low < high) && !(decide (low ∈ o.getD high.toNat []) == b))) with
            | true => obtain ⟨y', e⟩ := hO.1 q; rw [e]
            | false => rw [hO.2 q]
    · have ng : goodB o.length r = false := by
        rw [Bool.eq_false_iff, ne_eq, good_iff]
        rintro ⟨_, _, hl⟩
        exact h1 ((sorted_iff r).mpr ((lt_iff r).mp hl).1)
      simp [pe, h0, ps, pn, h1, soB, ng, c0]
/-! ### the list that is drawn -/
theorem list_spec {o : List (List Int)} (ho : IsOrd o) (hl : o.length ≤ 14) (c : Int) : ∃ r, m_law_list [.list (rows o), .int c] = some (.fz (.list (nums r))) ∧ r.length < 64 := by
  obtain ⟨ds, hd, hdl, hdw⟩ := row_spec (c / 40) 5 o.length (by decide) (by decide) (by omega)
  have lc1 : ∀ y5 : Option Sl, lcD (gTpl 2 (gsCons (gNm 6) (gsCons (gNm 4) gsNil))) (bOf (b2 pLe (gSl 4) (dOf (b2 pMod (gSl 1) (kC (.int 5)))))) (gFz 6) [some (.fz (.list (rows o))), some (.fz (.int c)), some (.fz (.int (o.length : Int))), none, none, none, none, none] (enumD (nums ds)) = some (nums (((List.range ds.length).filter fun i => decide (ds.getD i 0 ≤ c % 5)).map fun (i : Nat) => (i : Int))) := fun _ => by
    rw [enum_nums]
    simp only [nums]
    rw [List.map_map]
    refine lcD_filter _ (fun i => decide (ds.getD i 0 ≤ c % 5)) _ _ (fun i _ => ?_) (fun i _ _ => ?_)
    · simp [modB]
    · simp
  generalize hr0 : (((List.range ds.length).filter fun i => decide (ds.getD i 0 ≤ c % 5)).map fun (i : Nat) => (i : Int)) = r0 at lc1
  have r0l : r0.length ≤ 14 := by
    rw [← hr0, List.length_map]
    have := List.length_filter_le (fun i => decide (ds.getD i 0 ≤ c % 5)) (List.range ds.length)
    rw [List.length_range] at this
    omega
  have r0x : ∀ x ∈ r0, 0 ≤ x ∧ x < (o.length : Int) := fun x hx => by
    rw [← hr0] at hx
    obtain ⟨i, hi, rfl⟩ := List.mem_map.mp hx
    have := List.mem_range.mp (List.mem_filter.mp hi).1
    omega
  have c1 : (enumD (nums ds)).length < cap := by rw [enumD_len, List.length_map, cap_eq]; omega
  have c2 : r0.length < cap := by rw [cap_eq]; omega
  have d40 : divB c 40 = true := by unfold divB; rw [big_eq]; decide
  have d5 : divB c 5 = true := by unfold divB; rw [big_eq]; decide
  have d560 : divB c 560 = true := by unfold divB; rw [big_eq]; decide
  have cc : 1 ≤ cap := by rw [cap_eq]; decide
  obtain ⟨t1, ht1, hl1⟩ := cut_nums r0 none (some 1)
  have cc1 : r0.length + t1.length ≤ cap := by rw [cap_eq]; omega
  have cc2 : r0.length + 1 ≤ cap := by rw [cap_eq]; omega
  have cc3 : 1 + r0.length ≤ cap := by rw [cap_eq]; omega
  have rv : (nums r0).reverse = nums r0.reverse := List.map_reverse.symm
  have a0 : nums r0 ++ [PyData.int ((o.length : Int) + c / 40 % 3)] = nums (r0 ++ [(o.length : Int) + c / 40 % 3]) := by simp
  have a1 : PyData.int (-1 - c / 40 % 3) :: nums r0 = nums ((-1 - c / 40 % 3) :: r0) := by simp
  have a2 : nums r0 ++ nums t1 = nums (r0 ++ t1) := by simp
  have lc1 := lc1 none
  have m8 : c / 5 % 8 = 0 ∨ c / 5 % 8 = 1 ∨ c / 5 % 8 = 2 ∨ c / 5 % 8 = 3 ∨ c / 5 % 8 = 4 ∨ c / 5 % 8 = 5 ∨ c / 5 % 8 = 6 ∨ c / 5 % 8 = 7 := by omega
  unfold m_law_list mirror g_law_list startE
  generalize m_law_row = mrw at hd ⊢
  rcases m8 with k | k | k | k | k | k | k | k
  · exact ⟨r0, by simp [d40, d5, hd, lc1, c1, c2, modB, k], by omega⟩
  · exact ⟨r0.reverse, by simp [d40, d5, hd, lc1, c1, c2, modB, k], by rw [List.length_reverse]; omega⟩
  · exact ⟨r0 ++ t1, by simp [d40, d5, hd, lc1, c1, c2, modB, k, ht1, cc1], by rw [List.length_append]; omega⟩
  · exact ⟨r0 ++ [(o.length : Int) + c / 40 % 3], by simp (maxSteps := 1000000) [d40, d5, hd, lc1, c1, c2, modB, k, cc, cc2], by rw [List.length_append]; simp; omega⟩
  · exact ⟨(-1 - c / 40 % 3) :: r0, by simp [d40, d5, hd, lc1, c1, c2, modB, k, cc, cc3], by simp; omega⟩
  · by_cases hn : 0 < o.length
    · have tb : 0 ≤ c / 40 % (o.length : Int) ∧ c / 40 % (o.length : Int) < (o.length : Int) := ⟨Int.emod_nonneg _ (by omega), Int.emod_lt_of_pos _ (by omega)⟩
      have hrow : o[(c / 40 % (o.length : Int)).toNat]? = some (o.getD (c / 40 % (o.length : Int)).toNat []) := getD_at (by omega)
      have at1 : atI (rows o) (c / 40 % (o.length : Int)) = some (rowD (o.getD (c / 40 % (o.length : Int)).toNat [])) := atI_rows tb.1 hrow
      have rl := ho.row_len hrow
      generalize o.getD (c / 40 % (o.length : Int)).toNat [] = row at at1 rl
      have lc7 : ∀ y3 y6, lcD (gNm 7) bYes (gFz 7) [some (.fz (.list (rows o))), some (.fz (.int c)), some (.fz (.int (o.length : Int))), y3, none, some (.fz (.int 5)), y6, none] (nums row) = some (nums row) := fun _ _ => lcD_map PyData.int PyData.int row fun x _ => by simp
      have c3 : row.length < cap := by rw [cap_eq]; omega
      obtain ⟨t2, ht2, hl2⟩ := cut_nums row none (some (c / 560 % 3 + 1))
      have c4 : t2.length + 1 ≤ cap := by rw [cap_eq]; omega
      have hn' : (0 : Int) < (o.length : Int) := by omega
      exact ⟨t2 ++ [c / 40 % (o.length : Int)], by simp [d40, d5, d560, hd, lc1, c1, c2, modB, k, cc, hn, hn', at1, lc7, c3, ht2, c4], by rw [List.length_append]; simp; omega⟩
    · have hn' : ¬ (0 : Int) < (o.length : Int) := by omega
      exact ⟨r0, by simp [d40, d5, hd, lc1, c1, c2, modB, k, hn, hn'], by omega⟩
  · have lc6 : ∀ y5, lcD (gNm 6) (bOf (b2 pLt (dOf (callD pLen (aCons (dOf (b2 pIx (gSl 0) (gSl 6))) aNil))) (kC (.int 2)))) (gFz 6) [some (.fz (.list (rows o))), some (.fz (.int c)), some (.fz (.int (o.length : Int))), some (.fz (.list (nums r0))), none, y5, none, none] (nums r0) = some (nums (r0.filter fun x => decide (((o.getD x.toNat []).length : Int) < 2))) := fun y5 => by
      refine lcD_filter PyData.int (fun x => decide (((o.getD x.toNat []).length : Int) < 2)) _ r0 (fun x hx => ?_) (fun x _ _ => by simp)
      have hx' := r0x x hx
      have at1 : atI (rows o) x = some (rowD (o.getD x.toNat [])) := atI_rows hx'.1 (getD_at (by omega))
      simp only [e_gNm, e_setES, e_setE0, Option.bind_some, e_bOf, e_b2, e_dOf, e_callD, e_aCons, e_gSlS, e_gSl0, e_fz, e_pIxL, at1, Option.map_some, e_aNil, e_pLenL, List.length_map, e_kC, e_pI, if_true]
    exact ⟨r0.filter fun x => decide (((o.getD x.toNat []).length : Int) < 2), by simp [d40, d5, hd, lc1, c1, c2, modB, k, lc6], by have := List.length_filter_le (fun x => decide (((o.getD x.toNat []).length : Int) < 2)) r0; omega⟩
  · exact ⟨r0, by simp [d40, d5, hd, lc1, c1, c2, modB, k], by omega⟩
/-! ### both are one -/
theorem take_iff {r : List Int} (h : r.Pairwise (· < ·)) {i : Nat} (hi : i < r.length) (x : Int) : x ∈ r.take i ↔ x ∈ r ∧ x < r.getD i 0 := by
  have e : r.getD i 0 = r[i] := by simp [List.getD, hi]
  rw [e]
  rw [List.pairwise_iff_getElem] at h
  constructor
  · intro hx
    obtain ⟨j, hj, rfl⟩ := List.mem_iff_getElem.mp hx
    rw [List.length_take] at hj
    rw [List.getElem_take]
    exact ⟨List.getElem_mem _, h j i (by omega) hi (by omega)⟩
  · rintro ⟨hx, hlt⟩
    obtain ⟨j, hj, rfl⟩ := List.mem_iff_getElem.mp hx
    have : j < i := by
      rcases Nat.lt_trichotomy j i with z | z | z
      · exact z
      · subst z; omega
      · have := h i j hi hj z; omega
    exact List.mem_iff_getElem.mpr ⟨j, by rw [List.length_take]; omega, by rw [List.getElem_take]⟩
theorem pr_iff {o : List (List Int)} {r : List Int} (h : r.Pairwise (· < ·)) (b : Bool) : (∀ x ∈ prB o r, x = b) ↔ ∀ low ∈ r, ∀ high ∈ r, low < high → decide (low ∈ o.getD high.toNat []) = b := by
  unfold prB
  constructor
  · intro hp low hlow high hhigh hlt
    obtain ⟨i, hi, rfl⟩ := List.mem_iff_getElem.mp hhigh
    have e : r.getD i 0 = r[i] := by simp [List.getD, hi]
    refine hp _ (List.mem_flatMap.mpr ⟨i, List.mem_range.mpr hi, List.mem_map.mpr ⟨low, (take_iff h hi low).mpr ⟨hlow, by rw [e]; exact hlt⟩, by rw [e]⟩⟩)
  · intro hp x hx
    obtain ⟨i, hi, hx⟩ := List.mem_flatMap.mp hx
    have hi := List.mem_range.mp hi
    obtain ⟨low, hlow, rfl⟩ := List.mem_map.mp hx
    have := (take_iff h hi low).mp hlow
    exact hp low this.1 (r.getD i 0) (List.mem_of_getElem? (getD_at (d := 0) hi)) this.2
theorem so_eq (o : List (List Int)) (r : List Int) : soB o r true = (goodB o.length r && (prB o r).all id) ∧ soB o r false = (goodB o.length r && !(prB o r).any id) := by
  unfold soB
  cases q : goodB o.length r with
  | false => exact ⟨rfl, rfl⟩
  | true =>
    have hlt := ((good_iff _ _).mp q).2.2
    have h1 := pr_iff (o := o) hlt true
    have h2 := pr_iff (o := o) hlt false
    rw [Bool.true_and, Bool.true_and, Bool.true_and, Bool.true_and]
    constructor
    · rw [Bool.eq_iff_iff]
      have : (prB o r).all id = true ↔ ∀ x ∈ prB o r, x = true := by simp
      rw [this, h1]
      simp only [List.all_eq_true, Bool.not_eq_true', Bool.and_eq_false_iff, decide_eq_false_iff_not, Bool.not_eq_false', beq_iff_eq]
      constructor
      · intro h low hl high hh hlt
        rcases h low hl high hh with z | z
        · exact absurd hlt z
        · exact z
      · intro h low hl high hh
        by_cases z : low < high
        · exact .inr (h low hl high hh z)
        · exact .inl z
    · rw [Bool.eq_iff_iff]
      have : (!(prB o r).any id) = true ↔ ∀ x ∈ prB o r, x = false := by simp
      rw [this, h2]
      simp only [List.all_eq_true, Bool.not_eq_true', Bool.and_eq_false_iff, decide_eq_false_iff_not, Bool.not_eq_false', beq_iff_eq]
      constructor
      · intro h low hl high hh hlt
        rcases h low hl high hh with z | z
        · exact absurd hlt z
        · exact z
      · intro h low hl high hh
        by_cases z : low < high
        · exact .inr (h low hl high hh z)
        · exact .inl z
theorem eqv_bb (a b : Bool) : pNe (.list [.bool a, .bool b]) (.list [.bool a, .bool b]) = some (.fz (.bool false)) := pNe_self (n := 1) (shp_list fun x hx => by
  simp only [List.mem_cons, List.not_mem_nil, or_false] at hx
  rcases hx with rfl | rfl <;> exact shp_bool 0 _) (by decide)
@[simp] theorem e_isiBB {n : Bool} : isTy "bool" (.bool n) = true := by unfold isTy; rfl
theorem turn_spec (s : List Int) {o : List (List Int)} (ho : IsOrd o) (hl : o.length ≤ 14) (c : Int) (y4 y5 y6 y7 : Option Sl) : ∃ z5 z6 z7, (gNm 4 (.int c) [some (.fz (.list (nums s))), some (.fz (.list (rows o))), some (.fz (.list (rows o))), none, y4, y5, y6, y7]).bind g_law_b1 = some (.nx [some (.fz (.list (nums s))), some (.fz (.list (rows o))), some (.fz (.list (rows o))), none, some (.fz (.int c)), z5, z6, z7]) := by
  obtain ⟨r, h1, hr⟩ := list_spec ho hl c
  obtain ⟨h2, h3⟩ := chain_spec o r hr
  have h4 := so_spec o r true hr
  have h5 := so_spec o r false hr
  rw [(so_eq o r).1] at h4
  rw [(so_eq o r).2] at h5
  generalize (goodB o.length r && (prB o r).all id) = u at h2 h4
  generalize (goodB o.length r && !(prB o r).any id) = v at h3 h5
  have e1 : atI [PyData.bool u, PyData.bool v] 0 = some (.bool u) := rfl
  have e2 : atI [PyData.bool u, PyData.bool v] 1 = some (.bool v) := rfl
  have c2 : 1 + 1 ≤ cap := by rw [cap_eq]; decide
  have pb := eqv_bb u v
  refine ⟨some (.fz (.list (nums r))), some (.fz (.list (nums r))), some (.fz (.list [.bool u, .bool v])), ?_⟩
  unfold g_law_b1
  generalize m_law_list = ml at h1 ⊢
  generalize m_is_chain = mc at h2 ⊢
  generalize m_is_crowd = md at h3 ⊢
  generalize m_law_all_so = ms at h4 h5 ⊢
  simp only [e_gNm, e_setES, e_setE0, Option.bind_some, e_oSeq, e_oSet, e_fzOf, e_dOf, e_callD, e_aCons, e_aNil, e_gFzS, e_gFz0, Option.map_some, h1, e_fz, e_gSlS, e_gSl0, e_pListOf, e_ow, e_dLst, h2, h3, List.length_cons, List.length_nil, Nat.zero_add, Nat.reduceAdd, c2, if_true, e_oIf, e_bOr, e_bNot, e_bTru, e_vIsi, e_b2, e_kC, e_pIxL, e1, e2, e_isiBB, e_truB, Bool.not_true, e_bOf, pNe_nums, pNe_rows, e_oNil, h4, h5, pb]
theorem law_spec (s : List Int) (hs : s.length ≤ 63) : m_law [.list (nums s)] = some (.fz (.bool true)) := by
  obtain ⟨c0, hc0⟩ := cell_spec s 0
  replace hc0 : m_law_cell [.list (nums s), .int 0] = some (.fz (.int c0)) := hc0
  obtain ⟨c1, hc1⟩ := cell_spec s 1
  replace hc1 : m_law_cell [.list (nums s), .int 1] = some (.fz (.int c1)) := hc1
  obtain ⟨o, q1, q2, q3⟩ := order_spec c0
  obtain ⟨t, ht, hl⟩ := cut_nums s (some 2) (some 11)
  have lc : lcD (gNm 3) bYes (dOf (callD pListOf (aCons (gSl 3) aNil))) [some (.fz (.list (nums s))), some (.fz (.list (rows o))), none, none, none, none, none, none] (rows o) = some (rows o) := copy_rows o fun r => by simp
  obtain ⟨Γ', h1, _⟩ := forD_inv (g := gNm 4) (body := g_law_b1) PyData.int (fun rest Γ => ∃ y4 y5 y6 y7, Γ = [some (.fz (.list (nums s))), some (.fz (.list (rows o))), some (.fz (.list (rows o))), none, y4, y5, y6, y7])
    (fun c xs Γ hp => by
      obtain ⟨y4, y5, y6, y7, rfl⟩ := hp
      obtain ⟨z5, z6, z7, e⟩ := turn_spec s q3 q2 c y4 y5 y6 y7
      exact ⟨_, e, _, _, _, _, rfl⟩) (c1 :: t) [some (.fz (.list (nums s))), some (.fz (.list (rows o))), some (.fz (.list (rows o))), none, none, none, none, none] ⟨none, none, none, none, rfl⟩
  have k1 : o.length < cap := by rw [cap_eq]; omega
  have k2 : 1 + t.length ≤ cap := by rw [cap_eq]; omega
  have k3 : 1 ≤ cap := by rw [cap_eq]; decide
  unfold m_law mirror g_law startE
  generalize m_law_cell = mc at hc0 hc1 ⊢
  generalize m_law_order = mo at q1 ⊢
  simp only [nums, List.map_cons] at h1
  simp [hc0, hc1, q1, lc, k1, k2, k3, ht, h1]
section
theorem all_mk {l : PySem.W.OpenLaw} {w : World} {K : PySem.W.Frag} {h : Heap} {mg : Str → Option Value} {fa : Addr} (X : K.In h) (G : h.Ns mainGlobals mg) (hfa : mg "law" = some (.ref fa))
    {f_law_cell f_law_all_so f_is_rising f_is_whole f_are_things f_is_rising_row f_is_crowd f_is_chain f_law_mixed f_law_digits f_law_row f_law_list f_law_closed f_law_order f_law : Addr}
    {od_law_cell an_law_cell od_law_all_so an_law_all_so od_is_rising an_is_rising od_is_whole an_is_whole od_are_things an_are_things od_is_rising_row an_is_rising_row od_is_crowd an_is_crowd od_is_chain an_is_chain od_law_mixed an_law_mixed od_law_digits an_law_digits od_law_row an_law_row od_law_list an_law_list od_law_closed an_law_closed od_law_order an_law_order od_law an_law : Option Addr}
    {sl_law_cell sl_law_all_so sl_is_rising sl_is_whole sl_are_things sl_is_rising_row sl_is_crowd sl_is_chain sl_law_mixed sl_law_digits sl_law_row sl_law_list sl_law_closed sl_law_order sl_law : Array (Option Value)}
    {oc_law_cell kV_law_cell dc_law_cell pm_law_cell cd_law_cell ct_law_cell oc_law_all_so kV_law_all_so dc_law_all_so pm_law_all_so cd_law_all_so ct_law_all_so oc_is_rising kV_is_rising dc_is_rising pm_is_rising cd_is_rising ct_is_rising oc_is_whole kV_is_whole dc_is_whole pm_is_whole cd_is_whole ct_is_whole oc_are_things kV_are_things dc_are_things pm_are_things cd_are_things ct_are_things oc_is_rising_row kV_is_rising_row dc_is_rising_row pm_is_rising_row cd_is_rising_row ct_is_rising_row oc_is_crowd kV_is_crowd dc_is_crowd pm_is_crowd cd_is_crowd ct_is_crowd oc_is_chain kV_is_chain dc_is_chain pm_is_chain cd_is_chain ct_is_chain oc_law_mixed kV_law_mixed dc_law_mixed pm_law_mixed cd_law_mixed ct_law_mixed oc_law_digits kV_law_digits dc_law_digits pm_law_digits cd_law_digits ct_law_digits oc_law_row kV_law_row dc_law_row pm_law_row cd_law_row ct_law_row oc_law_list kV_law_list dc_law_list pm_law_list cd_law_list ct_law_list oc_law_closed kV_law_closed dc_law_closed pm_law_closed cd_law_closed ct_law_closed oc_law_order kV_law_order dc_law_order pm_law_order cd_law_order ct_law_order oc_law kV_law dc_law pm_law cd_law ct_law : Value}
    (a_law_cell : PySem.W.nsIn K mainGlobals "_law_cell" = some (some (.ref f_law_cell))) (l_law_cell : K.lookup f_law_cell = some ⟨oc_law_cell, od_law_cell, .func (PySem.W.fnOf "_law_cell" "_law_cell" (defArgs s_law_cell) (defBody s_law_cell) (defScope s_law_cell) .none kV_law_cell dc_law_cell pm_law_cell an_law_cell cd_law_cell ct_law_cell), sl_law_cell⟩) (c_law_cell : PySem.W.codeIn K cd_law_cell "_law_cell" = true) (k_law_cell : PySem.W.keepIn K (.ref f_law_cell) = true)
    (a_law_all_so : PySem.W.nsIn K mainGlobals "_law_all_so" = some (some (.ref f_law_all_so))) (l_law_all_so : K.lookup f_law_all_so = some ⟨oc_law_all_so, od_law_all_so, .func (PySem.W.fnOf "_law_all_so" "_law_all_so" (defArgs s_law_all_so) (defBody s_law_all_so) (defScope s_law_all_so) .none kV_law_all_so dc_law_all_so pm_law_all_so an_law_all_so cd_law_all_so ct_law_all_so), sl_law_all_so⟩) (c_law_all_so : PySem.W.codeIn K cd_law_all_so "_law_all_so" = true) (k_law_all_so : PySem.W.keepIn K (.ref f_law_all_so) = true)
    (a_is_rising : PySem.W.nsIn K mainGlobals "is_rising" = some (some (.ref f_is_rising))) (l_is_rising : K.lookup f_is_rising = some ⟨oc_is_rising, od_is_rising, .func (PySem.W.fnOf "is_rising" "is_rising" (defArgs s_is_rising) (defBody s_is_rising) (defScope s_is_rising) .none kV_is_rising dc_is_rising pm_is_rising an_is_rising cd_is_rising ct_is_rising), sl_is_rising⟩) (c_is_rising : PySem.W.codeIn K cd_is_rising "is_rising" = true) (k_is_rising : PySem.W.keepIn K (.ref f_is_rising) = true)
    (a_is_whole : PySem.W.nsIn K mainGlobals "is_whole" = some (some (.ref f_is_whole))) (l_is_whole : K.lookup f_is_whole = some ⟨oc_is_whole, od_is_whole, .func (PySem.W.fnOf "is_whole" "is_whole" (defArgs s_is_whole) (defBody s_is_whole) (defScope s_is_whole) .none kV_is_whole dc_is_whole pm_is_whole an_is_whole cd_is_whole ct_is_whole), sl_is_whole⟩) (c_is_whole : PySem.W.codeIn K cd_is_whole "is_whole" = true) (k_is_whole : PySem.W.keepIn K (.ref f_is_whole) = true)
    (a_are_things : PySem.W.nsIn K mainGlobals "are_things" = some (some (.ref f_are_things))) (l_are_things : K.lookup f_are_things = some ⟨oc_are_things, od_are_things, .func (PySem.W.fnOf "are_things" "are_things" (defArgs s_are_things) (defBody s_are_things) (defScope s_are_things) .none kV_are_things dc_are_things pm_are_things an_are_things cd_are_things ct_are_things), sl_are_things⟩) (c_are_things : PySem.W.codeIn K cd_are_things "are_things" = true) (k_are_things : PySem.W.keepIn K (.ref f_are_things) = true)
    (a_is_rising_row : PySem.W.nsIn K mainGlobals "is_rising_row" = some (some (.ref f_is_rising_row))) (l_is_rising_row : K.lookup f_is_rising_row = some ⟨oc_is_rising_row, od_is_rising_row, .func (PySem.W.fnOf "is_rising_row" "is_rising_row" (defArgs s_is_rising_row) (defBody s_is_rising_row) (defScope s_is_rising_row) .none kV_is_rising_row dc_is_rising_row pm_is_rising_row an_is_rising_row cd_is_rising_row ct_is_rising_row), sl_is_rising_row⟩) (c_is_rising_row : PySem.W.codeIn K cd_is_rising_row "is_rising_row" = true) (k_is_rising_row : PySem.W.keepIn K (.ref f_is_rising_row) = true)
    (a_is_crowd : PySem.W.nsIn K mainGlobals "is_crowd" = some (some (.ref f_is_crowd))) (l_is_crowd : K.lookup f_is_crowd = some ⟨oc_is_crowd, od_is_crowd, .func (PySem.W.fnOf "is_crowd" "is_crowd" (defArgs s_is_crowd) (defBody s_is_crowd) (defScope s_is_crowd) .none kV_is_crowd dc_is_crowd pm_is_crowd an_is_crowd cd_is_crowd ct_is_crowd), sl_is_crowd⟩) (c_is_crowd : PySem.W.codeIn K cd_is_crowd "is_crowd" = true) (k_is_crowd : PySem.W.keepIn K (.ref f_is_crowd) = true)
    (a_is_chain : PySem.W.nsIn K mainGlobals "is_chain" = some (some (.ref f_is_chain))) (l_is_chain : K.lookup f_is_chain = some ⟨oc_is_chain, od_is_chain, .func (PySem.W.fnOf "is_chain" "is_chain" (defArgs s_is_chain) (defBody s_is_chain) (defScope s_is_chain) .none kV_is_chain dc_is_chain pm_is_chain an_is_chain cd_is_chain ct_is_chain), sl_is_chain⟩) (c_is_chain : PySem.W.codeIn K cd_is_chain "is_chain" = true) (k_is_chain : PySem.W.keepIn K (.ref f_is_chain) = true)
    (a_law_mixed : PySem.W.nsIn K mainGlobals "_law_mixed" = some (some (.ref f_law_mixed))) (l_law_mixed : K.lookup f_law_mixed = some ⟨oc_law_mixed, od_law_mixed, .func (PySem.W.fnOf "_law_mixed" "_law_mixed" (defArgs s_law_mixed) (defBody s_law_mixed) (defScope s_law_mixed) .none kV_law_mixed dc_law_mixed pm_law_mixed an_law_mixed cd_law_mixed ct_law_mixed), sl_law_mixed⟩) (c_law_mixed : PySem.W.codeIn K cd_law_mixed "_law_mixed" = true) (k_law_mixed : PySem.W.keepIn K (.ref f_law_mixed) = true)
    (a_law_digits : PySem.W.nsIn K mainGlobals "_law_digits" = some (some (.ref f_law_digits))) (l_law_digits : K.lookup f_law_digits = some ⟨oc_law_digits, od_law_digits, .func (PySem.W.fnOf "_law_digits" "_law_digits" (defArgs s_law_digits) (defBody s_law_digits) (defScope s_law_digits) .none kV_law_digits dc_law_digits pm_law_digits an_law_digits cd_law_digits ct_law_digits), sl_law_digits⟩) (c_law_digits : PySem.W.codeIn K cd_law_digits "_law_digits" = true) (k_law_digits : PySem.W.keepIn K (.ref f_law_digits) = true)
    (a_law_row : PySem.W.nsIn K mainGlobals "_law_row" = some (some (.ref f_law_row))) (l_law_row : K.lookup f_law_row = some ⟨oc_law_row, od_law_row, .func (PySem.W.fnOf "_law_row" "_law_row" (defArgs s_law_row) (defBody s_law_row) (defScope s_law_row) .none kV_law_row dc_law_row pm_law_row an_law_row cd_law_row ct_law_row), sl_law_row⟩) (c_law_row : PySem.W.codeIn K cd_law_row "_law_row" = true) (k_law_row : PySem.W.keepIn K (.ref f_law_row) = true)
    (a_law_list : PySem.W.nsIn K mainGlobals "_law_list" = some (some (.ref f_law_list))) (l_law_list : K.lookup f_law_list = some ⟨oc_law_list, od_law_list, .func (PySem.W.fnOf "_law_list" "_law_list" (defArgs s_law_list) (defBody s_law_list) (defScope s_law_list) .none kV_law_list dc_law_list pm_law_list an_law_list cd_law_list ct_law_list), sl_law_list⟩) (c_law_list : PySem.W.codeIn K cd_law_list "_law_list" = true) (k_law_list : PySem.W.keepIn K (.ref f_law_list) = true)
    (a_law_closed : PySem.W.nsIn K mainGlobals "_law_closed" = some (some (.ref f_law_closed))) (l_law_closed : K.lookup f_law_closed = some ⟨oc_law_closed, od_law_closed, .func (PySem.W.fnOf "_law_closed" "_law_closed" (defArgs s_law_closed) (defBody s_law_closed) (defScope s_law_closed) .none kV_law_closed dc_law_closed pm_law_closed an_law_closed cd_law_closed ct_law_closed), sl_law_closed⟩) (c_law_closed : PySem.W.codeIn K cd_law_closed "_law_closed" = true) (k_law_closed : PySem.W.keepIn K (.ref f_law_closed) = true)
    (a_law_order : PySem.W.nsIn K mainGlobals "_law_order" = some (some (.ref f_law_order))) (l_law_order : K.lookup f_law_order = some ⟨oc_law_order, od_law_order, .func (PySem.W.fnOf "_law_order" "_law_order" (defArgs s_law_order) (defBody s_law_order) (defScope s_law_order) .none kV_law_order dc_law_order pm_law_order an_law_order cd_law_order ct_law_order), sl_law_order⟩) (c_law_order : PySem.W.codeIn K cd_law_order "_law_order" = true) (k_law_order : PySem.W.keepIn K (.ref f_law_order) = true)
    (a_law : PySem.W.nsIn K mainGlobals "law" = some (some (.ref f_law))) (l_law : K.lookup f_law = some ⟨oc_law, od_law, .func (PySem.W.fnOf "law" "law" (defArgs s_law) (defBody s_law) (defScope s_law) .none kV_law dc_law pm_law an_law cd_law ct_law), sl_law⟩) (c_law : PySem.W.codeIn K cd_law "law" = true) (k_law : PySem.W.keepIn K (.ref f_law) = true)
    (z_abs : PySem.W.nsIn K mainGlobals "abs" = some none) (z_all : PySem.W.nsIn K mainGlobals "all" = some none) (z_any : PySem.W.nsIn K mainGlobals "any" = some none) (z_bool : PySem.W.nsIn K mainGlobals "bool" = some none) (z_enumerate : PySem.W.nsIn K mainGlobals "enumerate" = some none) (z_int : PySem.W.nsIn K mainGlobals "int" = some none) (z_isinstance : PySem.W.nsIn K mainGlobals "isinstance" = some none) (z_len : PySem.W.nsIn K mainGlobals "len" = some none) (z_list : PySem.W.nsIn K mainGlobals "list" = some none) (z_range : PySem.W.nsIn K mainGlobals "range" = some none) (z_set : PySem.W.nsIn K mainGlobals "set" = some none) (z_sorted : PySem.W.nsIn K mainGlobals "sorted" = some none) :
    ∃ fd : FuncData, (∀ (s : Shared) (v : Value), BindsTo s fd ⟨[v], []⟩ [("_law_script", v)]) ∧ ∀ base : Heap, K.In base → base.Ns mainGlobals mg → FnOk l.prog w K mg base CX0 5 fa fd ["_law_script"] (spD K 1 m_law) := by
  have e := hfa.symm.trans (PySem.W.mg_of X G a_law)
  cases e
  have hm_abs := PySem.W.mg_none_of X G z_abs
  have hm_all := PySem.W.mg_none_of X G z_all
  have hm_any := PySem.W.mg_none_of X G z_any
  have hm_bool := PySem.W.mg_none_of X G z_bool
  have hm_enumerate := PySem.W.mg_none_of X G z_enumerate
  have hm_int := PySem.W.mg_none_of X G z_int
  have hm_isinstance := PySem.W.mg_none_of X G z_isinstance
  have hm_len := PySem.W.mg_none_of X G z_len
  have hm_list := PySem.W.mg_none_of X G z_list
  have hm_range := PySem.W.mg_none_of X G z_range
  have hm_set := PySem.W.mg_none_of X G z_set
  have hm_sorted := PySem.W.mg_none_of X G z_sorted
  have F_law_cell := fun_mk (st := s_law_cell) l_law_cell c_law_cell k_law_cell
  have mg_law_cell := PySem.W.mg_of X G a_law_cell
  have B_law_cell := F_law_cell.binds (ps := ["_law_script", "_law_k"]) fun _ _ _ _ _ _ us hl => match us, hl with | [_, _], _ => rfl
  have F_law_all_so := fun_mk (st := s_law_all_so) l_law_all_so c_law_all_so k_law_all_so
  have mg_law_all_so := PySem.W.mg_of X G a_law_all_so
  have B_law_all_so := F_law_all_so.binds (ps := ["_law_order_here", "_law_row_here", "_law_chain"]) fun _ _ _ _ _ _ us hl => match us, hl with | [_, _, _], _ => rfl
  have F_is_rising := fun_mk (st := s_is_rising) l_is_rising c_is_rising k_is_rising
  have mg_is_rising := PySem.W.mg_of X G a_is_rising
  have B_is_rising := F_is_rising.binds (ps := ["row"]) fun _ _ _ _ _ _ us hl => match us, hl with | [_], _ => rfl
  have F_is_whole := fun_mk (st := s_is_whole) l_is_whole c_is_whole k_is_whole
  have mg_is_whole := PySem.W.mg_of X G a_is_whole
  have B_is_whole := F_is_whole.binds (ps := ["number"]) fun _ _ _ _ _ _ us hl => match us, hl with | [_], _ => rfl
  have F_are_things := fun_mk (st := s_are_things) l_are_things c_are_things k_are_things
  have mg_are_things := PySem.W.mg_of X G a_are_things
  have B_are_things := F_are_things.binds (ps := ["row", "many"]) fun _ _ _ _ _ _ us hl => match us, hl with | [_, _], _ => rfl
  have F_is_rising_row := fun_mk (st := s_is_rising_row) l_is_rising_row c_is_rising_row k_is_rising_row
  have mg_is_rising_row := PySem.W.mg_of X G a_is_rising_row
  have B_is_rising_row := F_is_rising_row.binds (ps := ["order", "row"]) fun _ _ _ _ _ _ us hl => match us, hl with | [_, _], _ => rfl
  have F_is_crowd := fun_mk (st := s_is_crowd) l_is_crowd c_is_crowd k_is_crowd
  have mg_is_crowd := PySem.W.mg_of X G a_is_crowd
  have B_is_crowd := F_is_crowd.binds (ps := ["order", "row"]) fun _ _ _ _ _ _ us hl => match us, hl with | [_, _], _ => rfl
  have F_is_chain := fun_mk (st := s_is_chain) l_is_chain c_is_chain k_is_chain
  have mg_is_chain := PySem.W.mg_of X G a_is_chain
  have B_is_chain := F_is_chain.binds (ps := ["order", "row"]) fun _ _ _ _ _ _ us hl => match us, hl with | [_, _], _ => rfl
  have F_law_mixed := fun_mk (st := s_law_mixed) l_law_mixed c_law_mixed k_law_mixed
  have mg_law_mixed := PySem.W.mg_of X G a_law_mixed
  have B_law_mixed := F_law_mixed.binds (ps := ["_law_cell_here", "_law_base", "_law_many"]) fun _ _ _ _ _ _ us hl => match us, hl with | [_, _, _], _ => rfl
  have F_law_digits := fun_mk (st := s_law_digits) l_law_digits c_law_digits k_law_digits
  have mg_law_digits := PySem.W.mg_of X G a_law_digits
  have B_law_digits := F_law_digits.binds (ps := ["_law_cell_here", "_law_base", "_law_many"]) fun _ _ _ _ _ _ us hl => match us, hl with | [_, _, _], _ => rfl
  have F_law_row := fun_mk (st := s_law_row) l_law_row c_law_row k_law_row
  have mg_law_row := PySem.W.mg_of X G a_law_row
  have B_law_row := F_law_row.binds (ps := ["_law_cell_here", "_law_base", "_law_many"]) fun _ _ _ _ _ _ us hl => match us, hl with | [_, _, _], _ => rfl
  have F_law_list := fun_mk (st := s_law_list) l_law_list c_law_list k_law_list
  have mg_law_list := PySem.W.mg_of X G a_law_list
  have B_law_list := F_law_list.binds (ps := ["_law_order_here", "_law_cell_here"]) fun _ _ _ _ _ _ us hl => match us, hl with | [_, _], _ => rfl
  have F_law_closed := fun_mk (st := s_law_closed) l_law_closed c_law_closed k_law_closed
  have mg_law_closed := PySem.W.mg_of X G a_law_closed
  have B_law_closed := F_law_closed.binds (ps := ["_law_many", "_law_digits_here"]) fun _ _ _ _ _ _ us hl => match us, hl with | [_, _], _ => rfl
  have F_law_order := fun_mk (st := s_law_order) l_law_order c_law_order k_law_order
  have mg_law_order := PySem.W.mg_of X G a_law_order
  have B_law_order := F_law_order.binds (ps := ["_law_cell_here"]) fun _ _ _ _ _ _ us hl => match us, hl with | [_], _ => rfl
  have F_law := fun_mk (st := s_law) l_law c_law k_law
  refine ⟨PySem.W.fnOf "law" "law" (defArgs s_law) (defBody s_law) (defScope s_law) .none kV_law dc_law pm_law an_law cd_law ct_law, fun s v => .of_eq rfl, fun base _ _ => ?_⟩
  have O_law_cell : FnOk l.prog w K mg base CX0 1 _ _ ["_law_script", "_law_k"] (spD K 2 m_law_cell) := (b_law_cell (P := l.prog) (w := w) (K := K) (mg := mg) (base := base) hm_len).elim fun _ hb => fn_ok F_law_cell sc_law_cell hb
  have O_law_all_so : FnOk l.prog w K mg base CX0 1 _ _ ["_law_order_here", "_law_row_here", "_law_chain"] (spD K 3 m_law_all_so) := (b_law_all_so (P := l.prog) (w := w) (K := K) (mg := mg) (base := base) hm_len hm_set hm_sorted).elim fun _ hb => fn_ok F_law_all_so sc_law_all_so hb
  have O_is_rising : FnOk l.prog w K mg base CX0 1 _ _ ["row"] (spD K 1 m_is_rising) := (b_is_rising (P := l.prog) (w := w) (K := K) (mg := mg) (base := base) hm_all hm_len hm_range).elim fun _ hb => fn_ok F_is_rising sc_is_rising hb
  have O_is_whole : FnOk l.prog w K mg base CX0 1 _ _ ["number"] (spD K 1 m_is_whole) := (b_is_whole (P := l.prog) (w := w) (K := K) (mg := mg) (base := base) hm_bool hm_int hm_isinstance).elim fun _ hb => fn_ok F_is_whole sc_is_whole hb
  have O_are_things : FnOk l.prog w K mg base CX0 2 _ _ ["row", "many"] (spD K 2 m_are_things) := (b_are_things (P := l.prog) (w := w) (K := K) (mg := mg) (base := base) hm_all ⟨⟨f_is_whole, _, 1, O_is_whole, Nat.le_of_ble_eq_true rfl, mg_is_whole, k_is_whole, B_is_whole⟩⟩).elim fun _ hb => fn_ok F_are_things sc_are_things hb
  have O_is_rising_row : FnOk l.prog w K mg base CX0 3 _ _ ["order", "row"] (spD K 2 m_is_rising_row) := (b_is_rising_row (P := l.prog) (w := w) (K := K) (mg := mg) (base := base) hm_len ⟨⟨f_is_rising, _, 1, O_is_rising, Nat.le_of_ble_eq_true rfl, mg_is_rising, k_is_rising, B_is_rising⟩⟩ ⟨⟨f_are_things, _, 2, O_are_things, Nat.le_of_ble_eq_true rfl, mg_are_things, k_are_things, B_are_things⟩⟩).elim fun _ hb => fn_ok F_is_rising_row sc_is_rising_row hb
  have O_is_crowd : FnOk l.prog w K mg base CX0 4 _ _ ["order", "row"] (spD K 2 m_is_crowd) := (b_is_crowd (P := l.prog) (w := w) (K := K) (mg := mg) (base := base) hm_any hm_enumerate ⟨⟨f_is_rising_row, _, 3, O_is_rising_row, Nat.le_of_ble_eq_true rfl, mg_is_rising_row, k_is_rising_row, B_is_rising_row⟩⟩).elim fun _ hb => fn_ok F_is_crowd sc_is_crowd hb
  have O_is_chain : FnOk l.prog w K mg base CX0 4 _ _ ["order", "row"] (spD K 2 m_is_chain) := (b_is_chain (P := l.prog) (w := w) (K := K) (mg := mg) (base := base) hm_all hm_enumerate ⟨⟨f_is_rising_row, _, 3, O_is_rising_row, Nat.le_of_ble_eq_true rfl, mg_is_rising_row, k_is_rising_row, B_is_rising_row⟩⟩).elim fun _ hb => fn_ok F_is_chain sc_is_chain hb
  have O_law_mixed : FnOk l.prog w K mg base CX0 1 _ _ ["_law_cell_here", "_law_base", "_law_many"] (spD K 3 m_law_mixed) := (b_law_mixed (P := l.prog) (w := w) (K := K) (mg := mg) (base := base) hm_range).elim fun _ hb => fn_ok F_law_mixed sc_law_mixed hb
  have O_law_digits : FnOk l.prog w K mg base CX0 1 _ _ ["_law_cell_here", "_law_base", "_law_many"] (spD K 3 m_law_digits) := (b_law_digits (P := l.prog) (w := w) (K := K) (mg := mg) (base := base) hm_range).elim fun _ hb => fn_ok F_law_digits sc_law_digits hb
  have O_law_row : FnOk l.prog w K mg base CX0 2 _ _ ["_law_cell_here", "_law_base", "_law_many"] (spD K 3 m_law_row) := (b_law_row (P := l.prog) (w := w) (K := K) (mg := mg) (base := base) hm_abs ⟨⟨f_law_mixed, _, 1, O_law_mixed, Nat.le_of_ble_eq_true rfl, mg_law_mixed, k_law_mixed, B_law_mixed⟩⟩ ⟨⟨f_law_digits, _, 1, O_law_digits, Nat.le_of_ble_eq_true rfl, mg_law_digits, k_law_digits, B_law_digits⟩⟩).elim fun _ hb => fn_ok F_law_row sc_law_row hb
  have O_law_list : FnOk l.prog w K mg base CX0 3 _ _ ["_law_order_here", "_law_cell_here"] (spD K 2 m_law_list) := (b_law_list (P := l.prog) (w := w) (K := K) (mg := mg) (base := base) hm_enumerate hm_len ⟨⟨f_law_row, _, 2, O_law_row, Nat.le_of_ble_eq_true rfl, mg_law_row, k_law_row, B_law_row⟩⟩).elim fun _ hb => fn_ok F_law_list sc_law_list hb
  have O_law_closed : FnOk l.prog w K mg base CX0 1 _ _ ["_law_many", "_law_digits_here"] (spD K 2 m_law_closed) := (b_law_closed (P := l.prog) (w := w) (K := K) (mg := mg) (base := base) hm_range hm_set hm_sorted).elim fun _ hb => fn_ok F_law_closed sc_law_closed hb
  have O_law_order : FnOk l.prog w K mg base CX0 3 _ _ ["_law_cell_here"] (spD K 1 m_law_order) := (b_law_order (P := l.prog) (w := w) (K := K) (mg := mg) (base := base) ⟨⟨f_law_closed, _, 1, O_law_closed, Nat.le_of_ble_eq_true rfl, mg_law_closed, k_law_closed, B_law_closed⟩⟩ ⟨⟨f_law_row, _, 2, O_law_row, Nat.le_of_ble_eq_true rfl, mg_law_row, k_law_row, B_law_row⟩⟩).elim fun _ hb => fn_ok F_law_order sc_law_order hb
  have O_law : FnOk l.prog w K mg base CX0 5 _ _ ["_law_script"] (spD K 1 m_law) := (b_law (P := l.prog) (w := w) (K := K) (mg := mg) (base := base) hm_bool hm_isinstance hm_list ⟨⟨f_law_cell, _, 1, O_law_cell, Nat.le_of_ble_eq_true rfl, mg_law_cell, k_law_cell, B_law_cell⟩⟩ ⟨⟨f_law_all_so, _, 1, O_law_all_so, Nat.le_of_ble_eq_true rfl, mg_law_all_so, k_law_all_so, B_law_all_so⟩⟩ ⟨⟨f_is_crowd, _, 4, O_is_crowd, Nat.le_of_ble_eq_true rfl, mg_is_crowd, k_is_crowd, B_is_crowd⟩⟩ ⟨⟨f_is_chain, _, 4, O_is_chain, Nat.le_of_ble_eq_true rfl, mg_is_chain, k_is_chain, B_is_chain⟩⟩ ⟨⟨f_law_list, _, 3, O_law_list, Nat.le_of_ble_eq_true rfl, mg_law_list, k_law_list, B_law_list⟩⟩ ⟨⟨f_law_order, _, 3, O_law_order, Nat.le_of_ble_eq_true rfl, mg_law_order, k_law_order, B_law_order⟩⟩).elim fun _ hb => fn_ok F_law sc_law hb
  exact O_law
end
theorem walk {l : PySem.W.OpenLaw} {q : Program} {loose : List Str} {XP : (Str → Option Value) → Heap → Prop} {YP : World → Heap → Prop} {d : DefRec} {K : Params → PySem.W.Frag} (hn : l.most = some 63) (hdf : d.params.defaults = [])
    (hY : ∀ (w : World) (h : Heap), YP w h → (K w.params).In h)
    (F : ∀ (w : World) (mg : Str → Option Value) (fa : Addr) (h : Heap), (K w.params).In h → h.Ns mainGlobals mg → mg d.name = some (.ref fa) →
      ∃ fd : FuncData, (∀ (s : Shared) (u : Value), BindsTo s fd ⟨[u], []⟩ [("_law_script", u)]) ∧ ∀ base : Heap, (K w.params).In base → base.Ns mainGlobals mg → FnOk l.prog w (K w.params) mg base CX0 5 fa fd ["_law_script"] (spD (K w.params) 1 m_law)) :
    PySem.W.WalkO q loose XP YP l.row.toRowW d [] (fun f vs => PySem.call f vs) :=
  L2.walk_of (n := 63) (k := 5) (x := "_law_script") (CX := fun _ => CX0) (sp := fun w => spD (K w.params) 1 m_law) hn (by decide) hdf ⟨rfl, by decide, by decide⟩ hY F
    (fun w H a ns hl _ hS => ⟨H, [.list (nums ns)], .fz (.bool true), .refl H, rfl, .cons (.lst hS (dpAll_ints ns)) .nil, law_spec ns hl, fun v F' H' _ l => l.bl⟩) fun _ _ _ _ _ z => z
end
end K07
open PySem PySem.W PyProof.Rows
set_option maxRecDepth 100000 in
set_option maxHeartbeats 0 in
theorem PySem.Challenge.cw_bandorder_k07_chains_and_crowds_judged_holds : PySem.Challenge.rw_bandorder_k07_chains_and_crowds_judged.Holds := by
  w_on; o_law; k_head; (case hw => w_witness2)
  k_fill
  refine K07.walk (l := PySem.Challenge.rw_bandorder_k07_chains_and_crowds_judged) rfl rfl (fun w h Y => PySem.W.kIn_of Y) ?F
  case F =>
    intro w mg fa h KX G hmg
    refine' K07.all_mk KX G hmg ?a_law_cell ?l_law_cell ?c_law_cell ?k_law_cell ?a_law_all_so ?l_law_all_so ?c_law_all_so ?k_law_all_so ?a_is_rising ?l_is_rising ?c_is_rising ?k_is_rising ?a_is_whole ?l_is_whole ?c_is_whole ?k_is_whole ?a_are_things ?l_are_things ?c_are_things ?k_are_things ?a_is_rising_row ?l_is_rising_row ?c_is_rising_row ?k_is_rising_row ?a_is_crowd ?l_is_crowd ?c_is_crowd ?k_is_crowd ?a_is_chain ?l_is_chain ?c_is_chain ?k_is_chain ?a_law_mixed ?l_law_mixed ?c_law_mixed ?k_law_mixed ?a_law_digits ?l_law_digits ?c_law_digits ?k_law_digits ?a_law_row ?l_law_row ?c_law_row ?k_law_row ?a_law_list ?l_law_list ?c_law_list ?k_law_list ?a_law_closed ?l_law_closed ?c_law_closed ?k_law_closed ?a_law_order ?l_law_order ?c_law_order ?k_law_order ?a_law ?l_law ?c_law ?k_law ?z_abs ?z_all ?z_any ?z_bool ?z_enumerate ?z_int ?z_isinstance ?z_len ?z_list ?z_range ?z_set ?z_sorted
    (case a_law_cell => k_is)
    (case l_law_cell => k_is)
    (case c_law_cell => k_is)
    (case k_law_cell => k_is)
    (case a_law_all_so => k_is)
    (case l_law_all_so => k_is)
    (case c_law_all_so => k_is)
    (case k_law_all_so => k_is)
    (case a_is_rising => k_is)
    (case l_is_rising => k_is)
    (case c_is_rising => k_is)
    (case k_is_rising => k_is)
    (case a_is_whole => k_is)
    (case l_is_whole => k_is)
    (case c_is_whole => k_is)
    (case k_is_whole => k_is)
    (case a_are_things => k_is)
    (case l_are_things => k_is)
    (case c_are_things => k_is)
    (case k_are_things => k_is)
    (case a_is_rising_row => k_is)
    (case l_is_rising_row => k_is)
    (case c_is_rising_row => k_is)
    (case k_is_rising_row => k_is)
    (case a_is_crowd => k_is)
    (case l_is_crowd => k_is)
    (case c_is_crowd => k_is)
    (case k_is_crowd => k_is)
    (case a_is_chain => k_is)
    (case l_is_chain => k_is)
    (case c_is_chain => k_is)
    (case k_is_chain => k_is)
    (case a_law_mixed => k_is)
    (case l_law_mixed => k_is)
    (case c_law_mixed => k_is)
    (case k_law_mixed => k_is)
    (case a_law_digits => k_is)
    (case l_law_digits => k_is)
    (case c_law_digits => k_is)
    (case k_law_digits => k_is)
    (case a_law_row => k_is)
    (case l_law_row => k_is)
    (case c_law_row => k_is)
    (case k_law_row => k_is)
    (case a_law_list => k_is)
    (case l_law_list => k_is)
    (case c_law_list => k_is)
    (case k_law_list => k_is)
    (case a_law_closed => k_is)
    (case l_law_closed => k_is)
    (case c_law_closed => k_is)
    (case k_law_closed => k_is)
    (case a_law_order => k_is)
    (case l_law_order => k_is)
    (case c_law_order => k_is)
    (case k_law_order => k_is)
    (case a_law => k_is)
    (case l_law => k_is)
    (case c_law => k_is)
    (case k_law => k_is)
    (case z_abs => k_is)
    (case z_all => k_is)
    (case z_any => k_is)
    (case z_bool => k_is)
    (case z_enumerate => k_is)
    (case z_int => k_is)
    (case z_isinstance => k_is)
    (case z_len => k_is)
    (case z_list => k_is)
    (case z_range => k_is)
    (case z_set => k_is)
    (case z_sorted => k_is)
